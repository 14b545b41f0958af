/-
  The plain mathematics of layer sweep, of one chain: which versions are needed, the chain without the others; nobody that counts sees another value; few are left. No program stands here.
  The plain mathematics of layer sweep, of cells: the keys from one on, going round; a sweep; swept on and on each chain is pruned; what is committed last stays. No program stands here.
  The plain mathematics of layer sweep, of cells, by places. No program stands here.
  The plain mathematics of layer sweep, of cells, one chain after the other: a chain in its turn, set to what is left of it; a chain of which all is left. No program stands here.
  The plain mathematics of layer sweep: versions marked one after the other, and what is needed. No program stands here.
-/
import Derived.Test.YtmlocdfjjgbnjaaJB
import Derived.Test.YtmlocdfjjgbnjaaJD
namespace Go.Proofs.Ytmlocdfjjgbnjaa.Sw
open Cn

def maxI : Int := 9223372036854775807
/-- v is the last version that is done and isn't above ts -/
def topB (c : Ch) (ts : Int) (v : Vr) : Bool := v.done && decide (v.ts ≤ ts) && c.all (fun x => !x.done || decide (ts < x.ts) || decide (x.ts ≤ v.ts))
def counts (c : Ch) (act : List Int) : List Int := act ++ (c.filter (fun v => !v.done)).map Vr.ts
def needB (c : Ch) (act : List Int) (v : Vr) : Bool := mayB c && (!v.done || topB c maxI v || (counts c act).any (fun a => topB c a v))
def needs (c : Ch) (act : List Int) : List Bool := c.map (needB c act)
def keptC (c : Ch) (act : List Int) : Ch := c.filter (needB c act)
/-- one version alone, that has nothing, and whose Read is below each of act -/
def bareB (c : Ch) (act : List Int) : Bool := match c with
  | [v] => decide (v.val = ByteArray.empty) && act.all (fun a => decide (v.rd < a))
  | _ => false
def pruneC (c : Ch) (act : List Int) : Ch := if bareB (keptC c act) act = true then [] else keptC c act

section
variable {c y : Ch} {act act' : List Int} {v x u : Vr} {ts a : Int}

theorem topB_iff : topB c ts v = true ↔ v.done = true ∧ v.ts ≤ ts ∧ ∀ x ∈ c, x.done = true → x.ts ≤ ts → x.ts ≤ v.ts := by
  unfold topB
  simp only [Bool.and_eq_true, decide_eq_true_eq, List.all_eq_true, Bool.or_eq_true, Bool.not_eq_true', and_assoc]
  refine and_congr_right (fun _ => and_congr_right (fun _ => forall_congr' (fun x => forall_congr' (fun _ => ?_))))
  constructor
  · intro h h1 h2
    rcases h with (h | h) | h
    · rw [h] at h1; cases h1
    · omega
    · exact h
  · intro h
    cases hd : x.done with
    | false => exact Or.inl (Or.inl rfl)
    | true =>
      by_cases e : ts < x.ts
      · exact Or.inl (Or.inr e)
      · exact Or.inr (h hd (by omega))
theorem topB_uniq (hm : May c) (hv : v ∈ c) (hx : x ∈ c) (h1 : topB c ts v = true) (h2 : topB c ts x = true) : v = x := by
  obtain ⟨a1, a2, a3⟩ := topB_iff.1 h1
  obtain ⟨b1, b2, b3⟩ := topB_iff.1 h2
  have := a3 x hx b1 b2
  have := b3 v hv a1 a2
  exact uniq hm hv hx (by omega)
/-- there is one, if any is done and not above -/
theorem top_ex : ∀ c : Ch, (∃ x ∈ c, x.done = true ∧ x.ts ≤ ts) → ∃ v ∈ c, topB c ts v = true := by
  intro c
  induction c with
  | nil => rintro ⟨x, hx, _⟩; cases hx
  | cons z c ih =>
    rintro ⟨x, hx, h1, h2⟩
    by_cases hc : ∃ x ∈ c, x.done = true ∧ x.ts ≤ ts
    · obtain ⟨v, hv, ht⟩ := ih hc
      obtain ⟨t1, t2, t3⟩ := topB_iff.1 ht
      by_cases hz : z.done = true ∧ z.ts ≤ ts ∧ v.ts < z.ts
      · refine ⟨z, by simp, topB_iff.2 ⟨hz.1, hz.2.1, fun x hx h1 h2 => ?_⟩⟩
        rcases List.mem_cons.1 hx with rfl | hx
        · exact Int.le_refl _
        · have := t3 x hx h1 h2; omega
      · refine ⟨v, by simp [hv], topB_iff.2 ⟨t1, t2, fun x hx h1 h2 => ?_⟩⟩
        rcases List.mem_cons.1 hx with rfl | hx
        · by_cases e : v.ts < x.ts
          · exact absurd ⟨h1, h2, e⟩ hz
          · omega
        · exact t3 x hx h1 h2
    · have hno : ∀ x ∈ c, x.done = true → ¬ x.ts ≤ ts := fun x hx h1 h2 => hc ⟨x, hx, h1, h2⟩
      rcases List.mem_cons.1 hx with rfl | hx
      · refine ⟨x, by simp, topB_iff.2 ⟨h1, h2, fun y hy g1 g2 => ?_⟩⟩
        rcases List.mem_cons.1 hy with rfl | hy
        · exact Int.le_refl _
        · exact absurd g2 (hno y hy g1)
      · exact absurd h2 (hno x hx h1)
theorem need_iff (hm : May c) : needB c act v = true ↔ v.done = false ∨ topB c maxI v = true ∨ ∃ a ∈ counts c act, topB c a v = true := by
  unfold needB
  rw [(mayB_iff c).2 hm]
  simp only [Bool.true_and, Bool.or_eq_true, Bool.not_eq_true', List.any_eq_true, or_assoc]
theorem need_not (hm : ¬ May c) : needB c act v = false := by unfold needB; rw [mayB_false hm]; rfl
theorem kept_not (hm : ¬ May c) : keptC c act = [] := by
  unfold keptC
  rw [List.filter_eq_nil_iff]
  intro v _
  rw [need_not hm]
  simp
theorem prune_not (hm : ¬ May c) : pruneC c act = [] := by
  unfold pruneC
  rw [kept_not hm]
  simp
theorem kept_mem : v ∈ keptC c act ↔ v ∈ c ∧ needB c act v = true := by unfold keptC; exact List.mem_filter
theorem kept_sub : (keptC c act).Sublist c := List.filter_sublist
theorem undone_kept (hm : May c) (hv : v ∈ c) (hd : v.done = false) : v ∈ keptC c act := kept_mem.2 ⟨hv, (need_iff hm).2 (Or.inl hd)⟩
theorem top_kept (hm : May c) (hv : v ∈ c) (ha : a ∈ counts c act) (h : topB c a v = true) : v ∈ keptC c act := kept_mem.2 ⟨hv, (need_iff hm).2 (Or.inr (Or.inr ⟨a, ha, h⟩))⟩
theorem max_kept (hm : May c) (hv : v ∈ c) (h : topB c maxI v = true) : v ∈ keptC c act := kept_mem.2 ⟨hv, (need_iff hm).2 (Or.inr (Or.inl h))⟩

theorem need_mono (hs : ∀ a ∈ act', a ∈ act) (h : needB c act' v = true) : needB c act v = true := by
  by_cases hm : May c
  · rcases (need_iff hm).1 h with h | h | ⟨a, ha, h⟩
    · exact (need_iff hm).2 (Or.inl h)
    · exact (need_iff hm).2 (Or.inr (Or.inl h))
    · refine (need_iff hm).2 (Or.inr (Or.inr ⟨a, ?_, h⟩))
      unfold counts at ha ⊢
      rcases List.mem_append.1 ha with ha | ha
      · exact List.mem_append.2 (Or.inl (hs a ha))
      · exact List.mem_append.2 (Or.inr ha)
  · rw [need_not hm] at h; cases h

/-- what is left may be -/
theorem may_kept (hm : May c) (hr : ∀ v ∈ c, v.ts ≤ maxI) : May (keptC c act) := by
  obtain ⟨f, r, e, hf⟩ := hm.first
  have hfc : f ∈ c := by rw [e]; simp
  obtain ⟨t, ht, htt⟩ := top_ex (ts := maxI) c ⟨f, hfc, hf, hr f hfc⟩
  have htk := max_kept (act := act) hm ht htt
  have hup := hm.up.sublist (kept_sub (act := act))
  refine ⟨fun v hv => hm.ok v (kept_mem.1 hv).1, hup, ?_⟩
  cases ek : keptC c act with
  | nil => rw [ek] at htk; cases htk
  | cons z k =>
    refine ⟨z, k, rfl, ?_⟩
    cases hd : z.done with
    | true => rfl
    | false =>
      exfalso
      have hzk : z ∈ keptC c act := by rw [ek]; simp
      have hz := (kept_mem.1 hzk).1
      have hfz : f.ts ≤ z.ts := by
        rw [e] at hz
        rcases List.mem_cons.1 hz with rfl | hz
        · exact Int.le_refl _
        · have := hm.up
          rw [e] at this
          exact Int.le_of_lt ((List.pairwise_cons.1 this).1 z hz)
      obtain ⟨s, hs, hst⟩ := top_ex (ts := z.ts) c ⟨f, hfc, hf, hfz⟩
      have hcz : z.ts ∈ counts c act := List.mem_append.2 (Or.inr (List.mem_map.2 ⟨z, List.mem_filter.2 ⟨hz, by rw [hd]; rfl⟩, rfl⟩))
      have hsk := top_kept hm hs hcz hst
      obtain ⟨s1, s2, _⟩ := topB_iff.1 hst
      rw [ek] at hsk
      rcases List.mem_cons.1 hsk with rfl | hsk
      · rw [hd] at s1; cases s1
      · rw [ek] at hup
        have := (List.pairwise_cons.1 hup).1 s hsk
        omega
theorem counts_kept (hm : May c) : counts (keptC c act) act = counts c act := by
  unfold counts
  congr 1
  congr 1
  unfold keptC
  rw [List.filter_filter]
  refine List.filter_congr (fun v _ => ?_)
  cases hd : v.done with
  | true => rfl
  | false => rw [show needB c act v = true from (need_iff hm).2 (Or.inl hd)]; rfl
theorem top_sub (hv : topB c a v = true) (hs : ∀ x ∈ y, x ∈ c) : topB y a v = true := by
  obtain ⟨h1, h2, h3⟩ := topB_iff.1 hv
  exact topB_iff.2 ⟨h1, h2, fun x hx => h3 x (hs x hx)⟩
/-- pruned twice is pruned once -/
theorem kept_kept (hm : May c) (hr : ∀ v ∈ c, v.ts ≤ maxI) : keptC (keptC c act) act = keptC c act := by
  have hk := may_kept (act := act) hm hr
  refine List.filter_eq_self.2 (fun v hv => ?_)
  obtain ⟨hvc, hn⟩ := kept_mem.1 hv
  have hs : ∀ x ∈ keptC c act, x ∈ c := fun x hx => (kept_mem.1 hx).1
  rw [need_iff hk, counts_kept hm]
  rcases (need_iff hm).1 hn with h | h | ⟨a, ha, h⟩
  · exact Or.inl h
  · exact Or.inr (Or.inl (top_sub h hs))
  · exact Or.inr (Or.inr ⟨a, ha, top_sub h hs⟩)
theorem prune_or (c : Ch) (act : List Int) : pruneC c act = [] ∨ (pruneC c act = keptC c act ∧ bareB (keptC c act) act = false) := by
  unfold pruneC
  cases e : bareB (keptC c act) act with
  | true => rw [if_pos rfl]; exact Or.inl rfl
  | false => rw [if_neg Bool.false_ne_true]; exact Or.inr ⟨rfl, rfl⟩
theorem prune_ne (h : pruneC c act ≠ []) : pruneC c act = keptC c act ∧ bareB (keptC c act) act = false := (prune_or c act).resolve_left h
theorem prune_prune (hr : ∀ v ∈ c, v.ts ≤ maxI) (h : pruneC c act ≠ []) : pruneC (pruneC c act) act = pruneC c act := by
  obtain ⟨e, hb⟩ := prune_ne h
  have hm : May c := by
    by_cases hm : May c
    · exact hm
    · exact absurd (prune_not hm) h
  rw [e]
  unfold pruneC
  rw [kept_kept hm hr, hb, if_neg Bool.false_ne_true]
theorem prune_may (hr : ∀ v ∈ c, v.ts ≤ maxI) (h : pruneC c act ≠ []) : May (pruneC c act) := by
  have hm : May c := by
    by_cases hm : May c
    · exact hm
    · exact absurd (prune_not hm) h
  rw [(prune_ne h).1]
  exact may_kept hm hr
theorem prune_sub : (pruneC c act).Sublist c := by
  rcases prune_or c act with e | ⟨e, _⟩
  · rw [e]; exact List.nil_sublist _
  · rw [e]; exact kept_sub
theorem bare_iff (h : bareB y act = true) : ∃ v, y = [v] ∧ v.val = ByteArray.empty ∧ ∀ a ∈ act, v.rd < a := by
  unfold bareB at h
  match y with
  | [v] =>
    simp only [Bool.and_eq_true, decide_eq_true_eq, List.all_eq_true] at h
    exact ⟨v, rfl, h.1, h.2⟩
  | [] => cases h
  | _ :: _ :: _ => cases h

/-- a chain without what isn't needed; without anything, a fresh one -/
def prunedC (c : Ch) (act : List Int) : Ch := if pruneC c act = [] then fresh else pruneC c act
theorem may_fresh : May fresh := ⟨fun v hv => by rw [fresh, List.mem_singleton] at hv; subst hv; exact ⟨Int.le_refl _, Int.le_refl _⟩, List.pairwise_singleton _ _, _, _, rfl, rfl⟩
theorem pruned_may (hr : ∀ v ∈ c, v.ts ≤ maxI) : May (prunedC c act) := by
  unfold prunedC
  split
  · exact may_fresh
  · rename_i h
    exact prune_may hr h
theorem late_write (hm : May c) (hs : Seen c ts v) : writeE c ts = if lateV v ts = true then 8 else 0 := by
  obtain ⟨a, b, hp⟩ := hs.sp hm
  cases h : lateV v ts with
  | true => rw [if_pos rfl]; exact (hp.late (val := ByteArray.empty) hm h).2
  | false =>
    rw [if_neg Bool.false_ne_true]
    by_cases e : v.ts = ts
    · exact (hp.own (val := ByteArray.empty) hm h e).2
    · exact (hp.new (val := ByteArray.empty) hm h e).2
/-- nobody that counts, and nobody who comes later, sees another value, or may write what it couldn't, or no more -/
theorem safe (hm : May c) (hr : ∀ v ∈ c, v.ts ≤ maxI) (ht : 1 ≤ ts) (hs : Seen c ts v) (hc : ts ∈ counts c act ∨ ((∀ x ∈ c, x.rd < ts))) : 
    (readV c ts).val = (readV (prunedC c act) ts).val ∧ (readV c ts).done = (readV (prunedC c act) ts).done ∧ writeE c ts = writeE (prunedC c act) ts := by
  have hv : v ∈ keptC c act := by
    cases hd : v.done with
    | false => exact undone_kept hm hs.mem hd
    | true =>
      rcases hc with hc | hc
      · exact top_kept hm hs.mem hc (topB_iff.2 ⟨hd, hs.le, fun x hx _ h2 => hs.top x hx h2⟩)
      · refine max_kept hm hs.mem (topB_iff.2 ⟨hd, hr v hs.mem, fun x hx _ _ => hs.top x hx ?_⟩)
        have := (hm.ok x hx).2
        have := hc x hx
        omega
  have hk := may_kept (act := act) hm hr
  unfold prunedC
  by_cases e : pruneC c act = []
  · rw [if_pos e]
    have hb : bareB (keptC c act) act = true := by
      cases hb : bareB (keptC c act) act with
      | true => rfl
      | false =>
        unfold pruneC at e
        rw [hb, if_neg Bool.false_ne_true] at e
        rw [e] at hv; cases hv
    obtain ⟨u, eu, h1, h2⟩ := bare_iff hb
    rw [eu, List.mem_singleton] at hv
    subst hv
    have hd : v.done = true := by
      obtain ⟨f, r, e2, hf⟩ := hk.first
      rw [eu] at e2
      cases e2
      exact hf
    have hrd : v.rd < ts := by
      rcases hc with hc | hc
      · unfold counts at hc
        rcases List.mem_append.1 hc with hc | hc
        · exact h2 ts hc
        · obtain ⟨z, hz, rfl⟩ := List.mem_map.1 hc
          obtain ⟨hz1, hz2⟩ := List.mem_filter.1 hz
          have hz3 : z.done = false := by simpa using hz2
          have := undone_kept (act := act) hm hz1 hz3
          rw [eu, List.mem_singleton] at this
          subst this
          rw [hd] at hz3; cases hz3
      · exact hc v hs.mem
    have hvr := (hm.ok v hs.mem).2
    have hf : Seen fresh ts ⟨0, 0, ByteArray.empty, true⟩ := ⟨by simp [fresh], by show (0 : Int) ≤ ts; omega, fun x hx _ => by rw [fresh, List.mem_singleton] at hx; subst hx; exact Int.le_refl _⟩
    rw [hs.readV hm, hf.readV may_fresh, late_write hm hs, late_write may_fresh hf]
    have l1 : lateV v ts = false := by
      unfold lateV
      rw [decide_eq_false (by omega), decide_eq_false (by omega)]
      simp
    have l2 : lateV ⟨0, 0, ByteArray.empty, true⟩ ts = false := by
      unfold lateV
      rw [decide_eq_false (by show ¬ ts < 0; omega), decide_eq_false (by show ¬ (0 : Int) = ts; omega)]
      simp
    rw [l1, l2]
    exact ⟨h1, hd, rfl⟩
  · rw [if_neg e, (prune_ne e).1]
    have hs2 : Seen (keptC c act) ts v := ⟨hv, hs.le, fun x hx h => hs.top x (kept_mem.1 hx).1 h⟩
    rw [hs.readV hm, hs2.readV hk, late_write hm hs, late_write hk hs2]
    exact ⟨rfl, rfl, rfl⟩

/-! ### few -/
theorem nodup_leI : ∀ (A B : List Int), A.Nodup → (∀ x ∈ A, x ∈ B) → A.length ≤ B.length
  | [], _, _, _ => Nat.zero_le _
  | a :: A, B, hn, hs => by
    have hn := List.nodup_cons.1 hn
    have ha := hs a (by simp)
    have h1 : ∀ x ∈ A, x ∈ B.erase a := fun x hx => (List.mem_erase_of_ne (fun e => hn.1 (by rw [← e]; exact hx))).2 (hs x (by simp [hx]))
    have h2 := nodup_leI A (B.erase a) hn.2 h1
    rw [List.length_erase_of_mem ha] at h2
    have : 0 < B.length := List.length_pos_of_mem ha
    simp only [List.length_cons]
    omega
def opens (c : Ch) : Nat := (c.filter (fun v => !v.done)).length
theorem few_left (hm : May c) : (keptC c act).length ≤ 1 + act.length + 2 * opens c := by
  have h1 : (keptC c act).length = ((keptC c act).filter (fun v => !v.done)).length + ((keptC c act).filter (fun v => !!v.done)).length := by
    have : ∀ l : Ch, l.length = (l.filter (fun v => !v.done)).length + (l.filter (fun v => !!v.done)).length := by
      intro l
      induction l with
      | nil => rfl
      | cons v l ih => cases hd : v.done <;> simp [hd] at ih ⊢ <;> omega
    exact this _
  have h2 : ((keptC c act).filter (fun v => !v.done)).length ≤ opens c := (kept_sub.filter _).length_le
  have h3 : ((keptC c act).filter (fun v => !!v.done)).length ≤ (maxI :: counts c act).length := by
    obtain ⟨L, hL⟩ : ∃ L, L = (keptC c act).filter (fun v => !!v.done) := ⟨_, rfl⟩
    rw [← hL]
    have hLm : ∀ v ∈ L, v ∈ c ∧ ∃ a ∈ maxI :: counts c act, topB c a v = true := fun v hv => by
      rw [hL] at hv
      obtain ⟨hk, hd⟩ := List.mem_filter.1 hv
      obtain ⟨hc, hn⟩ := kept_mem.1 hk
      refine ⟨hc, ?_⟩
      rcases (need_iff hm).1 hn with h | h | ⟨a, ha, h⟩
      · rw [h] at hd; cases hd
      · exact ⟨maxI, by simp, h⟩
      · exact ⟨a, by simp [ha], h⟩
    have hLn : L.Pairwise (fun a b => a.ts < b.ts) := by rw [hL]; exact (hm.up.sublist kept_sub).sublist List.filter_sublist
    obtain ⟨f, hf⟩ : ∃ f : Vr → Int, f = fun v => ((maxI :: counts c act).find? (fun a => topB c a v)).getD 0 := ⟨_, rfl⟩
    have hfa : ∀ v ∈ L, f v ∈ maxI :: counts c act ∧ topB c (f v) v = true := fun v hv => by
      obtain ⟨_, a, ha, ht⟩ := hLm v hv
      cases e : (maxI :: counts c act).find? (fun a => topB c a v) with
      | none => exact absurd ht (by simpa using List.find?_eq_none.1 e a ha)
      | some b =>
        have : f v = b := by rw [hf]; dsimp only; rw [e]; rfl
        rw [this]
        exact ⟨List.mem_of_find?_eq_some e, by simpa using List.find?_some e⟩
    rw [← List.length_map (f := f)]
    refine nodup_leI _ _ ?_ (fun x hx => ?_)
    · rw [List.Nodup, List.pairwise_map]
      refine hLn.imp_of_mem (fun {x y} hx hy hxy e => ?_)
      have hx2 := (hfa x hx).2
      have hy2 := (hfa y hy).2
      rw [e] at hx2
      have := topB_uniq hm (hLm x hx).1 (hLm y hy).1 hx2 hy2
      rw [this] at hxy
      omega
    · obtain ⟨v, hv, rfl⟩ := List.mem_map.1 hx
      exact (hfa v hv).1
  have h4 : (maxI :: counts c act).length = 1 + act.length + opens c := by
    unfold counts opens
    simp
    omega
  omega
theorem few_pruned (c : Ch) (act : List Int) : (pruneC c act).length ≤ 1 + act.length + 2 * opens c := by
  by_cases hm : May c
  · rcases prune_or c act with e | ⟨e, _⟩
    · rw [e]; simp
    · rw [e]; exact few_left hm
  · rw [prune_not hm]; simp
end

/-! ### by places -/
/-- the place of the last version among the first k that is done and isn't above ts; -1: there is none -/
def lastI (c : Ch) (ts : Int) : Nat → Int
  | 0 => -1
  | k + 1 => if (getV c k).done = true ∧ (getV c k).ts ≤ ts then (k : Int) else lastI c ts k
theorem lastI_spec (c : Ch) (ts : Int) : ∀ k, (lastI c ts k = -1 ∨ ∃ j : Nat, j < k ∧ lastI c ts k = (j : Int) ∧ (getV c j).done = true ∧ (getV c j).ts ≤ ts) ∧ ∀ j : Nat, j < k → (getV c j).done = true → (getV c j).ts ≤ ts → (j : Int) ≤ lastI c ts k
  | 0 => ⟨Or.inl rfl, fun j h => absurd h (Nat.not_lt_zero _)⟩
  | k + 1 => by
    obtain ⟨h1, h2⟩ := lastI_spec c ts k
    unfold lastI
    by_cases e : (getV c k).done = true ∧ (getV c k).ts ≤ ts
    · rw [if_pos e]
      exact ⟨Or.inr ⟨k, by omega, rfl, e⟩, fun j hj _ _ => by omega⟩
    · rw [if_neg e]
      refine ⟨h1.imp id (fun ⟨j, a, b⟩ => ⟨j, by omega, b⟩), fun j hj g1 g2 => ?_⟩
      by_cases ej : j = k
      · subst ej; exact absurd ⟨g1, g2⟩ e
      · exact h2 j (by omega) g1 g2
theorem getV_at {c : Ch} {i : Nat} (hi : i < c.length) : getV c i = c[i] := by unfold getV; rw [List.getD_eq_getElem?_getD, List.getElem?_eq_getElem hi]; rfl
theorem lastI_top {c : Ch} (hm : May c) (ts : Int) {i : Nat} (hi : i < c.length) : (i : Int) = lastI c ts c.length ↔ topB c ts c[i] = true := by
  obtain ⟨h1, h2⟩ := lastI_spec c ts c.length
  have hp := List.pairwise_iff_getElem.1 hm.up
  rw [topB_iff]
  constructor
  · intro e
    rcases h1 with h1 | ⟨j, hj, h1, g1, g2⟩
    · omega
    · have : i = j := by omega
      subst this
      rw [getV_at hi] at g1 g2
      refine ⟨g1, g2, fun x hx d1 d2 => ?_⟩
      obtain ⟨k, hk, rfl⟩ := List.getElem_of_mem hx
      have := h2 k hk (by rw [getV_at hk]; exact d1) (by rw [getV_at hk]; exact d2)
      by_cases ek : k = i
      · subst ek; exact Int.le_refl _
      · exact Int.le_of_lt (hp k i hk hi (by omega))
  · rintro ⟨g1, g2, g3⟩
    have h3 := h2 i hi (by rw [getV_at hi]; exact g1) (by rw [getV_at hi]; exact g2)
    rcases h1 with h1 | ⟨j, hj, h1, k1, k2⟩
    · omega
    · rw [getV_at hj] at k1 k2
      have := g3 c[j] (List.getElem_mem hj) k1 k2
      by_cases e : i < j
      · have := hp i j hi hj e
        omega
      · omega
end Go.Proofs.Ytmlocdfjjgbnjaa.Sw

namespace Go.Proofs.Ytmlocdfjjgbnjaa.Sw
open Cn Cl

section
variable {c : Ch} {act : List Int} {v : Vr}
theorem prune_fresh (act : List Int) : pruneC fresh act = [] ∨ pruneC fresh act = fresh := by
  have h := prune_sub (c := fresh) (act := act)
  generalize pruneC fresh act = y at h
  cases h with
  | cons _ h => exact Or.inl (List.sublist_nil.1 h)
  | cons_cons _ h => rw [List.sublist_nil.1 h]; exact Or.inr rfl
theorem pruned_fresh (act : List Int) : prunedC fresh act = fresh := by
  unfold prunedC
  rcases prune_fresh act with e | e
  · rw [if_pos e]
  · rw [e, if_neg (by unfold fresh; simp)]
theorem pruned_pruned (hr : ∀ v ∈ c, v.ts ≤ maxI) : prunedC (prunedC c act) act = prunedC c act := by
  by_cases e : pruneC c act = []
  · have : prunedC c act = fresh := by unfold prunedC; rw [if_pos e]
    rw [this, pruned_fresh]
  · have : prunedC c act = pruneC c act := by unfold prunedC; rw [if_neg e]
    rw [this]
    unfold prunedC
    rw [prune_prune hr e, if_neg e]
theorem lastV_no (s : ByteArray) : ∀ B : Ch, (∀ x ∈ B, x.done = false) → lastV s B = s
  | [], _ => rfl
  | x :: B, h => by
    unfold lastV
    rw [List.foldl_cons, h x (by simp), if_neg Bool.false_ne_true]
    exact lastV_no s B (fun y hy => h y (by simp [hy]))
theorem lastV_mid (s : ByteArray) (A B : Ch) (hd : v.done = true) (hB : ∀ x ∈ B, x.done = false) : lastV s (A ++ v :: B) = v.val := by
  unfold lastV
  rw [List.foldl_append, List.foldl_cons, if_pos hd]
  exact lastV_no v.val B hB
/-- what is committed last stays -/
theorem last_kept (hm : May c) (hr : ∀ v ∈ c, v.ts ≤ maxI) (s : ByteArray) : lastV s (keptC c act) = lastV s c := by
  obtain ⟨f, r, e, hf⟩ := hm.first
  have hfc : f ∈ c := by rw [e]; simp
  obtain ⟨t, ht, htt⟩ := top_ex (ts := maxI) c ⟨f, hfc, hf, hr f hfc⟩
  have hk := max_kept (act := act) hm ht htt
  obtain ⟨t1, t2, t3⟩ := topB_iff.1 htt
  obtain ⟨A, B, rfl⟩ := List.append_of_mem ht
  have hlt := hm.lt_v.2
  have hB : ∀ x ∈ B, x.done = false := fun x hx => by
    cases hd : x.done with
    | false => rfl
    | true =>
      have := t3 x (by simp [hx]) hd (hr x (by simp [hx]))
      have := hlt x hx
      omega
  have ek : keptC (A ++ t :: B) act = A.filter (needB (A ++ t :: B) act) ++ t :: B.filter (needB (A ++ t :: B) act) := by
    unfold keptC
    rw [List.filter_append, List.filter_cons, if_pos (kept_mem.1 hk).2]
  rw [ek, lastV_mid s _ _ t1 (fun x hx => hB x (List.mem_filter.1 hx).1), lastV_mid s A B t1 hB]
end

/-! ### going round -/
def rot (X : Cs) (k : Ky) : Cs := X.dropWhile (Cl.ahead k) ++ X.takeWhile (Cl.ahead k)
def many (X : Cs) (batch : Int) : Nat := min batch.toNat X.length
def takenK (X : Cs) (k : Ky) (m : Nat) : List Ky := ((rot X k).take m).map Prod.fst
def nextK (X : Cs) (k : Ky) (m : Nat) : Ky := if m = 0 then k else (((rot X k).drop m ++ rot X k).headD (k, [])).1
def goneI (act : List Int) (L : Cs) : Int := (L.map (fun p => (p.2.length : Int) - ((pruneC p.2 act).length : Int))).sum
def sweepS (X : Cs) (act : List Int) (S : List Ky) : Cs := X.flatMap (fun p => if p.1 ∈ S then one p.1 (pruneC p.2 act) else [p])
structure RngX (X : Cs) : Prop where
  le : ∀ p ∈ X, ∀ v ∈ p.2, v.ts ≤ maxI

section
variable {X Y A B : Cs} {k z : Ky} {act : List Int} {S : List Ky} {m : Nat} {p q : Ky × Ch}

theorem rot_length : (rot X k).length = X.length := by
  have : (X.takeWhile (Cl.ahead k) ++ X.dropWhile (Cl.ahead k)).length = X.length := by rw [List.takeWhile_append_dropWhile]
  unfold rot
  rw [List.length_append] at this ⊢
  omega
theorem rot_mem : p ∈ rot X k ↔ p ∈ X := by
  have : p ∈ X.takeWhile (Cl.ahead k) ++ X.dropWhile (Cl.ahead k) ↔ p ∈ X := by rw [List.takeWhile_append_dropWhile]
  unfold rot
  rw [List.mem_append] at this ⊢
  exact Or.comm.trans this
theorem rot_at {i : Nat} (hi : i < X.length) (hi' : i < (rot X k).length) (hj : ((X.takeWhile (Cl.ahead k)).length + i) % X.length < X.length) : (rot X k)[i] = X[((X.takeWhile (Cl.ahead k)).length + i) % X.length] := by
  obtain ⟨a, ha⟩ : ∃ a, a = X.takeWhile (Cl.ahead k) := ⟨_, rfl⟩
  obtain ⟨b, hb⟩ : ∃ b, b = X.dropWhile (Cl.ahead k) := ⟨_, rfl⟩
  have e : X = a ++ b := by rw [ha, hb, List.takeWhile_append_dropWhile]
  have er : rot X k = b ++ a := by unfold rot; rw [ha, hb]
  have hl : X.length = a.length + b.length := by rw [e, List.length_append]
  have h1 : (rot X k)[i]? = X[((X.takeWhile (Cl.ahead k)).length + i) % X.length]? := by
    rw [er, ← ha]
    by_cases h : i < b.length
    · rw [Nat.mod_eq_of_lt (by omega), List.getElem?_append_left h]
      conv => rhs; rw [e]
      rw [List.getElem?_append_right (by omega)]
      congr 1
      omega
    · have : (a.length + i) % X.length = i - b.length := by
        rw [Nat.mod_eq_sub_mod (by omega), Nat.mod_eq_of_lt (by omega)]
        omega
      rw [this, List.getElem?_append_right (by omega)]
      conv => rhs; rw [e]
      rw [List.getElem?_append_left (by omega)]
  rw [List.getElem?_eq_getElem hi', List.getElem?_eq_getElem hj] at h1
  exact Option.some.inj h1
theorem keys_nodup (h : Ord X) : (X.map Prod.fst).Nodup := by
  rw [List.Nodup, List.pairwise_map]
  exact h.up.imp (fun h => less_ne h)
theorem rot_nodup (h : Ord X) : ((rot X k).map Prod.fst).Nodup := by
  have hp : (rot X k).Perm X := by
    unfold rot
    refine List.perm_append_comm.trans ?_
    rw [List.takeWhile_append_dropWhile]
  exact (hp.map Prod.fst).nodup_iff.2 (keys_nodup h)
/-- who is taken -/
theorem taken_iff (h : Ord X) {i : Nat} (hi : i < (rot X k).length) : ((rot X k)[i]).1 ∈ takenK X k m ↔ i < m := by
  have hn := rot_nodup (k := k) h
  rw [List.Nodup, List.pairwise_map] at hn
  have hn := List.pairwise_iff_getElem.1 hn
  unfold takenK
  rw [List.mem_map]
  constructor
  · rintro ⟨q, hq, e⟩
    obtain ⟨j, hj, rfl⟩ := List.getElem_of_mem hq
    rw [List.length_take] at hj
    rw [List.getElem_take] at e
    rcases Nat.lt_trichotomy i j with g | g | g
    · omega
    · omega
    · exact absurd e (hn j i (by omega) hi g)
  · intro hm
    refine ⟨(rot X k)[i], ?_, rfl⟩
    rw [List.mem_take_iff_getElem]
    exact ⟨i, by omega, rfl⟩

theorem one_sub (k : Ky) (c : Ch) : ∀ q ∈ one k c, q = (k, c) ∧ May c := by
  intro q hq
  unfold one at hq
  split at hq
  · rename_i h
    rw [List.mem_singleton] at hq
    exact ⟨hq, (mayB_iff c).1 h⟩
  · cases hq
theorem sweep_mem : q ∈ sweepS X act S ↔ ∃ p ∈ X, q ∈ (if p.1 ∈ S then one p.1 (pruneC p.2 act) else [p]) := by unfold sweepS; rw [List.mem_flatMap]
theorem sweep_key (hq : q ∈ (if p.1 ∈ S then one p.1 (pruneC p.2 act) else [p])) : q.1 = p.1 := by
  split at hq
  · rw [(one_sub _ _ q hq).1]
  · rw [List.mem_singleton] at hq; rw [hq]
theorem sweep_ord (h : Ord X) : Ord (sweepS X act S) := by
  refine ⟨?_, fun q hq => ?_⟩
  · unfold sweepS
    rw [List.pairwise_flatMap]
    refine ⟨fun p _ => ?_, h.up.imp (fun {p p'} hpp x hx y hy => by rw [sweep_key hx, sweep_key hy]; exact hpp)⟩
    split
    · unfold one
      split <;> simp
    · exact List.pairwise_singleton _ _
  · obtain ⟨p, hp, hq⟩ := sweep_mem.1 hq
    split at hq
    · obtain ⟨e, hm⟩ := one_sub _ _ q hq
      rw [e]; exact hm
    · rw [List.mem_singleton] at hq; subst hq; exact h.may q hp
theorem sweep_rng (h : RngX X) : RngX (sweepS X act S) := ⟨fun q hq v hv => by
  obtain ⟨p, hp, hq⟩ := sweep_mem.1 hq
  split at hq
  · rw [(one_sub _ _ q hq).1] at hv
    exact h.le p hp v (prune_sub.subset hv)
  · rw [List.mem_singleton] at hq; subst hq; exact h.le q hp v hv⟩
theorem chain_rng (h : RngX X) (z : Ky) : ∀ v ∈ chain X z, v.ts ≤ maxI := by
  induction X with
  | nil => intro v hv; rw [show chain [] z = fresh from rfl, fresh, List.mem_singleton] at hv; subst hv; unfold maxI; decide
  | cons p X ih =>
    intro v hv
    unfold chain at hv
    split at hv
    · exact h.le p (by simp) v hv
    · exact ih ⟨fun q hq => h.le q (by simp [hq])⟩ v hv
/-- each chain behind a sweep -/
theorem sweep_chain : ∀ {X : Cs}, Ord X → RngX X → chain (sweepS X act S) z = if z ∈ S ∧ z ∈ X.map Prod.fst then prunedC (chain X z) act else chain X z
  | [], _, _ => by simp [sweepS, chain]
  | p :: X, h, hr => by
    have ht := h.tail
    have hr2 : RngX X := ⟨fun q hq => hr.le q (by simp [hq])⟩
    have ih := sweep_chain ht.1 hr2
    have e0 : sweepS (p :: X) act S = (if p.1 ∈ S then one p.1 (pruneC p.2 act) else [p]) ++ sweepS X act S := by unfold sweepS; rw [List.flatMap_cons]
    rw [e0]
    by_cases ez : p.1 = z
    · have hno : ∀ q ∈ X, q.1 ≠ z := fun q hq e => less_ne (ht.2 q hq) (by rw [ez, e])
      have hno2 : ∀ q ∈ sweepS X act S, q.1 ≠ z := fun q hq => by
        obtain ⟨r, hr, hq⟩ := sweep_mem.1 hq
        rw [sweep_key hq]
        exact hno r hr
      have e1 : chain (p :: X) z = p.2 := by unfold chain; rw [if_pos ez]
      rw [e1]
      by_cases hS : p.1 ∈ S
      · rw [if_pos hS, if_pos ⟨by rw [← ez]; exact hS, by rw [← ez]; simp⟩]
        unfold one prunedC
        cases hm : mayB (pruneC p.2 act) with
        | true =>
          have : pruneC p.2 act ≠ [] := fun e => by rw [e] at hm; cases hm
          rw [if_pos rfl, if_neg this]
          show chain ((p.1, pruneC p.2 act) :: sweepS X act S) z = _
          unfold chain
          rw [if_pos ez]
        | false =>
          rw [if_neg Bool.false_ne_true]
          have : pruneC p.2 act = [] := by
            by_cases e : pruneC p.2 act = []
            · exact e
            · have := (mayB_iff _).2 (prune_may (fun v hv => hr.le p (by simp) v hv) e)
              rw [hm] at this; cases this
          rw [if_pos this]
          exact chain_none _ _ hno2
      · rw [if_neg hS, if_neg (fun q => hS (by rw [ez]; exact q.1))]
        show chain (p :: sweepS X act S) z = _
        unfold chain
        rw [if_pos ez]
    · have e1 : chain (p :: X) z = chain X z := by conv => lhs; unfold chain; rw [if_neg ez]
      have e2 : chain ((if p.1 ∈ S then one p.1 (pruneC p.2 act) else [p]) ++ sweepS X act S) z = chain (sweepS X act S) z := chain_append _ _ _ (fun q hq => by rw [sweep_key hq]; exact ez)
      rw [e1, e2, ih]
      have e3 : z ∈ (p :: X).map Prod.fst ↔ z ∈ X.map Prod.fst := by simp [Ne.symm ez]
      simp only [e3]
theorem flatMap_same {α β : Type} {f g : α → List β} : ∀ (l : List α), (∀ a ∈ l, f a = g a) → l.flatMap f = l.flatMap g
  | [], _ => rfl
  | a :: l, h => by rw [List.flatMap_cons, List.flatMap_cons, h a (by simp), flatMap_same l (fun x hx => h x (by simp [hx]))]
/-- what is committed last stays -/
theorem sweep_newest (h : Ord X) (hr : RngX X) : newest (sweepS X act S) = newest X := by
  unfold newest sweepS
  rw [List.flatMap_assoc]
  refine flatMap_same _ (fun p hp => ?_)
  have hm := h.may p hp
  have hrp := hr.le p hp
  split
  · rcases prune_or p.2 act with e | ⟨e, hb⟩
    · rw [e]
      have h1 : lastV ByteArray.empty p.2 = ByteArray.empty := by
        rw [← last_kept (act := act) hm hrp]
        have hb : bareB (keptC p.2 act) act = true := by
          cases hb : bareB (keptC p.2 act) act with
          | true => rfl
          | false =>
            unfold pruneC at e
            rw [hb, if_neg Bool.false_ne_true] at e
            have := (may_kept (act := act) hm hrp).first
            rw [e] at this
            obtain ⟨_, _, e2, _⟩ := this
            cases e2
        obtain ⟨u, eu, hv, _⟩ := bare_iff hb
        rw [eu]
        unfold lastV
        simp only [List.foldl_cons, List.foldl_nil]
        split
        · exact hv
        · rfl
      rw [h1]
      rfl
    · have hk := may_kept (act := act) hm hrp
      rw [e]
      unfold one
      rw [if_pos ((mayB_iff _).2 hk)]
      simp [last_kept hm hrp]
  · simp

/-! ### on and on -/
theorem drop_rises (h : Ord X) {B : Cs} : X = A ++ q :: B → X.dropWhile (Cl.ahead q.1) = q :: B ∧ X.takeWhile (Cl.ahead q.1) = A := by
  rintro rfl
  have hu := List.pairwise_append.1 h.up
  have ha : ∀ p ∈ A, Cl.ahead q.1 p = true := fun p hp => hu.2.2 p hp q (by simp)
  have hq : Cl.ahead q.1 q = false := less_irrefl q.1
  refine ⟨?_, ?_⟩
  · rw [List.dropWhile_append_of_pos ha, List.dropWhile_cons, hq, if_neg Bool.false_ne_true]
  · rw [List.takeWhile_append_of_pos ha, List.takeWhile_cons, hq, if_neg Bool.false_ne_true, List.append_nil]
theorem sweep_append : sweepS (A ++ B) act S = sweepS A act S ++ sweepS B act S := by unfold sweepS; rw [List.flatMap_append]
theorem sweep_none (hS : ∀ p ∈ A, p.1 ∉ S) : sweepS A act S = A := by
  induction A with
  | nil => rfl
  | cons p A ih =>
    unfold sweepS at ih ⊢
    rw [List.flatMap_cons, if_neg (hS p (by simp)), ih (fun q hq => hS q (by simp [hq]))]
    rfl
/-- with whom it goes on: those that weren't taken come first -/
theorem rot_next (h : Ord X) (hm : 0 < m) (hlt : m < X.length) : ∃ R, rot (sweepS X act (takenK X k m)) (nextK X k m) = (rot X k).drop m ++ R := by
  obtain ⟨a, ha⟩ : ∃ a, a = X.takeWhile (Cl.ahead k) := ⟨_, rfl⟩
  obtain ⟨b, hb⟩ : ∃ b, b = X.dropWhile (Cl.ahead k) := ⟨_, rfl⟩
  have e : X = a ++ b := by rw [ha, hb, List.takeWhile_append_dropWhile]
  have er : rot X k = b ++ a := by unfold rot; rw [ha, hb]
  have hl : X.length = a.length + b.length := by rw [e, List.length_append]
  have hS : ∀ p ∈ (rot X k).drop m, p.1 ∉ takenK X k m := fun p hp hq => by
    obtain ⟨j, hj, rfl⟩ := List.getElem_of_mem hp
    rw [List.getElem_drop] at hq
    have := (taken_iff h (by rw [List.length_drop] at hj; omega)).1 hq
    omega
  obtain ⟨S, eS⟩ : ∃ S, S = takenK X k m := ⟨_, rfl⟩
  rw [← eS] at hS ⊢
  have hsw := sweep_ord (act := act) (S := S) h
  by_cases hmb : m < b.length
  · have e2 : b = b.take m ++ b.drop m := (List.take_append_drop m b).symm
    obtain ⟨q, b2, hq⟩ := List.exists_cons_of_ne_nil (l := b.drop m) (fun e => by have := congrArg List.length e; rw [List.length_drop] at this; simp at this; omega)
    have hd : (rot X k).drop m = q :: b2 ++ a := by rw [er, List.drop_append_of_le_length (by omega), hq]
    have hn : nextK X k m = q.1 := by unfold nextK; rw [if_neg (by omega), hd]; rfl
    have eX : X = a ++ (b.take m ++ (q :: b2)) := by rw [← hq, ← e2]; exact e
    have es : sweepS X act S = (a ++ sweepS (b.take m) act S) ++ q :: b2 := by
      conv => lhs; rw [eX]
      rw [sweep_append, sweep_append, sweep_none (A := a) (fun p hp => hS p (by rw [hd]; simp [hp])), sweep_none (A := q :: b2) (fun p hp => hS p (by rw [hd]; exact List.mem_append.2 (Or.inl hp)))]
      simp
    rw [hn]
    obtain ⟨d1, d2⟩ := drop_rises hsw es
    refine ⟨sweepS (b.take m) act S, ?_⟩
    unfold rot
    rw [d1, d2]
    rw [show X.dropWhile (Cl.ahead k) ++ X.takeWhile (Cl.ahead k) = rot X k from rfl, hd]
    simp
  · have e2 : a = a.take (m - b.length) ++ a.drop (m - b.length) := (List.take_append_drop _ a).symm
    obtain ⟨q, a2, hq⟩ := List.exists_cons_of_ne_nil (l := a.drop (m - b.length)) (fun e => by have := congrArg List.length e; rw [List.length_drop] at this; simp at this; omega)
    have hd : (rot X k).drop m = q :: a2 := by rw [er, List.drop_append, List.drop_eq_nil_of_le (by omega), hq]; rfl
    have hn : nextK X k m = q.1 := by unfold nextK; rw [if_neg (by omega), hd]; rfl
    have eX : X = a.take (m - b.length) ++ ((q :: a2) ++ b) := by
      rw [← hq, ← List.append_assoc, ← e2]; exact e
    have es : sweepS X act S = sweepS (a.take (m - b.length)) act S ++ q :: (a2 ++ sweepS b act S) := by
      conv => lhs; rw [eX]
      rw [sweep_append, sweep_append, sweep_none (A := q :: a2) (fun p hp => hS p (by rw [hd]; exact hp))]
      simp
    rw [hn]
    obtain ⟨d1, d2⟩ := drop_rises hsw es
    refine ⟨sweepS b act S ++ sweepS (a.take (m - b.length)) act S, ?_⟩
    conv => lhs; unfold rot; rw [d1, d2]
    rw [hd]
    simp

/-- behind r sweeps: each chain is pruned, or it is as it was, and its turn comes in time -/
structure On (X0 Y : Cs) (act : List Int) (κ : Ky) (r : Nat) : Prop where
  ord : Ord Y
  rng : RngX Y
  len : Y.length ≤ X0.length
  new : newest Y = newest X0
  each : ∀ z ∈ X0.map Prod.fst, chain Y z = prunedC (chain X0 z) act ∨ (chain Y z = chain X0 z ∧ ∃ i, i + r < X0.length ∧ ((rot Y κ)[i]?).map Prod.fst = some z)
theorem On.start (h : Ord X) (hr : RngX X) (κ : Ky) : On X X act κ 0 := ⟨h, hr, Nat.le_refl _, rfl, fun z hz => Or.inr ⟨rfl, by
  obtain ⟨p, hp, rfl⟩ := List.mem_map.1 hz
  obtain ⟨i, hi, e⟩ := List.getElem_of_mem (rot_mem (k := κ).2 hp)
  exact ⟨i, by rw [rot_length] at hi; omega, by rw [List.getElem?_eq_getElem hi, e]; rfl⟩⟩⟩
theorem sweep_len : (sweepS X act S).length ≤ X.length := by
  induction X with
  | nil => simp [sweepS]
  | cons p X ih =>
    have e0 : sweepS (p :: X) act S = (if p.1 ∈ S then one p.1 (pruneC p.2 act) else [p]) ++ sweepS X act S := by unfold sweepS; rw [List.flatMap_cons]
    rw [e0, List.length_append, List.length_cons]
    have : (if p.1 ∈ S then one p.1 (pruneC p.2 act) else [p]).length ≤ 1 := by
      split
      · unfold one; split <;> simp
      · simp
    omega
theorem On.step {κ : Ky} {r : Nat} (h : On X Y act κ r) (hr0 : RngX X) {batch : Int} (hb : 1 ≤ batch) : On X (sweepS Y act (takenK Y κ (many Y batch))) act (nextK Y κ (many Y batch)) (r + 1) := by
  refine ⟨sweep_ord h.ord, sweep_rng h.rng, Nat.le_trans sweep_len h.len, (sweep_newest h.ord h.rng).trans h.new, fun z hz => ?_⟩
  have hc := sweep_chain (act := act) (S := takenK Y κ (many Y batch)) (z := z) h.ord h.rng
  rcases h.each z hz with e | ⟨e, i, hi, hz2⟩
  · left
    rw [hc]
    split
    · rw [e, pruned_pruned (chain_rng hr0 z)]
    · exact e
  · have hil : i < (rot Y κ).length := by
      by_cases q : i < (rot Y κ).length
      · exact q
      · rw [List.getElem?_eq_none (by omega)] at hz2; cases hz2
    have hiY : i < Y.length := by rw [rot_length] at hil; exact hil
    rw [List.getElem?_eq_getElem hil] at hz2
    have hzk : (rot Y κ)[i].1 = z := Option.some.inj hz2
    have hmem : z ∈ Y.map Prod.fst := List.mem_map.2 ⟨_, rot_mem.1 (List.getElem_mem hil), hzk⟩
    have hti := taken_iff (m := many Y batch) h.ord hil
    rw [hzk] at hti
    by_cases him : i < many Y batch
    · left
      rw [hc, if_pos ⟨hti.2 him, hmem⟩, e]
    · right
      have hm0 : 0 < many Y batch := by unfold many; omega
      have hmn : many Y batch < Y.length := by omega
      obtain ⟨R, hR⟩ := rot_next (act := act) (k := κ) h.ord hm0 hmn
      refine ⟨by rw [hc, if_neg (fun q => him (hti.1 q.1)), e], i - many Y batch, by omega, ?_⟩
      rw [hR, List.getElem?_append_left (by rw [List.length_drop]; omega), List.getElem?_drop]
      rw [show many Y batch + (i - many Y batch) = i by omega, List.getElem?_eq_getElem hil, Option.map_some, hzk]
theorem On.fin {κ : Ky} {r : Nat} (h : On X Y act κ r) (hr : X.length ≤ r) : ∀ z ∈ X.map Prod.fst, chain Y z = prunedC (chain X z) act := fun z hz => by
  rcases h.each z hz with e | ⟨_, i, hi, _⟩
  · exact e
  · omega
end
end Go.Proofs.Ytmlocdfjjgbnjaa.Sw

namespace Go.Proofs.Ytmlocdfjjgbnjaa.Sw
open Cn Cl
section
variable {X : Cs} {k : Ky} {act : List Int} {m i a : Nat}

/-- the place from which it goes -/
def atK (X : Cs) (k : Ky) : Nat := (X.takeWhile (Cl.ahead k)).length
theorem atK_le : atK X k ≤ X.length := (List.takeWhile_sublist _).length_le
theorem atK_end (h : ∀ j (hj : j < X.length), less X[j].1 k = true) : atK X k = X.length := by
  unfold atK
  have := List.takeWhile_append_of_pos (p := Cl.ahead k) (l₁ := X) (l₂ := []) (fun p hp => by
    obtain ⟨j, hj, rfl⟩ := List.getElem_of_mem hp
    exact h j hj)
  rw [List.append_nil] at this
  rw [this]
  simp
theorem atK_at (ha : a < X.length) (h : ∀ j (hj : j < X.length), j < a → less X[j].1 k = true) (hn : less X[a].1 k = false) : atK X k = a := by
  have e : X = X.take a ++ X[a] :: X.drop (a + 1) := by rw [← List.drop_eq_getElem_cons ha, List.take_append_drop]
  unfold atK
  have h2 : (X.take a ++ X[a] :: X.drop (a + 1)).takeWhile (Cl.ahead k) = X.take a := by
    rw [List.takeWhile_append_of_pos (fun p hp => ?_), List.takeWhile_cons, show Cl.ahead k X[a] = false from hn, if_neg Bool.false_ne_true, List.append_nil]
    obtain ⟨j, hj, rfl⟩ := List.getElem_of_mem hp
    rw [List.length_take] at hj
    rw [List.getElem_take]
    exact h j (by omega) (by omega)
  rw [← e] at h2
  rw [h2, List.length_take]
  omega
theorem rot_get (hi : i < X.length) (hi' : i < (rot X k).length) (hj : (atK X k + i) % X.length < X.length) : (rot X k)[i] = X[(atK X k + i) % X.length] := rot_at hi hi' hj
theorem next_get (h0 : 0 < m) (hm : m ≤ X.length) (hj : (atK X k + m) % X.length < X.length) : nextK X k m = X[(atK X k + m) % X.length].1 := by
  unfold nextK
  rw [if_neg (by omega)]
  by_cases h : m < X.length
  · have hr : m < (rot X k).length := by rw [rot_length]; exact h
    rw [List.drop_eq_getElem_cons hr]
    show ((rot X k)[m]).1 = _
    rw [rot_get h hr hj]
  · obtain rfl : m = X.length := by omega
    have hr : 0 < (rot X k).length := by rw [rot_length]; exact h0
    have e0 : (atK X k + 0) % X.length = (atK X k + X.length) % X.length := by rw [Nat.add_mod_right, Nat.add_zero]
    have hj0 : (atK X k + 0) % X.length < X.length := by rw [e0]; exact hj
    rw [List.drop_eq_nil_of_le (by rw [rot_length]; omega), List.nil_append]
    have : rot X k = (rot X k)[0] :: (rot X k).drop 1 := by rw [← List.drop_eq_getElem_cons hr, List.drop_zero]
    rw [this]
    show ((rot X k)[0]).1 = _
    rw [rot_get h0 hr hj0]
    congr 2
theorem gone_snoc (hi : i < X.length) (hj : (atK X k + i) % X.length < X.length) : goneI act ((rot X k).take (i + 1)) = goneI act ((rot X k).take i) + ((X[(atK X k + i) % X.length].2.length : Int) - ((pruneC X[(atK X k + i) % X.length].2 act).length : Int)) := by
  have hr : i < (rot X k).length := by rw [rot_length]; exact hi
  rw [List.take_succ_eq_append_getElem hr, ← rot_get hi hr hj]
  unfold goneI
  rw [List.map_append, List.sum_append]
  simp
theorem swept_at (h : Ord X) (hr : RngX X) (hi : i < X.length) (hj : (atK X k + i) % X.length < X.length) : chain (sweepS X act (takenK X k m)) X[(atK X k + i) % X.length].1 = if i < m then prunedC X[(atK X k + i) % X.length].2 act else X[(atK X k + i) % X.length].2 := by
  have hl : i < (rot X k).length := by rw [rot_length]; exact hi
  have ht := taken_iff (k := k) (m := m) h hl
  rw [rot_get hi hl hj] at ht
  have hmem := List.getElem_mem hj
  have hc := h.chain_mem hmem
  rw [sweep_chain h hr, hc]
  by_cases e : i < m
  · rw [if_pos e, if_pos ⟨ht.2 e, List.mem_map_of_mem hmem⟩]
  · rw [if_neg e, if_neg (fun q => e (ht.1 q.1))]
theorem many_zero {batch : Int} (h : many X batch = 0) (act : List Int) : sweepS X act (takenK X k (many X batch)) = X ∧ nextK X k (many X batch) = k ∧ goneI act ((rot X k).take (many X batch)) = 0 := by
  rw [h]
  refine ⟨sweep_none (fun p _ q => ?_), by unfold nextK; rw [if_pos rfl], by simp [goneI]⟩
  unfold takenK at q
  simp at q
end
end Go.Proofs.Ytmlocdfjjgbnjaa.Sw

namespace Go.Proofs.Ytmlocdfjjgbnjaa.Sw
open Cn Cl
section
variable {X A B : Cs} {k : Ky} {act : List Int} {i : Nat}

/-- a chain set in its own place, or taken away -/
theorem set_or {d c : Ch} (h : Ord (A ++ (k, d) :: B)) : setX (A ++ (k, d) :: B) k c = A ++ (one k c ++ B) := by
  have hu := List.pairwise_append.1 h.up
  have hb := List.pairwise_cons.1 hu.2.1
  have ha : ∀ p ∈ A, Cl.ahead k p = true := fun p hp => hu.2.2 p hp (k, d) (by simp)
  have e1 : (A ++ (k, d) :: B).takeWhile (Cl.ahead k) = A := by
    have := List.takeWhile_append_of_pos (p := Cl.ahead k) (l₁ := A) (l₂ := (k, d) :: B) ha
    rw [this, List.takeWhile_cons, if_neg (by simp [Cl.ahead, less_irrefl]), List.append_nil]
  have e2 : (A ++ (k, d) :: B).dropWhile (Cl.ahead k) = (k, d) :: B := by
    have := List.dropWhile_append_of_pos (p := Cl.ahead k) (l₁ := A) (l₂ := (k, d) :: B) ha
    rw [this, List.dropWhile_cons, if_neg (by simp [Cl.ahead, less_irrefl])]
  unfold setX
  rw [e1, e2, List.filter_cons, if_neg (by simp [other, same_self]), List.filter_eq_self.2 (fun q hq => ?_)]
  unfold other
  rw [same_no (fun e => less_ne (hb.1 q hq) e.symm)]
  rfl

theorem taken_snoc (hi : i < (rot X k).length) : takenK X k (i + 1) = takenK X k i ++ [(rot X k)[i].1] := by
  unfold takenK
  rw [List.take_succ_eq_append_getElem hi, List.map_append]
  rfl

theorem sweep_other {S S' : List Ky} (h : ∀ p ∈ A, (p.1 ∈ S ↔ p.1 ∈ S')) : sweepS A act S = sweepS A act S' := by
  unfold sweepS
  refine flatMap_same _ (fun p hp => ?_)
  by_cases e : p.1 ∈ S
  · rw [if_pos e, if_pos ((h p hp).1 e)]
  · rw [if_neg e, if_neg (fun q => e ((h p hp).2 q))]

/-- the chain whose turn it is: it stands there as it was; set to what is left of it, one more is swept -/
theorem sweep_step (h : Ord X) (hi : i < (rot X k).length) : ((rot X k)[i] ∈ sweepS X act (takenK X k i)) ∧ setX (sweepS X act (takenK X k i)) (rot X k)[i].1 (pruneC (rot X k)[i].2 act) = sweepS X act (takenK X k (i + 1)) := by
  have hmem : (rot X k)[i] ∈ X := rot_mem.1 (List.getElem_mem hi)
  have hno : (rot X k)[i].1 ∉ takenK X k i := fun q => by have := (taken_iff h hi).1 q; omega
  have hsn := taken_snoc (X := X) (k := k) hi
  obtain ⟨S, hS⟩ : ∃ S, S = takenK X k i := ⟨_, rfl⟩
  rw [← hS] at hno hsn ⊢
  rw [hsn]
  generalize (rot X k)[i] = p at *
  obtain ⟨A, B, rfl⟩ := List.append_of_mem hmem
  have hu := List.pairwise_append.1 h.up
  have hb := List.pairwise_cons.1 hu.2.1
  have hA : ∀ q ∈ A, (q.1 ∈ S ↔ q.1 ∈ S ++ [p.1]) := fun q hq => by
    have := less_ne (hu.2.2 q hq p (by simp))
    simp [this]
  have hB : ∀ q ∈ B, (q.1 ∈ S ↔ q.1 ∈ S ++ [p.1]) := fun q hq => by
    have := less_ne (hb.1 q hq)
    simp [Ne.symm this]
  have e1 : sweepS (A ++ p :: B) act S = sweepS A act S ++ p :: sweepS B act S := by
    rw [sweep_append]
    congr 1
    unfold sweepS
    rw [List.flatMap_cons, if_neg hno]
    rfl
  have e2 : sweepS (A ++ p :: B) act (S ++ [p.1]) = sweepS A act S ++ (one p.1 (pruneC p.2 act) ++ sweepS B act S) := by
    rw [sweep_append, ← sweep_other hA]
    congr 1
    rw [sweep_other hB]
    unfold sweepS
    rw [List.flatMap_cons, if_pos (by simp)]
  have ho : Ord (sweepS A act S ++ p :: sweepS B act S) := by rw [← e1]; exact sweep_ord h
  refine ⟨by rw [e1]; simp, ?_⟩
  rw [e1, e2]
  obtain ⟨pk, pc⟩ := p
  exact set_or ho

/-- .. whose chain is told to be as it was -/
theorem turn_chain (h : Ord X) (hi : i < (rot X k).length) : chain (sweepS X act (takenK X k i)) (rot X k)[i].1 = (rot X k)[i].2 :=
  (sweep_ord h).chain_mem (sweep_step h hi).1

/-- a chain of which all is left -/
theorem prune_all {c : Ch} (h : (pruneC c act).length = c.length) : pruneC c act = c := (prune_sub (c := c) (act := act)).eq_of_length h
theorem sweep_same (h : Ord X) (hi : i < (rot X k).length) (e : (pruneC (rot X k)[i].2 act).length = (rot X k)[i].2.length) : sweepS X act (takenK X k (i + 1)) = sweepS X act (takenK X k i) := by
  have hs := sweep_step (act := act) h hi
  have ho := sweep_ord (act := act) (S := takenK X k i) h
  rw [← hs.2, prune_all e]
  obtain ⟨A, B, eX⟩ := List.append_of_mem hs.1
  rw [eX] at ho ⊢
  have hm := ho.may _ (by simp : (rot X k)[i] ∈ A ++ (rot X k)[i] :: B)
  generalize (rot X k)[i] = p at *
  obtain ⟨pk, pc⟩ := p
  exact set_there ho ((mayB_iff pc).2 hm)

/-- nothing is gone where all is left; what is gone is the sum of what the chains lose, in whatever order -/
theorem gone_step (hi : i < (rot X k).length) : goneI act ((rot X k).take (i + 1)) = goneI act ((rot X k).take i) + (((rot X k)[i].2.length : Int) - ((pruneC (rot X k)[i].2 act).length : Int)) := by
  rw [List.take_succ_eq_append_getElem hi]
  unfold goneI
  rw [List.map_append, List.sum_append]
  simp
theorem taken_none : takenK X k 0 = [] := by unfold takenK; rw [List.take_zero]; rfl
theorem sweep_nil : sweepS X act [] = X := sweep_none (fun p _ q => by cases q)
end
end Go.Proofs.Ytmlocdfjjgbnjaa.Sw

namespace Go.Proofs.Ytmlocdfjjgbnjaa.Sw
open Cn
section
variable {c : Ch} {act : List Int} {B : List Bool} {ts z : Int} {i : Nat}

/-- the place z is marked, if there is one -/
def markB (B : List Bool) (z : Int) : List Bool := if 0 ≤ z then B.set z.toNat true else B
theorem mark_length : (markB B z).length = B.length := by
  unfold markB
  split
  · simp
  · rfl
theorem mark_at (hi : i < B.length) : (markB B z)[i]'(by rw [mark_length]; exact hi) = (B[i] || decide ((i : Int) = z)) := by
  unfold markB
  by_cases h : 0 ≤ z
  · simp only [if_pos h]
    rw [List.getElem_set]
    by_cases e : z.toNat = i
    · rw [if_pos e]
      have : (i : Int) = z := by omega
      simp [this]
    · rw [if_neg e]
      have : ¬ (i : Int) = z := by omega
      simp [this]
  · simp only [if_neg h]
    have : ¬ (i : Int) = z := by omega
    simp [this]

/-- found from behind: the last one that is Done and not above ts -/
theorem lastI_found (hi : i < c.length) (hd : c[i].done = true) (ht : c[i].ts ≤ ts) (hb : ∀ j (hj : j < c.length), i < j → ¬ (c[j].done = true ∧ c[j].ts ≤ ts)) : lastI c ts c.length = (i : Int) := by
  obtain ⟨h1, h2⟩ := lastI_spec c ts c.length
  have h3 := h2 i hi (by rw [getV_at hi]; exact hd) (by rw [getV_at hi]; exact ht)
  rcases h1 with h1 | ⟨j, hj, e, hjd, hjt⟩
  · omega
  · rw [getV_at hj] at hjd hjt
    by_cases hij : i < j
    · exact absurd ⟨hjd, hjt⟩ (hb j hj hij)
    · omega
theorem lastI_no (hb : ∀ j (hj : j < c.length), ¬ (c[j].done = true ∧ c[j].ts ≤ ts)) : lastI c ts c.length = -1 := by
  obtain ⟨h1, _⟩ := lastI_spec c ts c.length
  rcases h1 with h1 | ⟨j, hj, _, hjd, hjt⟩
  · exact h1
  · rw [getV_at hj] at hjd hjt
    exact absurd ⟨hjd, hjt⟩ (hb j hj)

theorem needs_not (hm : ¬ May c) : needs c act = List.replicate c.length false := by
  unfold needs
  rw [List.eq_replicate_iff]
  refine ⟨by simp, fun b hb => ?_⟩
  obtain ⟨v, _, rfl⟩ := List.mem_map.1 hb
  exact need_not hm
/-- marks that hold just what is needed -/
theorem needs_eq (hm : May c) (hl : B.length = c.length) (h : ∀ i (hi : i < c.length), B[i]'(by omega) = true ↔ c[i].done = false ∨ (i : Int) = lastI c maxI c.length ∨ ∃ a ∈ counts c act, (i : Int) = lastI c a c.length) : B = needs c act := by
  apply List.ext_getElem
  · rw [hl]; simp [needs]
  · intro i h1 h2
    have hi : i < c.length := by omega
    have e : (needs c act)[i] = needB c act c[i] := by simp [needs]
    rw [e]
    have hn := need_iff (act := act) (v := c[i]) hm
    have hb := h i hi
    rw [lastI_top hm maxI hi] at hb
    have hc : (∃ a ∈ counts c act, (i : Int) = lastI c a c.length) ↔ ∃ a ∈ counts c act, topB c a c[i] = true := ⟨fun ⟨a, ha, q⟩ => ⟨a, ha, (lastI_top hm a hi).1 q⟩, fun ⟨a, ha, q⟩ => ⟨a, ha, (lastI_top hm a hi).2 q⟩⟩
    rw [hc, ← hn] at hb
    cases hB : B[i] <;> cases hN : needB c act c[i] <;> simp_all
/-- the marks of the last versions for the timestamps L, and of those that aren't Done ahead of the place U -/
def Mks (c : Ch) (U : Nat) (L : List Int) (B : List Bool) : Prop := B.length = c.length ∧ ∀ i (hi : i < c.length), B[i]? = some true ↔ (∃ a ∈ L, (i : Int) = lastI c a c.length) ∨ (i < U ∧ c[i].done = false)
theorem Mks.start (c : Ch) : Mks c 0 [] (List.replicate c.length false) := ⟨by simp, fun i hi => by simp [hi]⟩
theorem Mks.mark {U : Nat} {L : List Int} (h : Mks c U L B) (a : Int) : Mks c U (L ++ [a]) (markB B (lastI c a c.length)) := ⟨by rw [mark_length]; exact h.1, fun i hi => by
  have hB : i < B.length := by rw [h.1]; exact hi
  have h2 := h.2 i hi
  rw [List.getElem?_eq_getElem (by rw [mark_length]; exact hB), mark_at hB]
  rw [List.getElem?_eq_getElem hB] at h2
  simp only [Option.some.injEq] at h2 ⊢
  rw [Bool.or_eq_true, h2, decide_eq_true_eq]
  constructor
  · rintro ((⟨b, hb, e⟩ | q) | e)
    · exact Or.inl ⟨b, List.mem_append_left _ hb, e⟩
    · exact Or.inr q
    · exact Or.inl ⟨a, by simp, e⟩
  · rintro (⟨b, hb, e⟩ | q)
    · rcases List.mem_append.1 hb with hb | hb
      · exact Or.inl (Or.inl ⟨b, hb, e⟩)
      · rw [List.mem_singleton] at hb; subst hb; exact Or.inr e
    · exact Or.inl (Or.inr q)⟩
theorem Mks.set {U : Nat} {L : List Int} (h : Mks c U L B) (hU : U < c.length) (hd : c[U].done = false) : Mks c (U + 1) L (B.set U true) := ⟨by rw [List.length_set]; exact h.1, fun i hi => by
  have h2 := h.2 i hi
  have hB : i < B.length := by rw [h.1]; exact hi
  by_cases e : U = i
  · subst e
    rw [List.getElem?_set_self hB]
    exact ⟨fun _ => Or.inr ⟨by omega, hd⟩, fun _ => rfl⟩
  · rw [List.getElem?_set_ne e, h2]
    constructor
    · rintro (q | ⟨q1, q2⟩)
      · exact Or.inl q
      · exact Or.inr ⟨by omega, q2⟩
    · rintro (q | ⟨q1, q2⟩)
      · exact Or.inl q
      · exact Or.inr ⟨by omega, q2⟩⟩
theorem Mks.skip {U : Nat} {L : List Int} (h : Mks c U L B) (hU : U < c.length) (hd : c[U].done = true) : Mks c (U + 1) L B := ⟨h.1, fun i hi => by
  rw [h.2 i hi]
  constructor
  · rintro (q | ⟨q1, q2⟩)
    · exact Or.inl q
    · exact Or.inr ⟨by omega, q2⟩
  · rintro (q | ⟨q1, q2⟩)
    · exact Or.inl q
    · by_cases e : i = U
      · subst e; rw [hd] at q2; cases q2
      · exact Or.inr ⟨by omega, q2⟩⟩
theorem Mks.fin {L : List Int} (hm : May c) (h : Mks c c.length L B) (hL : ∀ a, a ∈ L ↔ a = maxI ∨ a ∈ counts c act) : B = needs c act :=
  needs_eq hm h.1 (fun i hi => by
    have h2 := h.2 i hi
    have hB : i < B.length := by rw [h.1]; exact hi
    rw [List.getElem?_eq_getElem hB] at h2
    simp only [Option.some.injEq] at h2
    rw [h2]
    constructor
    · rintro (⟨a, ha, e⟩ | ⟨_, q⟩)
      · rcases (hL a).1 ha with rfl | ha
        · exact Or.inr (Or.inl e)
        · exact Or.inr (Or.inr ⟨a, ha, e⟩)
      · exact Or.inl q
    · rintro (q | e | ⟨a, ha, e⟩)
      · exact Or.inr ⟨hi, q⟩
      · exact Or.inl ⟨maxI, (hL _).2 (Or.inl rfl), e⟩
      · exact Or.inl ⟨a, (hL a).2 (Or.inr ha), e⟩)
end
end Go.Proofs.Ytmlocdfjjgbnjaa.Sw
