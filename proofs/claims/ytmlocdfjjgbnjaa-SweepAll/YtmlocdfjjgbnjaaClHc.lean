/-
  The landed cells in memory: a pointer to a map of chains, by their keys (Hg, Hc). What is said of a key.
-/
import Derived.Test.YtmlocdfjjgbnjaaClSort
import Derived.Test.YtmlocdfjjgbnjaaClLaw1
import Derived.Test.YtmlocdfjjgbnjaaChOk
namespace Go.Proofs.Ytmlocdfjjgbnjaa.Cl
open Cn (Ch mayB May)

/-- what is said of a key -/
def said : Cs → Ky → Option Ch
  | [], _ => none
  | p :: X, k => if p.1 = k then some p.2 else said X k

section
variable {X Y : Cs} {k k' : Ky} {c : Ch}

theorem said_none (h : ∀ p ∈ X, p.1 ≠ k) : said X k = none := by
  induction X with
  | nil => rfl
  | cons p X ih =>
    show (if p.1 = k then _ else said X k) = none
    rw [if_neg (h p (by simp)), ih (fun q hq => h q (by simp [hq]))]
theorem said_mem (h : said X k = some c) : (k, c) ∈ X := by
  induction X with
  | nil => cases h
  | cons p X ih =>
    unfold said at h
    split at h
    · rename_i e
      cases h
      subst e
      exact List.mem_cons_self
    · exact List.mem_cons_of_mem _ (ih h)
theorem said_has (h : (k, c) ∈ X) : ∃ d, said X k = some d := by
  induction X with
  | nil => cases h
  | cons p X ih =>
    unfold said
    split
    · exact ⟨_, rfl⟩
    · rename_i e
      rcases List.mem_cons.1 h with rfl | h
      · exact absurd rfl e
      · exact ih h
theorem said_key : (said X k).isSome = true ↔ k ∈ X.map Prod.fst := by
  constructor
  · intro h
    obtain ⟨c, hc⟩ := Option.isSome_iff_exists.1 h
    exact List.mem_map.2 ⟨_, said_mem hc, rfl⟩
  · intro h
    obtain ⟨⟨k', c⟩, hp, rfl⟩ := List.mem_map.1 h
    obtain ⟨d, hd⟩ := said_has hp
    rw [hd]; rfl
theorem chain_said (X : Cs) (k : Ky) : chain X k = (said X k).getD Cn.fresh := by
  induction X with
  | nil => rfl
  | cons p X ih =>
    show (if p.1 = k then p.2 else chain X k) = _
    unfold said
    split
    · rfl
    · exact ih
theorem said_append (h : ∀ p ∈ X, p.1 ≠ k) : said (X ++ Y) k = said Y k := by
  induction X with
  | nil => rfl
  | cons p X ih =>
    show (if p.1 = k then _ else said (X ++ Y) k) = _
    rw [if_neg (h p (by simp)), ih (fun q hq => h q (by simp [hq]))]
theorem said_same (X : Cs) (k : Ky) (c : Ch) : said (setX X k c) k = if mayB c = true then some c else none := by
  unfold setX
  rw [said_append (fun p hp => less_ne (ahead_ne hp))]
  unfold one
  by_cases h : mayB c = true
  · rw [if_pos h, if_pos h]
    show (if k = k then some c else _) = some c
    rw [if_pos rfl]
  · rw [if_neg h, if_neg h, List.nil_append]
    refine said_none (fun p hp e => ?_)
    have := (List.mem_filter.1 hp).2
    unfold other at this
    rw [e, same_self] at this
    cases this
theorem said_other (X : Cs) (c : Ch) (h : k' ≠ k) : said (setX X k c) k' = said X k' := by
  have e : said X k' = said (X.takeWhile (ahead k) ++ X.dropWhile (ahead k)) k' := by rw [List.takeWhile_append_dropWhile]
  rw [e]
  unfold setX
  have f : ∀ (A B B' : Cs), said B k' = said B' k' → said (A ++ B) k' = said (A ++ B') k' := fun A B B' hb => by
    induction A with
    | nil => exact hb
    | cons p A ih =>
      show (if p.1 = k' then some p.2 else said (A ++ B) k') = (if p.1 = k' then some p.2 else said (A ++ B') k')
      rw [ih]
  refine f _ _ _ ?_
  have g : said (one k c ++ (X.dropWhile (ahead k)).filter (other k)) k' = said ((X.dropWhile (ahead k)).filter (other k)) k' := by
    refine said_append (fun p hp e => ?_)
    unfold one at hp
    split at hp
    · rw [List.mem_singleton] at hp
      subst hp
      exact h e.symm
    · cases hp
  rw [g]
  generalize X.dropWhile (ahead k) = Z
  induction Z with
  | nil => rfl
  | cons p Z ih =>
    by_cases e : p.1 = k
    · rw [List.filter_cons, if_neg (by unfold other; rw [e, same_self]; simp), ih]
      show _ = (if p.1 = k' then _ else said Z k')
      rw [if_neg (fun g => h (g.symm.trans e))]
    · rw [List.filter_cons, if_pos (by unfold other; rw [same_no e]; rfl)]
      show (if p.1 = k' then _ else said (Z.filter (other k)) k') = (if p.1 = k' then _ else said Z k')
      rw [ih]
theorem said_set (X : Cs) (k : Ky) (c : Ch) (k' : Ky) : said (setX X k c) k' = if k' = k then (if mayB c = true then some c else none) else said X k' := by
  by_cases e : k' = k
  · subst e
    rw [if_pos rfl, said_same]
  · rw [if_neg e, said_other X c e]
theorem Ord.said_may (h : Ord X) (hc : said X k = some c) : May c := h.may _ (said_mem hc)

theorem nodup_le {α : Type} [DecidableEq α] : ∀ (A B : List α), A.Nodup → (∀ x ∈ A, x ∈ B) → A.length ≤ B.length
  | [], _, _, _ => Nat.zero_le _
  | a :: A, B, hn, hs => by
    have hn := List.nodup_cons.1 hn
    have ha := hs a (by simp)
    have h1 : ∀ x ∈ A, x ∈ B.erase a := fun x hx => (List.mem_erase_of_ne (fun e => hn.1 (by rw [← e]; exact hx))).2 (hs x (by simp [hx]))
    have h2 := nodup_le A (B.erase a) hn.2 h1
    rw [List.length_erase_of_mem ha] at h2
    have : 0 < B.length := List.length_pos_of_mem ha
    simp only [List.length_cons]
    omega
end
end Go.Proofs.Ytmlocdfjjgbnjaa.Cl

namespace Go.Proofs.Ytmlocdfjjgbnjaa
open Go.RowKit

theorem Mk.count {w : World} {b n : Nat} {m : Cl.Ky → Option Value} {ks : List Cl.Ky} (h : Mk w b n m) (hk : ∀ k, (m k).isSome = true → k ∈ ks) : Mk w b ks.length m := by
  obtain ⟨L, c, hb, h1, h2, h3, h4, h5⟩ := h
  refine ⟨L, c, hb, h1, h2, h3, ?_, h5⟩
  rw [← List.length_map (f := En.k)]
  refine Cl.nodup_le _ _ (by rw [List.Nodup, List.pairwise_map]; exact h2) (fun k hkm => hk k ?_)
  obtain ⟨x, hx, rfl⟩ := List.mem_map.1 hkm
  rw [← h5]
  clear h1 h2 h3 h4 h5 hb hkm hk
  induction L with
  | nil => cases hx
  | cons y B ih =>
    rw [el_cons]
    by_cases e : x.k = y.k
    · rw [if_pos e]; rfl
    · rw [if_neg e]
      rcases List.mem_cons.1 hx with rfl | hx
      · exact absurd rfl e
      · exact ih hx

/-- what the map has of a key -/
def Says (w : World) (R : Nat → Prop) : Option Cn.Ch → Option Value → Prop
  | none, none => True
  | some c, some v => SlC w R v c
  | _, _ => False

theorem Says.keep {w w' : World} {R R' : Nat → Prop} {c : Option Cn.Ch} {v : Option Value} (h : Says w R c v) (hk : ∀ p : Addr, R p.block → w'.cell? p = w.cell? p) (hR : ∀ b, R b → R' b) : Says w' R' c v := by
  cases c with
  | none => cases v with
    | none => trivial
    | some v => exact h
  | some c => cases v with
    | none => exact h
    | some v => exact (S.Sg.keep h hk).wider hR
theorem Says.iff {w : World} {R : Nat → Prop} {c : Option Cn.Ch} {v : Option Value} (h : Says w R c v) : v.isSome = c.isSome := by
  cases c <;> cases v <;> first | rfl | exact h.elim

/-- blocks of F that are not the object's own -/
abbrev Chs (F : Nat → Prop) (g b : Nat) : Nat → Prop := fun r => F r ∧ r ≠ g ∧ r ≠ b

/-- the struct in block g, whose map in block b, holds the cells X -/
structure Hg (w : World) (F : Nat → Prop) (g b : Nat) (X : Cl.Cs) : Prop where
  ord : Cl.Ord X
  lt : ∀ r, F r → r < w.heap.size
  ne : g ≠ b
  fg : F g
  fb : F b
  cell : w.cell? ⟨g, 0, none⟩ = some (.map (some b))
  map : ∃ m, Mk w b X.length m ∧ ∀ k, Says w (Chs F g b) (Cl.said X k) (m k)

def Hc (w : World) (F : Nat → Prop) (v : Value) (X : Cl.Cs) : Prop := ∃ g b, v = .pointer (some ⟨g, 0, none⟩) ∧ Hg w F g b X

section
variable {w w' w1 w2 : World} {F G : Nat → Prop} {g b : Nat} {X : Cl.Cs}

theorem Hg.keep (h : Hg w F g b X) (hk : ∀ r, F r → w'.heap[r]? = w.heap[r]?) (hs : w.heap.size ≤ w'.heap.size) : Hg w' F g b X := by
  obtain ⟨m, hm, hsay⟩ := h.map
  refine ⟨h.ord, fun r hr => Nat.lt_of_lt_of_le (h.lt r hr) hs, h.ne, h.fg, h.fb, (World.cell?_of_block (a := ⟨g, 0, none⟩) (hk g h.fg)).trans h.cell, m, ?_, fun k => (hsay k).keep (fun p hp => World.cell?_of_block (hk _ hp.1)) (fun _ q => q)⟩
  obtain ⟨L, c, hb, rest⟩ := hm
  exact ⟨L, c, (hk b h.fb).trans hb, rest⟩
theorem Hg.wider (h : Hg w F g b X) (hF : ∀ r, F r → G r) (hG : ∀ r, G r → r < w.heap.size) : Hg w G g b X := by
  obtain ⟨m, hm, hsay⟩ := h.map
  exact ⟨h.ord, hG, h.ne, hF _ h.fg, hF _ h.fb, h.cell, m, hm, fun k => (hsay k).keep (fun _ _ => rfl) (fun r q => ⟨hF r q.1, q.2⟩)⟩
theorem Hg.below (h : Hg w F g b X) (hb : Below w.heap.size w w') : Hg w' F g b X := h.keep (fun r hr => hb.block r (h.lt r hr)) hb.size
theorem more_lt (hF : ∀ r, F r → r < w.heap.size) (hs : w.heap.size ≤ w1.heap.size) : ∀ r, More F w w1 r → r < w1.heap.size :=
  fun r hr => hr.elim (fun q => Nat.lt_of_lt_of_le (hF r q) hs) (fun q => q.2)
theorem more_more (h2 : w1.heap.size ≤ w2.heap.size) : ∀ r, More F w w1 r → More F w w2 r :=
  fun _ hr => hr.elim Or.inl (fun q => Or.inr ⟨q.1, Nat.lt_of_lt_of_le q.2 h2⟩)

/-- a chain laid at a key -/
theorem Hg.put (h : Hg w F g b X) {m : Cl.Ky → Option Value} (hm : ∀ k, Says w (Chs F g b) (Cl.said X k) (m k)) {k : Cl.Ky} {c : Cn.Ch} {vc : Value} {n : Nat} (hmay : Cn.mayB c = true) (hv : SlC w (Chs F g b) vc c)
    (h2 : Mk w' b n (fun k' => if k' = k then some vc else m k')) (hg : w.grownBy w' (some b)) : Hg w' F g b (Cl.setX X k c) := by
  have hk : ∀ p : Addr, Chs F g b p.block → w'.cell? p = w.cell? p := fun p hp => World.cell?_of_block (hg.block _ (h.lt _ hp.1) (fun e => hp.2.2 (by cases e; rfl)))
  have hsay : ∀ k', Says w' (Chs F g b) (Cl.said (Cl.setX X k c) k') (if k' = k then some vc else m k') := fun k' => by
    rw [Cl.said_set]
    by_cases e : k' = k
    · rw [if_pos e, if_pos e, if_pos hmay]
      exact S.Sg.keep hv hk
    · rw [if_neg e, if_neg e]
      exact (hm k').keep hk (fun _ q => q)
  have hc := h2.count (ks := (Cl.setX X k c).map Prod.fst) (fun k' q => by
    rw [← Cl.said_key, ← (hsay k').iff]
    exact q)
  rw [List.length_map] at hc
  exact ⟨h.ord.set k c, fun r hr => Nat.lt_of_lt_of_le (h.lt r hr) hg.size, h.ne, h.fg, h.fb, (World.cell?_of_block (a := ⟨g, 0, none⟩) (hg.block g (h.lt _ h.fg) (fun e => h.ne (by cases e; rfl)))).trans h.cell, _, hc, hsay⟩
/-- a key of which nothing is said any more -/
theorem Hg.del (h : Hg w F g b X) {m : Cl.Ky → Option Value} (hm : ∀ k, Says w (Chs F g b) (Cl.said X k) (m k)) {k : Cl.Ky} {c : Cn.Ch} {n : Nat} (hmay : Cn.mayB c = false)
    (h2 : Mk w' b n (fun k' => if k' = k then none else m k')) (hg : w.grownBy w' (some b)) : Hg w' F g b (Cl.setX X k c) := by
  have hk : ∀ p : Addr, Chs F g b p.block → w'.cell? p = w.cell? p := fun p hp => World.cell?_of_block (hg.block _ (h.lt _ hp.1) (fun e => hp.2.2 (by cases e; rfl)))
  have hsay : ∀ k', Says w' (Chs F g b) (Cl.said (Cl.setX X k c) k') (if k' = k then none else m k') := fun k' => by
    rw [Cl.said_set]
    by_cases e : k' = k
    · rw [if_pos e, if_pos e, if_neg (by rw [hmay]; simp)]
      trivial
    · rw [if_neg e, if_neg e]
      exact (hm k').keep hk (fun _ q => q)
  have hc := h2.count (ks := (Cl.setX X k c).map Prod.fst) (fun k' q => by
    rw [← Cl.said_key, ← (hsay k').iff]
    exact q)
  rw [List.length_map] at hc
  exact ⟨h.ord.set k c, fun r hr => Nat.lt_of_lt_of_le (h.lt r hr) hg.size, h.ne, h.fg, h.fb, (World.cell?_of_block (a := ⟨g, 0, none⟩) (hg.block g (h.lt _ h.fg) (fun e => h.ne (by cases e; rfl)))).trans h.cell, _, hc, hsay⟩

theorem Turn.grown {F : Nat → Prop} {w w1 w2 : World} {b : Nat} (h : Turn F w w1) (hg : w1.grownBy w2 (some b)) (hb : F b ∨ w.heap.size ≤ b) : Turn F w w2 :=
  ⟨hg.os.trans h.os, hg.tape.trans h.tape, hg.output.trans h.output, Nat.le_trans h.size hg.size, fun k hk hF => (hg.block k (Nat.lt_of_lt_of_le hk h.size) (fun e => by cases e; exact hb.elim hF (fun q => by omega))).trans (h.block k hk hF)⟩
end

/-- keys, sorted -/
theorem srt_keys {X : Cl.Cs} {m : Cl.Ky → Option Value} {w : World} {R : Nat → Prop} {ks : List Cl.Ky} (ho : Cl.Ord X) (hm : ∀ k, Says w R (Cl.said X k) (m k)) (hk : Ks m ks) : srt ks = X.map Prod.fst := by
  have hX : (X.map Prod.fst).Pairwise (fun x y => Cl.less x y = true) := by
    rw [List.pairwise_map]
    exact ho.up
  have hXn : (X.map Prod.fst).Nodup := hX.imp (fun h => Cl.less_ne h)
  have hp : ks.Perm (X.map Prod.fst) := by
    refine (List.perm_ext_iff_of_nodup hk.nod hXn).2 (fun k => ?_)
    rw [hk.all, (hm k).iff, Cl.said_key]
  have hp2 : (srt ks).Perm (X.map Prod.fst) := (List.mergeSort_perm _ _).trans hp
  refine List.Perm.eq_of_pairwise (le := fun x y => (!Cl.less y x) = true) ?_ ?_ ?_ hp2
  · intro x y _ _ h1 h2
    simp only [Bool.not_eq_true'] at h1 h2
    by_cases e : x = y
    · exact e
    · rcases Cl.less_total e with h | h
      · rw [h2] at h; cases h
      · rw [h1] at h; cases h
  · unfold srt
    refine List.pairwise_mergeSort ?_ ?_ ks
    · intro x y z h1 h2
      simp only [Bool.not_eq_true'] at h1 h2 ⊢
      have := less_swo.ntrans z y x
      rw [ltOf_key] at this
      exact this h2 h1
    · intro x y
      simp only [Bool.or_eq_true, Bool.not_eq_true']
      cases e : Cl.less y x with
      | false => exact Or.inl rfl
      | true => exact Or.inr (Cl.less_asymm e)
  · exact hX.imp (fun h => by rw [Cl.less_asymm h]; rfl)
end Go.Proofs.Ytmlocdfjjgbnjaa
