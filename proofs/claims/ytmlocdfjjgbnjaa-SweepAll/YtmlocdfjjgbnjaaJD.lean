/-
  The plain mathematics of layer cells: keys and their order; cells as a rising list of keys and chains; set, read, written, committed, aborted, the newest. No program stands here.
  The plain mathematics of layer cells' laws: what is committed, and aborted, and written, as it is told. No program stands here.
  Plain mathematics of layer cells: what is read of what is committed; what one timestamp has written to four keys. No program stands here.
-/
import Derived.Test.YtmlocdfjjgbnjaaJB
namespace Go.Proofs.Ytmlocdfjjgbnjaa.Cl
open Cn (Vr Ch May mayB)

/-- a key -/
structure Ky where
  kind : Int
  a : Int
  b : Int

theorem Ky.ext' {x y : Ky} (h1 : x.kind = y.kind) (h2 : x.a = y.a) (h3 : x.b = y.b) : x = y := by
  cases x; cases y; cases h1; cases h2; cases h3; rfl
def same (x y : Ky) : Bool := decide (x.kind = y.kind) && (decide (x.a = y.a) && decide (x.b = y.b))
theorem same_iff (x y : Ky) : same x y = true ↔ x = y := by
  unfold same
  simp only [Bool.and_eq_true, decide_eq_true_eq]
  exact ⟨fun h => Ky.ext' h.1 h.2.1 h.2.2, fun h => by subst h; exact ⟨rfl, rfl, rfl⟩⟩
instance : DecidableEq Ky := fun x y => decidable_of_iff _ (same_iff x y)
theorem same_no {x y : Ky} (h : x ≠ y) : same x y = false := by
  cases e : same x y with
  | false => rfl
  | true => exact absurd ((same_iff x y).1 e) h
theorem same_self (x : Ky) : same x x = true := (same_iff x x).2 rfl

def less (x y : Ky) : Bool := if x.kind = y.kind then (if x.a = y.a then decide (x.b < y.b) else decide (x.a < y.a)) else decide (x.kind < y.kind)
theorem less_iff (x y : Ky) : less x y = true ↔ x.kind < y.kind ∨ (x.kind = y.kind ∧ (x.a < y.a ∨ (x.a = y.a ∧ x.b < y.b))) := by
  unfold less
  by_cases h : x.kind = y.kind
  · rw [if_pos h]
    by_cases g : x.a = y.a
    · rw [if_pos g, decide_eq_true_eq]; omega
    · rw [if_neg g, decide_eq_true_eq]; omega
  · rw [if_neg h, decide_eq_true_eq]; omega
theorem less_irrefl (x : Ky) : less x x = false := by
  cases e : less x x with
  | false => rfl
  | true => have := (less_iff x x).1 e; omega
theorem less_trans {x y z : Ky} (h : less x y = true) (g : less y z = true) : less x z = true := by
  have h := (less_iff x y).1 h
  have g := (less_iff y z).1 g
  refine (less_iff x z).2 ?_
  omega
theorem less_asymm {x y : Ky} (h : less x y = true) : less y x = false := by
  cases e : less y x with
  | false => rfl
  | true =>
    have h := (less_iff x y).1 h
    have e := (less_iff y x).1 e
    omega
theorem less_total {x y : Ky} (h : x ≠ y) : less x y = true ∨ less y x = true := by
  rw [less_iff, less_iff]
  by_cases h1 : x.kind = y.kind
  · by_cases h2 : x.a = y.a
    · have h3 : x.b ≠ y.b := fun h3 => h (Ky.ext' h1 h2 h3)
      omega
    · omega
  · omega
theorem less_ne {x y : Ky} (h : less x y = true) : x ≠ y := by
  rintro rfl
  rw [less_irrefl] at h
  cases h

abbrev Cs := List (Ky × Ch)

def chain : Cs → Ky → Ch
  | [], _ => Cn.fresh
  | p :: X, k => if p.1 = k then p.2 else chain X k
/-- ahead of k -/
def ahead (k : Ky) (p : Ky × Ch) : Bool := less p.1 k
def other (k : Ky) (p : Ky × Ch) : Bool := !same p.1 k
def one (k : Ky) (c : Ch) : Cs := if mayB c = true then [(k, c)] else []
def setX (X : Cs) (k : Ky) (c : Ch) : Cs := X.takeWhile (ahead k) ++ (one k c ++ (X.dropWhile (ahead k)).filter (other k))

/-- keys rise, and each chain may be -/
structure Ord (X : Cs) : Prop where
  up : X.Pairwise (fun p q => less p.1 q.1 = true)
  may : ∀ p ∈ X, May p.2

section
variable {X Y : Cs} {k k' : Ky} {c : Ch} {p : Ky × Ch}

theorem chain_append (X Y : Cs) (k : Ky) (h : ∀ p ∈ X, p.1 ≠ k) : chain (X ++ Y) k = chain Y k := by
  induction X with
  | nil => rfl
  | cons p X ih =>
    show (if p.1 = k then p.2 else chain (X ++ Y) k) = _
    rw [if_neg (h p (by simp)), ih (fun q hq => h q (by simp [hq]))]
theorem chain_none (X : Cs) (k : Ky) (h : ∀ p ∈ X, p.1 ≠ k) : chain X k = Cn.fresh := by
  have := chain_append X [] k h
  rw [List.append_nil] at this
  exact this
theorem chain_filter (X : Cs) {k k' : Ky} (h : k' ≠ k) : chain (X.filter (other k)) k' = chain X k' := by
  induction X with
  | nil => rfl
  | cons p X ih =>
    by_cases e : p.1 = k
    · rw [List.filter_cons, if_neg (by unfold other; rw [e, same_self]; simp), ih]
      show _ = (if p.1 = k' then p.2 else chain X k')
      rw [if_neg (fun g => h (g.symm.trans e))]
    · rw [List.filter_cons, if_pos (by unfold other; rw [same_no e]; rfl)]
      show (if p.1 = k' then p.2 else chain (X.filter (other k)) k') = (if p.1 = k' then p.2 else chain X k')
      rw [ih]
theorem ahead_ne {X : Cs} {k : Ky} {p : Ky × Ch} (h : p ∈ X.takeWhile (ahead k)) : less p.1 k = true := by
  induction X with
  | nil => cases h
  | cons q X ih =>
    rw [List.takeWhile_cons] at h
    split at h
    · rename_i g
      rcases List.mem_cons.1 h with rfl | h
      · exact g
      · exact ih h
    · cases h
theorem chain_same (X : Cs) (k : Ky) (c : Ch) : chain (setX X k c) k = if mayB c = true then c else Cn.fresh := by
  unfold setX
  rw [chain_append _ _ _ (fun p hp => less_ne (ahead_ne hp))]
  unfold one
  by_cases h : mayB c = true
  · rw [if_pos h, if_pos h]
    show (if k = k then c else _) = c
    rw [if_pos rfl]
  · rw [if_neg h, if_neg h, List.nil_append]
    refine chain_none _ _ (fun p hp e => ?_)
    have := (List.mem_filter.1 hp).2
    unfold other at this
    rw [e, same_self] at this
    cases this
/-- P11.4: one key doesn't know of others -/
theorem chain_other (X : Cs) {k k' : Ky} (c : Ch) (h : k' ≠ k) : chain (setX X k c) k' = chain X k' := by
  have e : chain X k' = chain (X.takeWhile (ahead k) ++ X.dropWhile (ahead k)) k' := by rw [List.takeWhile_append_dropWhile]
  rw [e]
  unfold setX
  have f : ∀ (A B B' : Cs), chain B k' = chain B' k' → chain (A ++ B) k' = chain (A ++ B') k' := fun A B B' hb => by
    induction A with
    | nil => exact hb
    | cons p A ih =>
      show (if p.1 = k' then p.2 else chain (A ++ B) k') = (if p.1 = k' then p.2 else chain (A ++ B') k')
      rw [ih]
  refine f _ _ _ ?_
  have g : chain (one k c ++ (X.dropWhile (ahead k)).filter (other k)) k' = chain ((X.dropWhile (ahead k)).filter (other k)) k' := by
    refine chain_append _ _ _ (fun p hp e => ?_)
    unfold one at hp
    split at hp
    · rw [List.mem_singleton] at hp
      subst hp
      exact h e.symm
    · cases hp
  rw [g, chain_filter _ h]

theorem Ord.nil : Ord [] := ⟨List.Pairwise.nil, fun p hp => by cases hp⟩
/-- behind those ahead of k nobody is ahead of it -/
theorem drop_ge {X : Cs} (h : Ord X) (k : Ky) : ∀ p ∈ X.dropWhile (ahead k), less p.1 k = false := by
  have hu := h.up
  clear h
  induction X with
  | nil => intro p hp; cases hp
  | cons q X ih =>
    intro p hp
    have hu := List.pairwise_cons.1 hu
    rw [List.dropWhile_cons] at hp
    split at hp
    · exact ih hu.2 p hp
    · rename_i g
      have g : less q.1 k = false := by simpa [ahead] using g
      rcases List.mem_cons.1 hp with rfl | hp
      · exact g
      · have hq := hu.1 p hp
        cases e : less p.1 k with
        | false => rfl
        | true =>
          have := less_trans hq e
          rw [g] at this
          cases this
theorem mem_set : p ∈ setX X k c → (p ∈ X ∧ p.1 ≠ k) ∨ (p = (k, c) ∧ mayB c = true) := by
  unfold setX
  intro h
  rcases List.mem_append.1 h with h | h
  · exact Or.inl ⟨(List.takeWhile_sublist _).subset h, less_ne (ahead_ne h)⟩
  · rcases List.mem_append.1 h with h | h
    · unfold one at h
      split at h
      · rename_i g
        rw [List.mem_singleton] at h
        exact Or.inr ⟨h, g⟩
      · cases h
    · obtain ⟨h1, h2⟩ := List.mem_filter.1 h
      refine Or.inl ⟨(List.dropWhile_sublist _).subset h1, fun e => ?_⟩
      unfold other at h2
      rw [e, same_self] at h2
      cases h2
theorem Ord.set (h : Ord X) (k : Ky) (c : Ch) : Ord (setX X k c) := by
  refine ⟨?_, fun p hp => ?_⟩
  · unfold setX
    have h1 : (X.takeWhile (ahead k) ++ X.dropWhile (ahead k)).Pairwise (fun p q => less p.1 q.1 = true) := by rw [List.takeWhile_append_dropWhile]; exact h.up
    have h1 := List.pairwise_append.1 h1
    have hd := drop_ge h k
    have hk : ∀ p ∈ (X.dropWhile (ahead k)).filter (other k), less k p.1 = true := fun p hp => by
      obtain ⟨g1, g2⟩ := List.mem_filter.1 hp
      have g3 := hd p g1
      have g4 : k ≠ p.1 := fun e => by
        unfold other at g2
        rw [← e, same_self] at g2
        cases g2
      rcases less_total g4 with g | g
      · exact g
      · rw [g3] at g; cases g
    refine List.pairwise_append.2 ⟨h1.1, List.pairwise_append.2 ⟨?_, h1.2.1.filter _, fun p hp q hq => ?_⟩, fun p hp q hq => ?_⟩
    · unfold one
      split
      · exact List.pairwise_singleton _ _
      · exact List.Pairwise.nil
    · unfold one at hp
      split at hp
      · rw [List.mem_singleton] at hp
        subst hp
        exact hk q hq
      · cases hp
    · rcases List.mem_append.1 hq with hq | hq
      · unfold one at hq
        split at hq
        · rw [List.mem_singleton] at hq
          subst hq
          exact ahead_ne hp
        · cases hq
      · exact h1.2.2 p hp q (List.mem_filter.1 hq).1
  · rcases mem_set hp with ⟨g, _⟩ | ⟨rfl, g⟩
    · exact h.may p g
    · exact (Cn.mayB_iff c).1 g
theorem Ord.tail (h : Ord (p :: X)) : Ord X ∧ ∀ q ∈ X, less p.1 q.1 = true := by
  have hu := List.pairwise_cons.1 h.up
  exact ⟨⟨hu.2, fun q hq => h.may q (by simp [hq])⟩, hu.1⟩
/-- a chain that may be, whatever the key -/
theorem Ord.chain_may (h : Ord X) (k : Ky) : May (chain X k) := by
  induction X with
  | nil => exact Cn.J.fresh.may
  | cons p X ih =>
    show May (if p.1 = k then p.2 else chain X k)
    split
    · exact h.may p (by simp)
    · exact ih h.tail.1
theorem Ord.chain_mem (h : Ord X) (hp : p ∈ X) : chain X p.1 = p.2 := by
  induction X with
  | nil => cases hp
  | cons q X ih =>
    show (if q.1 = p.1 then q.2 else chain X p.1) = p.2
    rcases List.mem_cons.1 hp with rfl | hp
    · rw [if_pos rfl]
    · rw [if_neg (less_ne (h.tail.2 p hp)), ih h.tail.1 hp]
/-- a chain in its own place -/
theorem set_there {A B : Cs} {d : Ch} (h : Ord (A ++ (k, d) :: B)) (hc : mayB c = true) : setX (A ++ (k, d) :: B) k c = A ++ (k, c) :: B := by
  have hu := List.pairwise_append.1 h.up
  have hb := List.pairwise_cons.1 hu.2.1
  have ha : ∀ p ∈ A, ahead k p = true := fun p hp => hu.2.2 p hp (k, d) (by simp)
  have e1 : (A ++ (k, d) :: B).takeWhile (ahead k) = A := by
    have := List.takeWhile_append_of_pos (p := ahead k) (l₁ := A) (l₂ := (k, d) :: B) ha
    rw [this, List.takeWhile_cons, if_neg (by simp [ahead, less_irrefl]), List.append_nil]
  have e2 : (A ++ (k, d) :: B).dropWhile (ahead k) = (k, d) :: B := by
    have := List.dropWhile_append_of_pos (p := ahead k) (l₁ := A) (l₂ := (k, d) :: B) ha
    rw [this, List.dropWhile_cons, if_neg (by simp [ahead, less_irrefl])]
  unfold setX
  rw [e1, e2, List.filter_cons, if_neg (by simp [other, same_self]), List.filter_eq_self.2 (fun q hq => ?_)]
  · unfold one
    rw [if_pos hc]
    rfl
  · unfold other
    rw [same_no (fun e => less_ne (hb.1 q hq) e.symm)]
    rfl
end

/-! ### read, written, committed, aborted, the newest -/

def readX (X : Cs) (k : Ky) (ts : Int) : Cs := if ts < 0 then X else setX X k (Cn.readC (chain X k) ts)
def readW (X : Cs) (k : Ky) (ts : Int) : Vr := if ts < 0 then Cn.zero else Cn.readV (chain X k) ts
def writeX (X : Cs) (k : Ky) (ts : Int) (val : ByteArray) : Cs := if ts < 1 then X else setX X k (Cn.writeC (chain X k) ts val)
def writeF (X : Cs) (k : Ky) (ts : Int) : Int := if ts < 1 then 1 else Cn.writeE (chain X k) ts
def undone (ts : Int) (v : Vr) : Bool := decide (v.ts = ts) && !v.done
def tells (ts : Int) (p : Ky × Ch) : List (Ky × ByteArray) := (p.2.filter (undone ts)).map (fun v => (p.1, v.val))
def commitW (X : Cs) (ts : Int) : List (Ky × ByteArray) := X.flatMap (tells ts)
def commitX (X : Cs) (ts : Int) : Cs := X.map (fun p => (p.1, Cn.commitC p.2 ts))
def abortX (X : Cs) (ts : Int) : Cs := X.map (fun p => (p.1, Cn.abortC p.2 ts))
def lastV (s : ByteArray) (c : Ch) : ByteArray := c.foldl (fun s v => if v.done = true then v.val else s) s
def newest (X : Cs) : List (Ky × ByteArray) := X.flatMap (fun p => if lastV ByteArray.empty p.2 = ByteArray.empty then [] else [(p.1, lastV ByteArray.empty p.2)])

section
variable {X : Cs}
theorem Ord.map (h : Ord X) (f : Ch → Ch) (hf : ∀ c, May c → May (f c)) : Ord (X.map (fun p => (p.1, f p.2))) := by
  refine ⟨?_, fun p hp => ?_⟩
  · rw [List.pairwise_map]
    exact h.up
  · obtain ⟨q, hq, rfl⟩ := List.mem_map.1 hp
    exact hf _ (h.may q hq)
theorem Ord.read (h : Ord X) (k : Ky) (ts : Int) : Ord (readX X k ts) := by
  unfold readX
  split
  · exact h
  · exact h.set k _
theorem Ord.write (h : Ord X) (k : Ky) (ts : Int) (val : ByteArray) : Ord (writeX X k ts val) := by
  unfold writeX
  split
  · exact h
  · exact h.set k _
theorem Ord.commit (h : Ord X) (ts : Int) : Ord (commitX X ts) := h.map (fun c => Cn.commitC c ts) (fun _ hc => Cn.may_commit hc ts)
theorem Ord.abort (h : Ord X) (ts : Int) : Ord (abortX X ts) := h.map (fun c => Cn.abortC c ts) (fun _ hc => Cn.may_abort hc ts)
/-- set one by one, of a rising list: those ahead are done -/
theorem set_map {A B : Cs} {k : Ky} {d : Ch} (f : Ch → Ch) (hf : ∀ c, May c → May (f c)) (h : Ord (A ++ (k, d) :: B)) :
    setX (A.map (fun p => (p.1, f p.2)) ++ (k, d) :: B) k (f d) = (A ++ [(k, d)]).map (fun p => (p.1, f p.2)) ++ B := by
  have h2 : Ord (A.map (fun p => (p.1, f p.2)) ++ (k, d) :: B) := by
    have hu := List.pairwise_append.1 h.up
    refine ⟨List.pairwise_append.2 ⟨by rw [List.pairwise_map]; exact hu.1, hu.2.1, fun p hp q hq => ?_⟩, fun p hp => ?_⟩
    · obtain ⟨r, hr, rfl⟩ := List.mem_map.1 hp
      exact hu.2.2 r hr q hq
    · rcases List.mem_append.1 hp with hp | hp
      · obtain ⟨r, hr, rfl⟩ := List.mem_map.1 hp
        exact hf _ (h.may r (by simp [hr]))
      · exact h.may p (by simp only [List.mem_append]; exact Or.inr hp)
  rw [set_there h2 ((Cn.mayB_iff _).2 (hf d (h.may (k, d) (by simp))))]
  simp
end

end Go.Proofs.Ytmlocdfjjgbnjaa.Cl

namespace Go.Proofs.Ytmlocdfjjgbnjaa.Cl
open Cn (Vr Ch May mayB)

section
variable {X : Cs} {c a b : Ch} {v : Vr} {ts : Int} {val : ByteArray}

theorem undone_commit (hm : May c) (ts : Int) : (Cn.commitC c ts).filter (undone ts) = [] := by
  unfold Cn.commitC
  rw [if_pos ((Cn.mayB_iff c).2 hm), List.filter_eq_nil_iff]
  intro x hx
  obtain ⟨y, _, rfl⟩ := List.mem_map.1 hx
  unfold Cn.doneV undone
  by_cases h : y.ts = ts
  · rw [if_pos h]; simp
  · rw [if_neg h]; simp [h]
theorem undone_abort (hm : May c) (ts : Int) : (Cn.abortC c ts).filter (undone ts) = [] := by
  unfold Cn.abortC
  rw [if_pos ((Cn.mayB_iff c).2 hm), List.filter_eq_nil_iff]
  intro x hx
  have := (List.mem_filter.1 hx).2
  unfold Cn.goneB at this
  unfold undone
  cases h : (decide (x.ts = ts) && !x.done) with
  | false => simp
  | true => rw [h] at this; cases this
/-- P11.4: no version of it is left that isn't committed -/
theorem abort_none (hm : May c) {x : Vr} (hx : x ∈ Cn.abortC c ts) : ¬ (x.ts = ts ∧ x.done = false) := by
  rintro ⟨h1, h2⟩
  have h := List.filter_eq_nil_iff.1 (undone_abort hm ts) x hx
  exact h (by unfold undone; rw [decide_eq_true h1, h2]; rfl)
theorem commitW_nil (h : ∀ p ∈ X, p.2.filter (undone ts) = []) : commitW X ts = [] := by
  unfold commitW
  rw [List.flatMap_eq_nil_iff]
  intro p hp
  unfold tells
  rw [h p hp]
  rfl
/-- committed again nothing is told -/
theorem again_commit (h : Ord X) (ts : Int) : commitW (commitX X ts) ts = [] := commitW_nil (fun p hp => by
  obtain ⟨q, hq, rfl⟩ := List.mem_map.1 hp
  exact undone_commit (h.may q hq) ts)
theorem again_abort (h : Ord X) (ts : Int) : commitW (abortX X ts) ts = [] := commitW_nil (fun p hp => by
  obtain ⟨q, hq, rfl⟩ := List.mem_map.1 hp
  exact undone_abort (h.may q hq) ts)
theorem keys_map (X : Cs) (g : Ch → Ch) : (X.map (fun p => (p.1, g p.2))).map Prod.fst = X.map Prod.fst := by
  rw [List.map_map]
  rfl
theorem chain_abort (h : Ord X) (ts : Int) {p : Ky × Ch} (hp : p ∈ X) : chain (abortX X ts) p.1 = Cn.abortC (chain X p.1) ts := by
  rw [h.chain_mem hp]
  exact (h.abort ts).chain_mem (p := (p.1, Cn.abortC p.2 ts)) (List.mem_map.2 ⟨p, hp, rfl⟩)
theorem May.left (hm : May (a ++ v :: b)) : ∀ x ∈ a, x.ts < v.ts := fun x hx => (List.pairwise_append.1 hm.up).2.2 x hx v (by simp)
/-- what is written, and isn't late, is there once -/
theorem undone_write (hm : May c) (hp : Cn.Sp c ts a v b) (hlt : Cn.lateV v ts = false) (val : ByteArray) : ((Cn.writeC c ts val).filter (undone ts)).map (·.val) = [val] := by
  have hm2 := hm
  rw [hp.eq] at hm2
  have ha := May.left hm2
  have hb := hp.gt
  have hle := hp.le
  have hfa : a.filter (undone ts) = [] := List.filter_eq_nil_iff.2 (fun x hx => by
    have := ha x hx
    unfold undone
    rw [decide_eq_false (by omega)]
    simp)
  have hfb : b.filter (undone ts) = [] := List.filter_eq_nil_iff.2 (fun x hx => by
    have := hb x hx
    unfold undone
    rw [decide_eq_false (by omega)]
    simp)
  by_cases ho : v.ts = ts
  · have hd : v.done = false := (Cn.Sp.notlate hlt).2.elim id (fun h => absurd ho h)
    rw [(hp.own hm hlt ho).1, List.filter_append, hfa, List.filter_cons, if_pos (by unfold undone; rw [decide_eq_true ho, hd]; rfl), hfb]
    rfl
  · rw [(hp.new hm hlt ho).1, List.filter_append, hfa, List.filter_cons, if_neg (by unfold undone; rw [decide_eq_false ho]; simp), List.filter_cons, if_pos (by unfold undone; simp), hfb]
    rfl

/-- two lists that rise, and have the same, are the same -/
theorem eq_of_rise {L M : List (Ky × ByteArray)} (h1 : L.Pairwise (fun p q => less p.1 q.1 = true)) (h2 : M.Pairwise (fun p q => less p.1 q.1 = true)) (hm : ∀ p, p ∈ L ↔ p ∈ M) : L = M := by
  induction L generalizing M with
  | nil =>
    cases M with
    | nil => rfl
    | cons q M => exact absurd ((hm q).2 (by simp)) (by simp)
  | cons p L ih =>
    cases M with
    | nil => exact absurd ((hm p).1 (by simp)) (by simp)
    | cons q M =>
      have g1 := List.pairwise_cons.1 h1
      have g2 := List.pairwise_cons.1 h2
      have e : p = q := by
        rcases List.mem_cons.1 ((hm p).1 (by simp)) with e | e
        · exact e
        · rcases List.mem_cons.1 ((hm q).2 (by simp)) with e2 | e2
          · exact e2.symm
          · have a1 := g2.1 p e
            have a2 := less_asymm (g1.1 q e2)
            rw [a1] at a2
            cases a2
      subst e
      rw [ih g1.2 g2.2 (fun x => ?_)]
      constructor
      · intro hx
        rcases List.mem_cons.1 ((hm x).1 (by simp [hx])) with e | e
        · subst e
          have := g1.1 x hx
          rw [less_irrefl] at this
          cases this
        · exact e
      · intro hx
        rcases List.mem_cons.1 ((hm x).2 (by simp [hx])) with e | e
        · subst e
          have := g2.1 x hx
          rw [less_irrefl] at this
          cases this
        · exact e

/-- what is written by ts, and isn't committed: of each key f -/
structure Wt (Y : Cs) (ts : Int) (f : Ky → Option ByteArray) : Prop where
  ord : Ord Y
  told : ∀ k, ((chain Y k).filter (undone ts)).map (·.val) = (f k).toList
  here : ∀ k, f k ≠ none → ∃ p ∈ Y, p.1 = k

variable {Y : Cs} {f : Ky → Option ByteArray}
theorem Wt.mem (h : Wt Y ts f) (k : Ky) (s : ByteArray) : (k, s) ∈ commitW Y ts ↔ f k = some s := by
  unfold commitW tells
  rw [List.mem_flatMap]
  constructor
  · rintro ⟨p, hp, hs⟩
    obtain ⟨x, hx, e⟩ := List.mem_map.1 hs
    cases e
    have ht := h.told p.1
    rw [h.ord.chain_mem hp] at ht
    have hm : x.val ∈ (p.2.filter (undone ts)).map (·.val) := List.mem_map.2 ⟨x, hx, rfl⟩
    rw [ht] at hm
    cases e : f p.1 with
    | none => rw [e] at hm; simp at hm
    | some y => rw [e] at hm; simp at hm; rw [hm]
  · intro hs
    obtain ⟨p, hp, rfl⟩ := h.here k (by rw [hs]; simp)
    have ht := h.told p.1
    rw [h.ord.chain_mem hp, hs] at ht
    have hm : s ∈ (p.2.filter (undone ts)).map (·.val) := by rw [ht]; simp
    obtain ⟨x, hx, e⟩ := List.mem_map.1 hm
    exact ⟨p, hp, List.mem_map.2 ⟨x, hx, by rw [e]⟩⟩
theorem Wt.rise (h : Wt Y ts f) : (commitW Y ts).Pairwise (fun p q => less p.1 q.1 = true) := by
  unfold commitW
  rw [List.pairwise_flatMap]
  refine ⟨fun p hp => ?_, h.ord.up.imp (fun {p q} hpq x hx y hy => ?_)⟩
  · unfold tells
    have ht := h.told p.1
    rw [h.ord.chain_mem hp] at ht
    have e : (p.2.filter (undone ts)).map (fun v => (p.1, v.val)) = ((p.2.filter (undone ts)).map (·.val)).map (fun s => (p.1, s)) := by rw [List.map_map]; rfl
    rw [e, ht]
    cases f p.1 <;> simp
  · unfold tells at hx hy
    obtain ⟨_, _, rfl⟩ := List.mem_map.1 hx
    obtain ⟨_, _, rfl⟩ := List.mem_map.1 hy
    exact hpq
/-- P11.4: what is committed is what was written: each key's last, in order -/
theorem Wt.told_is (h : Wt Y ts f) {M : List (Ky × ByteArray)} (h2 : M.Pairwise (fun p q => less p.1 q.1 = true)) (hm : ∀ k s, (k, s) ∈ M ↔ f k = some s) : commitW Y ts = M :=
  eq_of_rise h.rise h2 (fun p => (h.mem p.1 p.2).trans (hm p.1 p.2).symm)
/-- at first, behind a commit: nothing -/
theorem Wt.start (h : Ord X) (ts : Int) : Wt (commitX X ts) ts (fun _ => none) := by
  refine ⟨h.commit ts, fun k => ?_, fun k e => absurd rfl e⟩
  have hz2 : (Cn.fresh.filter (undone ts)) = [] := by
    unfold Cn.fresh undone
    simp
  by_cases hk : ∃ p ∈ commitX X ts, p.1 = k
  · obtain ⟨p, hp, rfl⟩ := hk
    rw [(h.commit ts).chain_mem hp]
    obtain ⟨q, hq, rfl⟩ := List.mem_map.1 hp
    rw [undone_commit (h.may q hq)]
    rfl
  · rw [chain_none _ _ (fun p hp e => hk ⟨p, hp, e⟩), hz2]
    rfl
theorem set_keeps (Y : Cs) {k : Ky} (c : Ch) {p : Ky × Ch} (hp : p ∈ Y) (hk : p.1 ≠ k) : p ∈ setX Y k c := by
  rw [← List.takeWhile_append_dropWhile (p := ahead k) (l := Y)] at hp
  unfold setX
  rcases List.mem_append.1 hp with hp | hp
  · exact List.mem_append_left _ hp
  · exact List.mem_append_right _ (List.mem_append_right _ (List.mem_filter.2 ⟨hp, by unfold other; rw [same_no hk]; rfl⟩))
theorem set_has (Y : Cs) (k : Ky) {c : Ch} (hc : May c) : (k, c) ∈ setX Y k c := by
  unfold setX one
  rw [if_pos ((Cn.mayB_iff c).2 hc)]
  simp
/-- what a chain's write does to what is told -/
theorem write_told (hm : May c) (ts : Int) (val : ByteArray) : ((Cn.writeC c ts val).filter (undone ts)).map (·.val) = if Cn.writeE c ts = 0 then [val] else (c.filter (undone ts)).map (·.val) := by
  rcases hm.cases ts with hl | ⟨a, v, b, hs⟩
  · rw [Cn.writeC_none (Cn.at_low hl), Cn.writeE_none (Cn.at_low hl)]
    rfl
  · cases hlt : Cn.lateV v ts with
    | true =>
      rw [(hs.late hm hlt).1, (hs.late (val := val) hm hlt).2]
      rfl
    | false =>
      have h0 : Cn.writeE c ts = 0 := by
        by_cases ho : v.ts = ts
        · exact (hs.own (val := val) hm hlt ho).2
        · exact (hs.new (val := val) hm hlt ho).2
      rw [h0, if_pos rfl, undone_write hm hs hlt val]
/-- one write more -/
theorem Wt.write (h : Wt Y ts f) (ht : 1 ≤ ts) (k : Ky) (val : ByteArray) : Wt (writeX Y k ts val) ts (fun k' => if k' = k ∧ writeF Y k ts = 0 then some val else f k') := by
  have hm := h.ord.chain_may k
  have hmw := Cn.may_write hm ts val
  have e1 : writeX Y k ts val = setX Y k (Cn.writeC (chain Y k) ts val) := by unfold writeX; rw [if_neg (by omega)]
  have e2 : writeF Y k ts = Cn.writeE (chain Y k) ts := by unfold writeF; rw [if_neg (by omega)]
  rw [e1, e2]
  refine ⟨h.ord.set k _, fun k' => ?_, fun k' hk' => ?_⟩
  · by_cases e : k' = k
    · subst e
      rw [chain_same, if_pos ((Cn.mayB_iff _).2 hmw), write_told hm]
      by_cases h0 : Cn.writeE (chain Y k') ts = 0
      · rw [if_pos h0, if_pos ⟨rfl, h0⟩]; rfl
      · rw [if_neg h0, if_neg (fun g => h0 g.2)]; exact h.told k'
    · rw [chain_other _ _ e, if_neg (fun g => e g.1)]
      exact h.told k'
  · by_cases e : k' = k
    · subst e
      exact ⟨_, set_has Y k' hmw, rfl⟩
    · rw [if_neg (fun g => e g.1)] at hk'
      obtain ⟨p, hp, rfl⟩ := h.here k' hk'
      exact ⟨p, set_keeps Y _ hp e, rfl⟩
end

end Go.Proofs.Ytmlocdfjjgbnjaa.Cl

namespace Go.Proofs.Ytmlocdfjjgbnjaa.Cl
open Cn (Vr Ch May)

section
variable {c a b : Ch} {v : Vr} {ts : Int}

theorem sp_touch (h : Cn.Sp c ts a v b) : Cn.Sp (a ++ Cn.touch v ts :: b) ts a (Cn.touch v ts) b := ⟨rfl, h.le, h.gt⟩
/-- read again it is the same -/
theorem read_read (hm : May c) (ts : Int) : (Cn.readV (Cn.readC c ts) ts).val = (Cn.readV c ts).val := by
  rcases hm.cases ts with hl | ⟨a, v, b, hs⟩
  · rw [Cn.readC_none (Cn.at_low hl)]
  · have hm2 := Cn.may_read hm ts
    rw [hs.readC hm] at hm2 ⊢
    rw [(sp_touch hs).readV hm2, hs.readV hm]
    rfl
theorem undone_touch (v : Vr) (ts : Int) : undone ts (Cn.touch v ts) = undone ts v := rfl
theorem undone_read (hm : May c) (ts : Int) (h : c.filter (undone ts) = []) : (Cn.readC c ts).filter (undone ts) = [] := by
  rcases hm.cases ts with hl | ⟨a, v, b, hs⟩
  · rw [Cn.readC_none (Cn.at_low hl)]; exact h
  · rw [hs.readC hm]
    rw [hs.eq] at h
    rw [List.filter_eq_nil_iff] at h ⊢
    intro x hx
    simp only [List.mem_append, List.mem_cons] at hx
    rcases hx with hx | rfl | hx
    · exact h x (by simp [hx])
    · rw [undone_touch]; exact h v (by simp)
    · exact h x (by simp [hx])
/-- what is committed is read -/
theorem read_commit (hm : May c) (ts : Int) {s : ByteArray} (h : (c.filter (undone ts)).map (·.val) = [s]) : (Cn.readV (Cn.commitC c ts) ts).val = s := by
  have hm2 := Cn.may_commit hm ts
  have hmem : s ∈ (c.filter (undone ts)).map (·.val) := by rw [h]; simp
  obtain ⟨x, hx, rfl⟩ := List.mem_map.1 hmem
  obtain ⟨hx1, hx2⟩ := List.mem_filter.1 hx
  have hxt : x.ts = ts := by
    unfold undone at hx2
    simp at hx2
    exact hx2.1
  rcases hm.cases ts with hl | ⟨a, v, b, hs⟩
  · have := hl x hx1; omega
  · have hxv : x = v := by
      rw [hs.eq] at hx1 hm
      simp only [List.mem_append, List.mem_cons] at hx1
      rcases hx1 with hx1 | rfl | hx1
      · have h1 := hm.lt_v.1 x hx1
        have h2 := hs.le
        omega
      · rfl
      · have := hs.gt x hx1; omega
    subst hxv
    have e : Cn.commitC c ts = (a.map (Cn.doneV ts)) ++ Cn.doneV ts x :: (b.map (Cn.doneV ts)) := by
      unfold Cn.commitC
      rw [if_pos ((Cn.mayB_iff _).2 hm), hs.eq, List.map_append, List.map_cons]
    have hs2 : Cn.Sp (Cn.commitC c ts) ts (a.map (Cn.doneV ts)) (Cn.doneV ts x) (b.map (Cn.doneV ts)) := by
      refine ⟨e, by rw [(Cn.doneV_ts ts x).1]; exact hs.le, fun y hy => ?_⟩
      obtain ⟨z, hz, rfl⟩ := List.mem_map.1 hy
      rw [(Cn.doneV_ts ts z).1]
      exact hs.gt z hz
    rw [hs2.readV hm2]
    exact (Cn.doneV_ts ts x).2.2.1
end

/-- a key of few -/
def kN (n : Int) : Ky := ⟨1, n, 0⟩
/-- .. and what was written to those of four -/
def four (g : Nat → Option ByteArray) (k : Ky) : Option ByteArray := if k.kind = 1 ∧ k.b = 0 ∧ 0 ≤ k.a ∧ k.a < 4 then g k.a.toNat else none
theorem four_at (g : Nat → Option ByteArray) {n : Nat} (hn : n < 4) : four g (kN n) = g n := by
  unfold four kN
  rw [if_pos ⟨rfl, rfl, by simp, by show (n : Int) < 4; omega⟩]
  rfl
theorem four_put (g : Nat → Option ByteArray) {n : Nat} (hn : n < 4) (s : ByteArray) : (fun k => if k = kN n then some s else four g k) = four (fun m => if m = n then some s else g m) := by
  funext k
  unfold four
  by_cases h : k = kN n
  · subst h
    rw [if_pos rfl, if_pos ⟨rfl, rfl, by show (0 : Int) ≤ (n : Int); omega, by show (n : Int) < 4; omega⟩]
    show some s = if ((n : Int)).toNat = n then some s else _
    rw [if_pos (by simp)]
  · rw [if_neg h]
    by_cases h2 : k.kind = 1 ∧ k.b = 0 ∧ 0 ≤ k.a ∧ k.a < 4
    · rw [if_pos h2, if_pos h2]
      have : k.a.toNat ≠ n := fun e => h (Ky.ext' h2.1 (by show k.a = (n : Int); omega) h2.2.1)
      show g k.a.toNat = if k.a.toNat = n then some s else g k.a.toNat
      rw [if_neg this]
    · rw [if_neg h2, if_neg h2]
theorem four_same (g : Nat → Option ByteArray) (k : Ky) {p : Prop} [Decidable p] (hp : ¬ p) (s : ByteArray) (k0 : Ky) : (if k = k0 ∧ p then some s else four g k) = four g k := by
  rw [if_neg (fun q => hp q.2)]
/-- what of the first n is told, in turn -/
def told4 (g : Nat → Option ByteArray) : Nat → List (Ky × ByteArray)
  | 0 => []
  | n + 1 => told4 g n ++ (match g n with
    | none => []
    | some s => [(kN n, s)])
theorem told4_none {g : Nat → Option ByteArray} {n : Nat} (h : g n = none) : told4 g (n + 1) = told4 g n := by
  show told4 g n ++ _ = _
  rw [h]
  simp
theorem told4_some {g : Nat → Option ByteArray} {n : Nat} {s : ByteArray} (h : g n = some s) : told4 g (n + 1) = told4 g n ++ [(kN n, s)] := by
  show told4 g n ++ _ = _
  rw [h]
theorem told4_mem {g : Nat → Option ByteArray} {n : Nat} {p : Ky × ByteArray} : p ∈ told4 g n ↔ ∃ m, m < n ∧ g m = some p.2 ∧ p.1 = kN m := by
  induction n with
  | zero => simp [told4]
  | succ n ih =>
    cases hg : g n with
    | none =>
      rw [told4_none hg, ih]
      constructor
      · rintro ⟨m, h1, h2⟩; exact ⟨m, by omega, h2⟩
      · rintro ⟨m, h1, h2, h3⟩
        by_cases e : m = n
        · subst e; rw [hg] at h2; cases h2
        · exact ⟨m, by omega, h2, h3⟩
    | some s =>
      rw [told4_some hg, List.mem_append, ih, List.mem_singleton]
      constructor
      · rintro (⟨m, h1, h2⟩ | rfl)
        · exact ⟨m, by omega, h2⟩
        · exact ⟨n, by omega, hg, rfl⟩
      · rintro ⟨m, h1, h2, h3⟩
        by_cases e : m = n
        · subst e
          rw [hg] at h2
          cases h2
          right
          cases p
          simp only at h3 ⊢
          rw [h3]
        · exact Or.inl ⟨m, by omega, h2, h3⟩
theorem less_kN {m n : Nat} (h : m < n) : less (kN m) (kN n) = true := (less_iff _ _).2 (by unfold kN; dsimp only; omega)
theorem told4_rise (g : Nat → Option ByteArray) (n : Nat) : (told4 g n).Pairwise (fun p q => less p.1 q.1 = true) := by
  induction n with
  | zero => exact List.Pairwise.nil
  | succ n ih =>
    cases hg : g n with
    | none => rw [told4_none hg]; exact ih
    | some s =>
      rw [told4_some hg]
      refine List.pairwise_append.2 ⟨ih, List.pairwise_singleton _ _, fun p hp q hq => ?_⟩
      obtain ⟨m, h1, _, h3⟩ := told4_mem.1 hp
      rw [List.mem_singleton] at hq
      subst hq
      rw [h3]
      exact less_kN h1
/-- all of it -/
theorem told_four {Y : Cs} {ts : Int} {g : Nat → Option ByteArray} (h : Wt Y ts (four g)) : commitW Y ts = told4 g 4 := by
  refine h.told_is (told4_rise g 4) (fun k s => ?_)
  rw [told4_mem]
  constructor
  · rintro ⟨m, h1, h2, h3⟩
    have h3 : k = kN m := h3
    rw [h3, four_at g h1]
    exact h2
  · intro hs
    unfold four at hs
    split at hs
    · rename_i hk
      exact ⟨k.a.toNat, by omega, hs, Ky.ext' hk.1 (by show k.a = (k.a.toNat : Int); omega) hk.2.1⟩
    · cases hs
/-- place n of all -/
theorem told4_at {g : Nat → Option ByteArray} {n N : Nat} {s : ByteArray} (hg : g n = some s) (hn : n < N) : ∃ R, told4 g N = told4 g n ++ (kN n, s) :: R := by
  induction N with
  | zero => omega
  | succ N ih =>
    by_cases e : n = N
    · subst e
      exact ⟨[], told4_some hg⟩
    · obtain ⟨R, hR⟩ := ih (by omega)
      cases h : g N with
      | none => exact ⟨R, by rw [told4_none h, hR]⟩
      | some t => exact ⟨R ++ [(kN N, t)], by rw [told4_some h, hR]; simp⟩

/-- behind the commit: what is read of each key, and nothing is left to be told -/
structure Rd (Z : Cs) (ts : Int) (g : Nat → Option ByteArray) : Prop where
  ord : Ord Z
  is : ∀ n s, n < 4 → g n = some s → (Cn.readV (chain Z (kN n)) ts).val = s
  no : ∀ p ∈ Z, p.2.filter (undone ts) = []

theorem Rd.start {Y : Cs} {ts : Int} {g : Nat → Option ByteArray} (h : Wt Y ts (four g)) : Rd (commitX Y ts) ts g := by
  refine ⟨h.ord.commit ts, fun n s hn hg => ?_, fun p hp => ?_⟩
  · have ht := h.told (kN n)
    have hf := four_at g hn
    rw [hf, hg] at ht
    obtain ⟨p, hp, hk⟩ := h.here (kN n) (by rw [hf, hg]; simp)
    have hc : chain Y (kN n) = p.2 := by rw [← hk]; exact h.ord.chain_mem hp
    have hp2 : (p.1, Cn.commitC p.2 ts) ∈ commitX Y ts := List.mem_map.2 ⟨p, hp, rfl⟩
    have e := (h.ord.commit ts).chain_mem hp2
    have e : chain (commitX Y ts) (kN n) = Cn.commitC p.2 ts := by rw [← hk]; exact e
    rw [e]
    rw [hc] at ht
    exact read_commit (h.ord.may p hp) ts ht
  · obtain ⟨q, hq, rfl⟩ := List.mem_map.1 hp
    exact undone_commit (h.ord.may q hq) ts
theorem Rd.read {Z : Cs} {ts : Int} {g : Nat → Option ByteArray} (h : Rd Z ts g) (ht : 1 ≤ ts) (k : Ky) : Rd (readX Z k ts) ts g := by
  have hm := h.ord.chain_may k
  have e1 : readX Z k ts = setX Z k (Cn.readC (chain Z k) ts) := by unfold readX; rw [if_neg (by omega)]
  have hmr := Cn.may_read hm ts
  refine ⟨h.ord.read k ts, fun n s hn hg => ?_, fun p hp => ?_⟩
  · rw [e1]
    by_cases e : kN n = k
    · subst e
      rw [chain_same, if_pos ((Cn.mayB_iff _).2 hmr), read_read hm ts]
      exact h.is n s hn hg
    · rw [chain_other _ _ e]
      exact h.is n s hn hg
  · rw [e1] at hp
    rcases mem_set hp with ⟨q, _⟩ | ⟨rfl, _⟩
    · exact h.no p q
    · refine undone_read hm ts ?_
      by_cases hk : ∃ q ∈ Z, q.1 = k
      · obtain ⟨q, hq, rfl⟩ := hk
        rw [h.ord.chain_mem hq]
        exact h.no q hq
      · rw [chain_none _ _ (fun q hq e => hk ⟨q, hq, e⟩)]
        unfold Cn.fresh undone
        simp
theorem Rd.val {Z : Cs} {ts : Int} {g : Nat → Option ByteArray} (h : Rd Z ts g) (ht : 1 ≤ ts) {n : Nat} {s : ByteArray} (hn : n < 4) (hg : g n = some s) : (readW Z (kN n) ts).val = s := by
  unfold readW
  rw [if_neg (by omega)]
  exact h.is n s hn hg
theorem Rd.nothing {Z : Cs} {ts : Int} {g : Nat → Option ByteArray} (h : Rd Z ts g) : commitW Z ts = [] := commitW_nil h.no

end Go.Proofs.Ytmlocdfjjgbnjaa.Cl
