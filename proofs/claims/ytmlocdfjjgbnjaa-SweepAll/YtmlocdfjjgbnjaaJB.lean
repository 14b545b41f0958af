/-
  The plain mathematics of layer chain: versions, chains that may be, who is seen; read, written, committed, aborted. No program stands here.
  The plain mathematics of layer chain's laws: who is seen, by members; what one reads stays what it reads; late; undone. No program stands here.
-/
import Derived.Test.YtmlocdfjjgbnjaaRows
namespace Go.Proofs.Ytmlocdfjjgbnjaa.Cn

/-- a version -/
structure Vr where
  ts : Int
  rd : Int
  val : ByteArray
  done : Bool

abbrev Ch := List Vr

def zero : Vr := ⟨0, 0, ByteArray.empty, false⟩
def fresh : Ch := [⟨0, 0, ByteArray.empty, true⟩]

/-- a chain that may be -/
structure May (c : Ch) : Prop where
  ok : ∀ v ∈ c, 0 ≤ v.ts ∧ v.ts ≤ v.rd
  up : c.Pairwise (fun a b => a.ts < b.ts)
  first : ∃ v r, c = v :: r ∧ v.done = true

def upB : Int → List Vr → Bool
  | _, [] => true
  | p, v :: r => decide (p < v.ts) && (decide (v.ts ≤ v.rd) && upB v.ts r)
def mayB : List Vr → Bool
  | [] => false
  | v :: r => v.done && (decide (0 ≤ v.ts) && (decide (v.ts ≤ v.rd) && upB v.ts r))

theorem upB_iff : ∀ (l : List Vr) (p : Int), upB p l = true ↔ (∀ v ∈ l, p < v.ts ∧ v.ts ≤ v.rd) ∧ l.Pairwise (fun a b => a.ts < b.ts) := by
  intro l
  induction l with
  | nil => intro p; simp [upB]
  | cons v r ih =>
    intro p
    simp only [upB, Bool.and_eq_true, decide_eq_true_eq, List.mem_cons, forall_eq_or_imp, List.pairwise_cons, ih v.ts]
    constructor
    · rintro ⟨h1, h2, h3, h4⟩
      exact ⟨⟨⟨h1, h2⟩, fun x hx => ⟨by have := (h3 x hx).1; omega, (h3 x hx).2⟩⟩, fun x hx => (h3 x hx).1, h4⟩
    · rintro ⟨⟨⟨h1, h2⟩, h3⟩, h4, h5⟩
      exact ⟨h1, h2, fun x hx => ⟨h4 x hx, (h3 x hx).2⟩, h5⟩
theorem mayB_iff (c : Ch) : mayB c = true ↔ May c := by
  cases c with
  | nil =>
    constructor
    · intro h; cases h
    · rintro ⟨_, _, v, r, h, _⟩; cases h
  | cons v r =>
    simp only [mayB, Bool.and_eq_true, decide_eq_true_eq, upB_iff]
    constructor
    · rintro ⟨h1, h2, h3, h4, h5⟩
      refine ⟨fun x hx => ?_, List.pairwise_cons.2 ⟨fun x hx => (h4 x hx).1, h5⟩, v, r, rfl, h1⟩
      rcases List.mem_cons.1 hx with rfl | hx
      · exact ⟨h2, h3⟩
      · exact ⟨by have := (h4 x hx).1; omega, (h4 x hx).2⟩
    · rintro ⟨h1, h2, v', r', e, h3⟩
      cases e
      have h2 := List.pairwise_cons.1 h2
      exact ⟨h3, (h1 _ (by simp)).1, (h1 _ (by simp)).2, fun x hx => ⟨h2.1 x hx, (h1 x (by simp [hx])).2⟩, h2.2⟩
theorem mayB_false {c : Ch} (h : ¬ May c) : mayB c = false := by
  cases e : mayB c with
  | false => rfl
  | true => exact absurd ((mayB_iff c).1 e) h

/-! ### who is seen -/

def lo (c : Ch) (ts : Int) : Nat := (c.takeWhile (fun v => decide (v.ts ≤ ts))).length
/-- the place of the version that is seen -/
def at? (c : Ch) (ts : Int) : Option Nat := if mayB c = true ∧ 0 < lo c ts then some (lo c ts - 1) else none
def look (c : Ch) (ts : Int) : Int := match at? c ts with
  | none => -1
  | some k => (k : Int)

theorem lo_of {a b : Ch} {ts : Int} (ha : ∀ x ∈ a, x.ts ≤ ts) (hb : ∀ x ∈ b, ts < x.ts) : lo (a ++ b) ts = a.length := by
  unfold lo
  induction a with
  | nil =>
    cases b with
    | nil => rfl
    | cons x b =>
      have := hb x (by simp)
      rw [List.nil_append, List.takeWhile_cons, if_neg (by simp; omega)]
  | cons x a ih =>
    rw [List.cons_append, List.takeWhile_cons, if_pos (by simpa using ha x (by simp)), List.length_cons, List.length_cons, ih (fun y hy => ha y (by simp [hy]))]

/-- whatever chain rises: those that aren't above, and those that are -/
theorem parts {c : Ch} (h : c.Pairwise (fun a b => a.ts < b.ts)) (ts : Int) : ∃ a b, c = a ++ b ∧ (∀ x ∈ a, x.ts ≤ ts) ∧ ∀ x ∈ b, ts < x.ts := by
  induction c with
  | nil => exact ⟨[], [], rfl, by simp, by simp⟩
  | cons v r ih =>
    have h := List.pairwise_cons.1 h
    obtain ⟨a, b, rfl, ha, hb⟩ := ih h.2
    by_cases hv : v.ts ≤ ts
    · exact ⟨v :: a, b, rfl, fun x hx => (List.mem_cons.1 hx).elim (fun e => e ▸ hv) (ha x), hb⟩
    · refine ⟨[], v :: (a ++ b), rfl, by simp, fun x hx => ?_⟩
      rcases List.mem_cons.1 hx with rfl | hx
      · omega
      · have := h.1 x hx; omega

/-- c is a, then v, which is seen, then b -/
structure Sp (c : Ch) (ts : Int) (a : Ch) (v : Vr) (b : Ch) : Prop where
  eq : c = a ++ v :: b
  le : v.ts ≤ ts
  gt : ∀ x ∈ b, ts < x.ts

section
variable {c a b : Ch} {v : Vr} {ts : Int}

theorem May.lt_v (h : May (a ++ v :: b)) : (∀ x ∈ a, x.ts < v.ts) ∧ ∀ x ∈ b, v.ts < x.ts := by
  have h := List.pairwise_append.1 h.up
  exact ⟨fun x hx => h.2.2 x hx v (by simp), (List.pairwise_cons.1 h.2.1).1⟩
theorem Sp.at_ (h : Sp c ts a v b) (hm : May c) : at? c ts = some a.length := by
  obtain ⟨rfl, hv, hb⟩ := h
  have ha := hm.lt_v.1
  have e : lo (a ++ v :: b) ts = a.length + 1 := by
    rw [show a ++ v :: b = (a ++ [v]) ++ b by simp, lo_of (fun x hx => ?_) hb]
    · simp
    · rcases List.mem_append.1 hx with g | g
      · have := ha x g; omega
      · rw [List.mem_singleton] at g; subst g; exact hv
  unfold at?
  rw [if_pos ⟨(mayB_iff _).2 hm, by omega⟩, e]
  rfl
theorem at_none (hm : ¬ May c) : at? c ts = none := by
  unfold at?
  rw [if_neg (fun h => hm ((mayB_iff c).1 h.1))]
theorem at_low (hl : ∀ x ∈ c, ts < x.ts) : at? c ts = none := by
  unfold at?
  rw [if_neg (fun h => by have := lo_of (a := []) (b := c) (ts := ts) (by simp) hl; simp at this; omega)]
/-- each chain that may be is one of the two -/
theorem May.cases (hm : May c) (ts : Int) : (∀ x ∈ c, ts < x.ts) ∨ ∃ a v b, Sp c ts a v b := by
  obtain ⟨a, b, rfl, ha, hb⟩ := parts hm.up ts
  rcases List.eq_nil_or_concat a with rfl | ⟨a', v, e⟩
  · exact Or.inl hb
  · rw [List.concat_eq_append] at e
    subst e
    exact Or.inr ⟨a', v, b, by simp, ha v (by simp), hb⟩
theorem Sp.lt (h : Sp c ts a v b) : a.length < c.length := by rw [h.eq]; simp
theorem Sp.get (h : Sp c ts a v b) (hl : a.length < c.length) : c[a.length] = v := by
  obtain ⟨rfl, _, _⟩ := h
  simp
end

/-! ### read, written, committed, aborted -/

def touch (v : Vr) (ts : Int) : Vr := ⟨v.ts, max v.rd ts, v.val, v.done⟩
def getV (c : Ch) (k : Nat) : Vr := c.getD k zero

def readC (c : Ch) (ts : Int) : Ch := match at? c ts with
  | none => c
  | some k => c.set k (touch (getV c k) ts)
def readV (c : Ch) (ts : Int) : Vr := match at? c ts with
  | none => zero
  | some k => touch (getV c k) ts
def lateV (v : Vr) (ts : Int) : Bool := decide (ts < v.rd) || (v.done && decide (v.ts = ts))
def writeC (c : Ch) (ts : Int) (val : ByteArray) : Ch := match at? c ts with
  | none => c
  | some k => if lateV (getV c k) ts = true then c else if (getV c k).ts = ts then c.set k ⟨(getV c k).ts, (getV c k).rd, val, (getV c k).done⟩ else c.take (k + 1) ++ ⟨ts, ts, val, false⟩ :: c.drop (k + 1)
def writeE (c : Ch) (ts : Int) : Int := match at? c ts with
  | none => 8
  | some k => if lateV (getV c k) ts = true then 8 else 0
def doneV (ts : Int) (v : Vr) : Vr := if v.ts = ts then ⟨v.ts, v.rd, v.val, true⟩ else v
def commitC (c : Ch) (ts : Int) : Ch := if mayB c = true then c.map (doneV ts) else c
def goneB (ts : Int) (v : Vr) : Bool := decide (v.ts = ts) && !v.done
def abortC (c : Ch) (ts : Int) : Ch := if mayB c = true then c.filter (fun v => !goneB ts v) else c

section
variable {c a b : Ch} {v : Vr} {ts : Int} {val : ByteArray}

theorem Sp.getV (h : Sp c ts a v b) : getV c a.length = v := by
  unfold Cn.getV
  rw [h.eq]
  simp [List.getD]
theorem readC_none (h : at? c ts = none) : readC c ts = c := by unfold readC; rw [h]
theorem readV_none (h : at? c ts = none) : readV c ts = zero := by unfold readV; rw [h]
theorem writeC_none (h : at? c ts = none) : writeC c ts val = c := by unfold writeC; rw [h]
theorem writeE_none (h : at? c ts = none) : writeE c ts = 8 := by unfold writeE; rw [h]
theorem set_mid (a b : Ch) (v w : Vr) : (a ++ v :: b).set a.length w = a ++ w :: b := by
  rw [List.set_append, if_neg (by omega), Nat.sub_self, List.set_cons_zero]
theorem Sp.readC (h : Sp c ts a v b) (hm : May c) : readC c ts = a ++ touch v ts :: b := by
  unfold Cn.readC
  rw [h.at_ hm]
  show c.set a.length (touch (Cn.getV c a.length) ts) = _
  rw [h.getV, h.eq, set_mid]
theorem Sp.readV (h : Sp c ts a v b) (hm : May c) : readV c ts = touch v ts := by
  unfold Cn.readV
  rw [h.at_ hm]
  show touch (Cn.getV c a.length) ts = _
  rw [h.getV]
theorem Sp.late (h : Sp c ts a v b) (hm : May c) (hl : lateV v ts = true) : writeC c ts val = c ∧ writeE c ts = 8 := by
  unfold writeC writeE
  rw [h.at_ hm]
  dsimp only
  rw [h.getV, if_pos hl, if_pos hl]
  exact ⟨rfl, rfl⟩
theorem Sp.own (h : Sp c ts a v b) (hm : May c) (hl : lateV v ts = false) (ho : v.ts = ts) : writeC c ts val = a ++ ⟨v.ts, v.rd, val, v.done⟩ :: b ∧ writeE c ts = 0 := by
  unfold writeC writeE
  rw [h.at_ hm]
  dsimp only
  rw [h.getV, hl, if_neg Bool.false_ne_true, if_neg Bool.false_ne_true, if_pos ho]
  exact ⟨by rw [h.eq, set_mid], rfl⟩
theorem Sp.new (h : Sp c ts a v b) (hm : May c) (hl : lateV v ts = false) (ho : v.ts ≠ ts) : writeC c ts val = a ++ v :: ⟨ts, ts, val, false⟩ :: b ∧ writeE c ts = 0 := by
  unfold writeC writeE
  rw [h.at_ hm]
  dsimp only
  rw [h.getV, hl, if_neg Bool.false_ne_true, if_neg Bool.false_ne_true, if_neg ho]
  refine ⟨?_, rfl⟩
  have e : c = (a ++ [v]) ++ b := by rw [h.eq]; simp
  have hl : (a ++ [v]).length = a.length + 1 := by simp
  rw [e, ← hl, List.take_left, List.drop_left]
  simp
theorem Sp.notlate (hl : lateV v ts = false) : v.rd ≤ ts ∧ (v.done = false ∨ v.ts ≠ ts) := by
  unfold lateV at hl
  simp at hl
  refine ⟨hl.1, ?_⟩
  cases hd : v.done with
  | false => exact Or.inl rfl
  | true => exact Or.inr (hl.2 hd)

/-! ### what may be stays so -/

theorem May.mid {w : Vr} (h : May (a ++ v :: b)) (ht : w.ts = v.ts) (hr : w.ts ≤ w.rd) (hd : v.done = true → w.done = true) : May (a ++ w :: b) := by
  obtain ⟨h1, h2, h3⟩ := h
  have hv := h1 v (by simp)
  refine ⟨fun x hx => ?_, ?_, ?_⟩
  · simp only [List.mem_append, List.mem_cons] at hx
    rcases hx with hx | rfl | hx
    · exact h1 x (by simp [hx])
    · exact ⟨by omega, hr⟩
    · exact h1 x (by simp [hx])
  · have h2 := List.pairwise_append.1 h2
    have h4 := List.pairwise_cons.1 h2.2.1
    refine List.pairwise_append.2 ⟨h2.1, List.pairwise_cons.2 ⟨fun x hx => by rw [ht]; exact h4.1 x hx, h4.2⟩, fun x hx y hy => ?_⟩
    rcases List.mem_cons.1 hy with rfl | hy
    · rw [ht]; exact h2.2.2 x hx v (by simp)
    · exact h2.2.2 x hx y (by simp [hy])
  · obtain ⟨f, r, e, hf⟩ := h3
    cases a with
    | nil =>
      simp only [List.nil_append, List.cons.injEq] at e
      obtain ⟨rfl, rfl⟩ := e
      exact ⟨w, b, rfl, hd hf⟩
    | cons x a =>
      simp only [List.cons_append, List.cons.injEq] at e
      obtain ⟨rfl, rfl⟩ := e
      exact ⟨x, a ++ w :: b, rfl, hf⟩
theorem May.put (h : May (a ++ v :: b)) {w : Vr} (h1 : v.ts < w.ts) (h2 : ∀ x ∈ b, w.ts < x.ts) (hr : w.ts ≤ w.rd) : May (a ++ v :: w :: b) := by
  have hv := h.ok v (by simp)
  have hl := h.lt_v
  obtain ⟨g1, g2, f, r, e, hf⟩ := h
  have g2 := List.pairwise_append.1 g2
  have g3 := List.pairwise_cons.1 g2.2.1
  refine ⟨fun x hx => ?_, ?_, ?_⟩
  · simp only [List.mem_append, List.mem_cons] at hx
    rcases hx with hx | rfl | rfl | hx
    · exact g1 x (by simp [hx])
    · exact hv
    · exact ⟨by omega, hr⟩
    · exact g1 x (by simp [hx])
  · refine List.pairwise_append.2 ⟨g2.1, List.pairwise_cons.2 ⟨fun x hx => ?_, List.pairwise_cons.2 ⟨h2, g3.2⟩⟩, fun x hx y hy => ?_⟩
    · rcases List.mem_cons.1 hx with rfl | hx
      · exact h1
      · exact g3.1 x hx
    · have := hl.1 x hx
      simp only [List.mem_cons] at hy
      rcases hy with rfl | rfl | hy
      · exact this
      · omega
      · exact g2.2.2 x hx y (by simp [hy])
  · cases a with
    | nil =>
      simp only [List.nil_append, List.cons.injEq] at e
      obtain ⟨rfl, rfl⟩ := e
      exact ⟨v, w :: b, rfl, hf⟩
    | cons x a =>
      simp only [List.cons_append, List.cons.injEq] at e
      obtain ⟨rfl, rfl⟩ := e
      exact ⟨x, a ++ v :: w :: b, rfl, hf⟩
theorem doneV_ts (ts : Int) (v : Vr) : (doneV ts v).ts = v.ts ∧ (doneV ts v).rd = v.rd ∧ (doneV ts v).val = v.val ∧ (v.done = true → (doneV ts v).done = true) := by
  unfold doneV
  split
  · exact ⟨rfl, rfl, rfl, fun _ => rfl⟩
  · exact ⟨rfl, rfl, rfl, fun h => h⟩
theorem May.commit (h : May c) (ts : Int) : May (c.map (doneV ts)) := by
  obtain ⟨h1, h2, f, r, rfl, hf⟩ := h
  refine ⟨fun x hx => ?_, ?_, doneV ts f, r.map (doneV ts), rfl, (doneV_ts ts f).2.2.2 hf⟩
  · obtain ⟨y, hy, rfl⟩ := List.mem_map.1 hx
    rw [(doneV_ts ts y).1, (doneV_ts ts y).2.1]
    exact h1 y hy
  · rw [List.pairwise_map]
    exact h2.imp (fun {a b} h => by rw [(doneV_ts ts a).1, (doneV_ts ts b).1]; exact h)
theorem May.abort (h : May c) (ts : Int) : May (c.filter (fun v => !goneB ts v)) := by
  obtain ⟨h1, h2, f, r, rfl, hf⟩ := h
  refine ⟨fun x hx => h1 x (List.mem_filter.1 hx).1, h2.filter _, f, r.filter (fun v => !goneB ts v), ?_, hf⟩
  rw [List.filter_cons, if_pos (by simp [goneB, hf])]

/-- P10.5 -/
theorem may_read (h : May c) (ts : Int) : May (readC c ts) := by
  rcases h.cases ts with hl | ⟨a, v, b, hs⟩
  · rw [readC_none (at_low hl)]; exact h
  · rw [hs.readC h]
    have := h
    rw [hs.eq] at this
    exact this.mid rfl (by have := (this.ok v (by simp)).2; show v.ts ≤ max v.rd ts; omega) (fun h => h)
theorem may_write (h : May c) (ts : Int) (val : ByteArray) : May (writeC c ts val) := by
  rcases h.cases ts with hl | ⟨a, v, b, hs⟩
  · rw [writeC_none (at_low hl)]; exact h
  · have hm := h
    rw [hs.eq] at hm
    cases hlt : lateV v ts with
    | true => rw [(hs.late h hlt).1]; exact h
    | false =>
      by_cases ho : v.ts = ts
      · rw [(hs.own h hlt ho).1]
        exact hm.mid rfl (hm.ok v (by simp)).2 (fun h => h)
      · rw [(hs.new h hlt ho).1]
        exact hm.put (by have := hs.le; show v.ts < ts; omega) (fun x hx => hs.gt x hx) (Int.le_refl _)
theorem may_commit (h : May c) (ts : Int) : May (commitC c ts) := by
  unfold commitC
  rw [if_pos ((mayB_iff c).2 h)]
  exact h.commit ts
theorem may_abort (h : May c) (ts : Int) : May (abortC c ts) := by
  unfold abortC
  rw [if_pos ((mayB_iff c).2 h)]
  exact h.abort ts
end

end Go.Proofs.Ytmlocdfjjgbnjaa.Cn

namespace Go.Proofs.Ytmlocdfjjgbnjaa.Cn

/-- s is the last version that isn't above ts -/
structure Seen (c : Ch) (ts : Int) (s : Vr) : Prop where
  mem : s ∈ c
  le : s.ts ≤ ts
  top : ∀ x ∈ c, x.ts ≤ ts → x.ts ≤ s.ts

section
variable {c a b : Ch} {v w x y s : Vr} {ts t : Int} {val : ByteArray}

theorem uniq (h : May c) (hx : x ∈ c) (hy : y ∈ c) (e : x.ts = y.ts) : x = y := by
  obtain ⟨i, hi, rfl⟩ := List.getElem_of_mem hx
  obtain ⟨j, hj, rfl⟩ := List.getElem_of_mem hy
  have hp := List.pairwise_iff_getElem.1 h.up
  rcases Nat.lt_trichotomy i j with g | g | g
  · have := hp i j hi hj g; omega
  · subst g; rfl
  · have := hp j i hj hi g; omega
theorem Sp.seen (h : Sp c ts a v b) (hm : May c) : Seen c ts v := by
  obtain ⟨rfl, hv, hb⟩ := h
  refine ⟨by simp, hv, fun x hx hxt => ?_⟩
  simp only [List.mem_append, List.mem_cons] at hx
  rcases hx with hx | rfl | hx
  · have := hm.lt_v.1 x hx; omega
  · exact Int.le_refl _
  · have := hb x hx; omega
theorem Seen.sp (h : Seen c ts s) (hm : May c) : ∃ a b, Sp c ts a s b := by
  rcases hm.cases ts with hl | ⟨a, v, b, hs⟩
  · have := hl s h.mem; have := h.le; omega
  · have hv := hs.seen hm
    have e : v = s := uniq hm hv.mem h.mem (by have := h.top v hv.mem hv.le; have := hv.top s h.mem h.le; omega)
    subst e
    exact ⟨a, b, hs⟩
theorem Seen.readV (h : Seen c ts s) (hm : May c) : readV c ts = touch s ts := by
  obtain ⟨a, b, hs⟩ := h.sp hm
  exact hs.readV hm
theorem Seen.eq (h : Seen c ts s) (h' : Seen c ts x) (hm : May c) : s = x :=
  uniq hm h.mem h'.mem (by have := h.top x h'.mem h'.le; have := h'.top s h.mem h.le; omega)
theorem mem_mid (hm : May (a ++ v :: b)) : x ∈ a ++ w :: b ↔ (x ∈ a ++ v :: b ∧ x.ts ≠ v.ts) ∨ x = w := by
  have hl := hm.lt_v
  simp only [List.mem_append, List.mem_cons]
  constructor
  · rintro (h | h | h)
    · exact Or.inl ⟨Or.inl h, by have := hl.1 x h; omega⟩
    · exact Or.inr h
    · exact Or.inl ⟨Or.inr (Or.inr h), by have := hl.2 x h; omega⟩
  · rintro (⟨h | h | h, hne⟩ | h)
    · exact Or.inl h
    · subst h; exact absurd rfl hne
    · exact Or.inr (Or.inr h)
    · exact Or.inr (Or.inl h)
theorem mem_put : x ∈ a ++ v :: w :: b ↔ x ∈ a ++ v :: b ∨ x = w := by
  simp only [List.mem_append, List.mem_cons]
  constructor
  · rintro (h | h | h | h)
    · exact Or.inl (Or.inl h)
    · exact Or.inl (Or.inr (Or.inl h))
    · exact Or.inr h
    · exact Or.inl (Or.inr (Or.inr h))
  · rintro ((h | h | h) | h)
    · exact Or.inl h
    · exact Or.inr (Or.inl h)
    · exact Or.inr (Or.inr (Or.inr h))
    · exact Or.inr (Or.inr (Or.inl h))

/-- a version in another's place: who is seen -/
theorem Seen.mid (hm : May (a ++ v :: b)) (ht : w.ts = v.ts) (h : Seen (a ++ v :: b) ts s) : Seen (a ++ w :: b) ts (if s.ts = v.ts then w else s) := by
  have hv : v ∈ a ++ v :: b := by simp
  by_cases e : s.ts = v.ts
  · rw [if_pos e]
    refine ⟨by simp, by have := h.le; omega, fun x hx hxt => ?_⟩
    rcases (mem_mid hm).1 hx with ⟨g, _⟩ | rfl
    · have := h.top x g hxt; omega
    · exact Int.le_refl _
  · rw [if_neg e]
    refine ⟨(mem_mid hm).2 (Or.inl ⟨h.mem, e⟩), h.le, fun x hx hxt => ?_⟩
    rcases (mem_mid hm).1 hx with ⟨g, _⟩ | rfl
    · exact h.top x g hxt
    · rw [ht]; exact h.top v hv (by omega)
/-- a version more: who is seen, if it is seen by nobody of this one -/
theorem Seen.put (h : Seen (a ++ v :: b) ts s) (hw : ts < w.ts ∨ w.ts ≤ s.ts) : Seen (a ++ v :: w :: b) ts s := by
  refine ⟨mem_put.2 (Or.inl h.mem), h.le, fun x hx hxt => ?_⟩
  rcases mem_put.1 hx with g | rfl
  · exact h.top x g hxt
  · omega

/-! ### a chain from Fresh -/

structure J (c : Ch) : Prop where
  may : May c
  zero : ∃ v r, c = v :: r ∧ v.ts = 0

theorem J.fresh : J fresh :=
  ⟨⟨fun v hv => by simp [Cn.fresh] at hv; subst hv; exact ⟨Int.le_refl _, Int.le_refl _⟩, by simp [Cn.fresh], _, _, rfl, rfl⟩, _, _, rfl, rfl⟩
theorem head_mid (ht : w.ts = v.ts) (h : ∃ f r, a ++ v :: b = f :: r ∧ f.ts = 0) : ∃ f r, a ++ w :: b = f :: r ∧ f.ts = 0 := by
  obtain ⟨f, r, e, hf⟩ := h
  cases a with
  | nil =>
    simp only [List.nil_append, List.cons.injEq] at e
    obtain ⟨rfl, rfl⟩ := e
    exact ⟨w, b, rfl, ht.trans hf⟩
  | cons x a =>
    simp only [List.cons_append, List.cons.injEq] at e
    obtain ⟨rfl, rfl⟩ := e
    exact ⟨x, a ++ w :: b, rfl, hf⟩
theorem head_put (h : ∃ f r, a ++ v :: b = f :: r ∧ f.ts = 0) : ∃ f r, a ++ v :: w :: b = f :: r ∧ f.ts = 0 := by
  obtain ⟨f, r, e, hf⟩ := h
  cases a with
  | nil =>
    simp only [List.nil_append, List.cons.injEq] at e
    obtain ⟨rfl, rfl⟩ := e
    exact ⟨v, w :: b, rfl, hf⟩
  | cons x a =>
    simp only [List.cons_append, List.cons.injEq] at e
    obtain ⟨rfl, rfl⟩ := e
    exact ⟨x, a ++ v :: w :: b, rfl, hf⟩
theorem J.read (h : J c) (ts : Int) : J (readC c ts) := by
  refine ⟨may_read h.may ts, ?_⟩
  rcases h.may.cases ts with hl | ⟨a, v, b, hs⟩
  · rw [readC_none (at_low hl)]; exact h.zero
  · rw [hs.readC h.may]
    exact head_mid (v := v) rfl (by rw [← hs.eq]; exact h.zero)
theorem J.write (h : J c) (ts : Int) (val : ByteArray) : J (writeC c ts val) := by
  refine ⟨may_write h.may ts val, ?_⟩
  rcases h.may.cases ts with hl | ⟨a, v, b, hs⟩
  · rw [writeC_none (at_low hl)]; exact h.zero
  · cases hlt : lateV v ts with
    | true => rw [(hs.late h.may hlt).1]; exact h.zero
    | false =>
      by_cases ho : v.ts = ts
      · rw [(hs.own h.may hlt ho).1]
        exact head_mid (v := v) rfl (by rw [← hs.eq]; exact h.zero)
      · rw [(hs.new h.may hlt ho).1]
        exact head_put (by rw [← hs.eq]; exact h.zero)
theorem J.commit (h : J c) (ts : Int) : J (commitC c ts) := by
  refine ⟨may_commit h.may ts, ?_⟩
  unfold commitC
  rw [if_pos ((mayB_iff c).2 h.may)]
  obtain ⟨v, r, rfl, hv⟩ := h.zero
  exact ⟨doneV ts v, r.map (doneV ts), rfl, (doneV_ts ts v).1.trans hv⟩
theorem J.abort (h : J c) (ts : Int) : J (abortC c ts) := by
  refine ⟨may_abort h.may ts, ?_⟩
  unfold abortC
  rw [if_pos ((mayB_iff c).2 h.may)]
  obtain ⟨v, r, rfl, hv⟩ := h.zero
  obtain ⟨f, r', e, hf⟩ := h.may.first
  cases e
  exact ⟨v, r.filter (fun v => !goneB ts v), by rw [List.filter_cons, if_pos (by simp [goneB, hf])], hv⟩

/-- a chain behind a deed -/
def deed (c : Ch) (kind ts : Int) (val : ByteArray) : Ch := if kind = 1 then readC c ts else if kind = 2 then writeC c ts val else if kind = 3 then commitC c ts else if kind = 4 then abortC c ts else c
theorem J.deed (h : J c) (kind ts : Int) (val : ByteArray) : J (deed c kind ts val) := by
  unfold Cn.deed
  split
  · exact h.read ts
  · split
    · exact h.write ts val
    · split
      · exact h.commit ts
      · split
        · exact h.abort ts
        · exact h
theorem J.first (h : J c) : ∃ v r, c = v :: r ∧ v.ts = 0 ∧ v.done = true := by
  obtain ⟨v, r, rfl, hv⟩ := h.zero
  obtain ⟨f, r', e, hf⟩ := h.may.first
  cases e
  exact ⟨v, r, rfl, hv, hf⟩
theorem J.sp (h : J c) (ht : 0 ≤ ts) : ∃ a v b, Sp c ts a v b := by
  rcases h.may.cases ts with hl | g
  · obtain ⟨v, r, rfl, hv⟩ := h.zero
    have := hl v (by simp)
    omega
  · exact g
theorem J.seen (h : J c) (ht : 0 ≤ ts) : ∃ s, Seen c ts s := by
  obtain ⟨a, v, b, hs⟩ := h.sp ht
  exact ⟨v, hs.seen h.may⟩

/-! ### P10.4 -/

/-- who reads at ts reads what it read: of v0 -/
structure Kp (c : Ch) (ts : Int) (v0 : Vr) : Prop where
  may : May c
  seen : ∃ s, Seen c ts s ∧ s.ts = v0.ts ∧ s.val = v0.val ∧ ts ≤ s.rd ∧ (v0.done = true → s.done = true)

theorem Kp.start (h : May c) (hs : Seen c ts s) : Kp (readC c ts) ts (touch s ts) := by
  refine ⟨may_read h ts, ?_⟩
  obtain ⟨a, b, hp⟩ := hs.sp h
  rw [hp.readC h]
  have hm := h
  rw [hp.eq] at hm hs
  have := Seen.mid (w := touch s ts) hm rfl hs
  rw [if_pos rfl] at this
  exact ⟨_, this, rfl, rfl, by show ts ≤ max s.rd ts; omega, fun h => h⟩
theorem Kp.told (h : Kp c ts v) : (readV c ts).ts = v.ts ∧ (readV c ts).val = v.val := by
  obtain ⟨s, hs, h1, h2, _, _⟩ := h.seen
  rw [hs.readV h.may]
  exact ⟨h1, h2⟩
theorem Kp.read (h : Kp c ts v) (t : Int) : Kp (readC c t) ts v := by
  refine ⟨may_read h.may t, ?_⟩
  obtain ⟨s, hs, h1, h2, h3, h4⟩ := h.seen
  rcases h.may.cases t with hl | ⟨a, x, b, hp⟩
  · rw [readC_none (at_low hl)]; exact ⟨s, hs, h1, h2, h3, h4⟩
  · rw [hp.readC h.may]
    have hm := h.may
    rw [hp.eq] at hm hs
    have hn := Seen.mid (w := touch x t) hm rfl hs
    by_cases e : s.ts = x.ts
    · rw [if_pos e] at hn
      have ex : s = x := uniq hm hs.mem (by simp) e
      subst ex
      exact ⟨_, hn, h1, h2, by show ts ≤ max s.rd t; omega, h4⟩
    · rw [if_neg e] at hn
      exact ⟨s, hn, h1, h2, h3, h4⟩
theorem Kp.write (h : Kp c ts v) (t : Int) (val : ByteArray) (h5 : t ≠ ts) (h6 : t ≠ v.ts) : Kp (writeC c t val) ts v := by
  refine ⟨may_write h.may t val, ?_⟩
  obtain ⟨s, hs, h1, h2, h3, h4⟩ := h.seen
  rcases h.may.cases t with hl | ⟨a, x, b, hp⟩
  · rw [writeC_none (at_low hl)]; exact ⟨s, hs, h1, h2, h3, h4⟩
  · have hx := hp.seen h.may
    cases hlt : lateV x t with
    | true => rw [(hp.late h.may hlt).1]; exact ⟨s, hs, h1, h2, h3, h4⟩
    | false =>
      have hn := Sp.notlate hlt
      have hm := h.may
      by_cases ho : x.ts = t
      · rw [(hp.own h.may hlt ho).1]
        rw [hp.eq] at hm hs
        have hn := Seen.mid (w := ⟨x.ts, x.rd, val, x.done⟩) hm rfl hs
        rw [if_neg (by omega)] at hn
        exact ⟨s, hn, h1, h2, h3, h4⟩
      · rw [(hp.new h.may hlt ho).1]
        have hb : ts < t ∨ t ≤ s.ts := by
          by_cases g : t < ts
          · right
            by_cases g2 : s.ts ≤ t
            · have a1 := hx.top s hs.mem g2
              have a2 := hs.top x hx.mem (by have := hx.le; omega)
              have e := uniq hm hx.mem hs.mem (by omega)
              subst e
              omega
            · omega
          · left; omega
        rw [hp.eq] at hs
        exact ⟨s, hs.put hb, h1, h2, h3, h4⟩
theorem Kp.commit (h : Kp c ts v) (t : Int) : Kp (commitC c t) ts v := by
  refine ⟨may_commit h.may t, ?_⟩
  obtain ⟨s, hs, h1, h2, h3, h4⟩ := h.seen
  unfold commitC
  rw [if_pos ((mayB_iff c).2 h.may)]
  obtain ⟨d1, d2, d3, d4⟩ := doneV_ts t s
  refine ⟨doneV t s, ⟨List.mem_map.2 ⟨s, hs.mem, rfl⟩, by rw [d1]; exact hs.le, fun x hx hxt => ?_⟩, by rw [d1]; exact h1, by rw [d3]; exact h2, by rw [d2]; exact h3, fun hd => d4 (h4 hd)⟩
  obtain ⟨y, hy, rfl⟩ := List.mem_map.1 hx
  rw [(doneV_ts t y).1] at hxt ⊢
  rw [d1]
  exact hs.top y hy hxt
theorem Kp.abort (h : Kp c ts v) (t : Int) (h5 : t ≠ v.ts ∨ v.done = true) : Kp (abortC c t) ts v := by
  refine ⟨may_abort h.may t, ?_⟩
  obtain ⟨s, hs, h1, h2, h3, h4⟩ := h.seen
  unfold abortC
  rw [if_pos ((mayB_iff c).2 h.may)]
  refine ⟨s, ⟨List.mem_filter.2 ⟨hs.mem, ?_⟩, hs.le, fun x hx hxt => hs.top x (List.mem_filter.1 hx).1 hxt⟩, h1, h2, h3, h4⟩
  unfold goneB
  rcases h5 with g | g
  · have : s.ts ≠ t := by omega
    simp [this]
  · simp [h4 g]
theorem Kp.deed (h : Kp c ts v) (kind t : Int) (val : ByteArray) (h1 : ¬ (t = ts ∧ kind = 2)) (h2 : ¬ (t = v.ts ∧ ((kind = 4 ∧ v.done = false) ∨ kind = 2))) : Kp (deed c kind t val) ts v := by
  unfold Cn.deed
  split
  · exact h.read t
  · split
    · rename_i hk
      exact h.write t val (fun e => h1 ⟨e, hk⟩) (fun e => h2 ⟨e, Or.inr hk⟩)
    · split
      · exact h.commit t
      · split
        · rename_i hk
          refine h.abort t ?_
          by_cases e : t = v.ts
          · right
            cases hd : v.done with
            | true => rfl
            | false => exact absurd ⟨e, Or.inl ⟨hk, hd⟩⟩ h2
          · exact Or.inl e
        · exact h

/-! ### ChainLate -/

theorem wrote (hm : May c) (hp : Sp c t a v b) (hlt : lateV v t = false) : ∃ w, w.ts = t ∧ w.val = val ∧ w.done = false ∧ May (writeC c t val) ∧ ∀ x, x ∈ writeC c t val ↔ (x ∈ c ∧ x.ts ≠ t) ∨ x = w := by
  have hm2 := may_write hm t val
  have hn := Sp.notlate hlt
  by_cases ho : v.ts = t
  · refine ⟨⟨v.ts, v.rd, val, v.done⟩, ho, rfl, hn.2.elim id (fun h => absurd ho h), hm2, fun x => ?_⟩
    rw [(hp.own hm hlt ho).1, hp.eq, ← ho]
    rw [hp.eq] at hm
    exact mem_mid hm
  · refine ⟨⟨t, t, val, false⟩, rfl, rfl, rfl, hm2, fun x => ?_⟩
    rw [(hp.new hm hlt ho).1, hp.eq, mem_put]
    have hle := hp.le
    have hno : ∀ x ∈ a ++ v :: b, x.ts ≠ t := fun x hx e => by
      have hs := hp.seen hm
      have := hs.top x (hp.eq ▸ hx) (by omega)
      have h2 := hs.le
      omega
    exact ⟨fun h => h.imp (fun g => ⟨g, hno x g⟩) id, fun h => h.imp (fun g => g.1) id⟩
theorem late_own (hm : May c) (hp : Sp c t a v b) (hlt : lateV v t = false) : (readV (writeC c t val) t).ts = t ∧ (readV (writeC c t val) t).val = val ∧ (readV (writeC c t val) t).done = false := by
  obtain ⟨w, h1, h2, h3, hm2, hx⟩ := wrote (val := val) hm hp hlt
  have hs : Seen (writeC c t val) t w := ⟨(hx w).2 (Or.inr rfl), by omega, fun x _ h => by omega⟩
  rw [hs.readV hm2]
  exact ⟨h1, h2, h3⟩
theorem late_behind (hm : May c) (hp : Sp c t a v b) (hlt : lateV v t = false) (hn : ∀ x ∈ c, x.ts ≠ t + 1) : (readV (writeC c t val) (t + 1)).val = val := by
  obtain ⟨w, h1, h2, h3, hm2, hx⟩ := wrote (val := val) hm hp hlt
  have hs : Seen (writeC c t val) (t + 1) w := ⟨(hx w).2 (Or.inr rfl), by omega, fun x hm h => by
    rcases (hx x).1 hm with ⟨g, g2⟩ | rfl
    · have := hn x g; omega
    · exact Int.le_refl _⟩
  rw [hs.readV hm2]
  exact h2
theorem late_ahead (hm : May c) (hp : Sp c t a v b) (hlt : lateV v t = false) (hs : Seen c (t - 1) s) : readV (writeC c t val) (t - 1) = readV c (t - 1) := by
  obtain ⟨w, h1, h2, h3, hm2, hx⟩ := wrote (val := val) hm hp hlt
  have hle := hs.le
  have hs2 : Seen (writeC c t val) (t - 1) s := ⟨(hx s).2 (Or.inl ⟨hs.mem, by omega⟩), hle, fun x hm h => by
    rcases (hx x).1 hm with ⟨g, _⟩ | rfl
    · exact hs.top x g h
    · omega⟩
  rw [hs2.readV hm2, hs.readV hm]
/-- none of t + 1, if the next one isn't -/
theorem next_no (hm : May c) (hp : Sp c t a v b) (hn : ∀ (h : a.length + 1 < c.length), c[a.length + 1].ts ≠ t + 1) : ∀ x ∈ c, x.ts ≠ t + 1 := by
  intro x hx e
  have hc := hp.eq
  subst hc
  cases b with
  | nil =>
    have := (hp.seen hm).top
    simp only [List.mem_append, List.mem_cons, List.not_mem_nil, or_false] at hx
    rcases hx with hx | rfl
    · have := hm.lt_v.1 x hx; have := hp.le; omega
    · have := hp.le; omega
  | cons y b =>
    have h1 := hn (by simp)
    have e1 : (a ++ v :: y :: b)[a.length + 1]'(by simp) = y := by
      rw [List.getElem_append_right (by omega)]
      simp
    rw [e1] at h1
    have hy := hp.gt y (by simp)
    simp only [List.mem_append, List.mem_cons] at hx
    rcases hx with hx | rfl | rfl | hx
    · have := hm.lt_v.1 x hx; have := hp.le; omega
    · have := hp.le; omega
    · omega
    · have h2 := (List.pairwise_append.1 hm.up).2.1
      have h3 := (List.pairwise_cons.1 (List.pairwise_cons.1 h2).2).1 x hx
      omega

/-! ### ChainUndone -/

theorem none_of (hm : May c) (hp : Sp c t a v b) (ho : v.ts ≠ t) : ∀ x ∈ c, x.ts ≠ t := fun x hx e => by
  have hs := hp.seen hm
  have := hs.top x hx (by omega)
  have := hs.le
  omega
theorem abort_none (hn : ∀ x ∈ c, x.ts ≠ t) : abortC c t = c := by
  unfold abortC
  split
  · refine List.filter_eq_self.2 (fun x hx => ?_)
    unfold goneB
    simp [hn x hx]
  · rfl
theorem undone (hm : May c) (hp : Sp c t a v b) (ho : v.ts ≠ t) : abortC (writeC c t val) t = c := by
  have hno := none_of hm hp ho
  cases hlt : lateV v t with
  | true => rw [(hp.late hm hlt).1]; exact abort_none hno
  | false =>
    have hm2 := may_write hm t val
    rw [(hp.new hm hlt ho).1] at hm2 ⊢
    unfold abortC
    rw [if_pos ((mayB_iff _).2 hm2), List.filter_append, List.filter_cons, List.filter_cons]
    rw [hp.eq] at hno
    have h1 : ∀ x ∈ a ++ v :: b, (!goneB t x) = true := fun x hx => by unfold goneB; simp [hno x hx]
    rw [if_pos (h1 v (by simp)), if_neg (by simp [goneB]), List.filter_eq_self.2 (fun x hx => h1 x (by simp [hx])), List.filter_eq_self.2 (fun x hx => h1 x (by simp [hx]))]
    exact hp.eq.symm
theorem stays (hm : May c) : abortC (commitC c t) t = commitC c t := by
  unfold commitC
  rw [if_pos ((mayB_iff c).2 hm)]
  unfold abortC
  rw [if_pos ((mayB_iff _).2 (hm.commit t))]
  refine List.filter_eq_self.2 (fun x hx => ?_)
  obtain ⟨y, hy, rfl⟩ := List.mem_map.1 hx
  unfold goneB doneV
  by_cases e : y.ts = t
  · rw [if_pos e]; simp
  · rw [if_neg e]; simp [e]
theorem commit_len (c : Ch) (t : Int) : (commitC c t).length = c.length := by
  unfold commitC
  split
  · simp
  · rfl
theorem wrote_len (hm : May c) (hp : Sp c t a v b) (ho : v.ts ≠ t) (hlt : lateV v t = false) : (writeC c t val).length = c.length + 1 := by
  rw [(hp.new hm hlt ho).1, hp.eq]
  simp
  omega

/-! ### ChainSees -/

theorem read_len (c : Ch) (ts : Int) : (readC c ts).length = c.length := by
  unfold readC
  split
  · rfl
  · simp
theorem sees (hm : May c) (hp : Sp c ts a v b) (i : Nat) (hi : i < c.length) (hi' : i < (readC c ts).length) :
    (c[i].ts ≤ ts → c[i].ts ≤ v.ts) ∧ (c[i].ts = v.ts → (readC c ts)[i] = touch v ts ∧ (touch v ts).rd = max c[i].rd ts) ∧ (c[i].ts ≠ v.ts → (readC c ts)[i] = c[i]) := by
  have hs := hp.seen hm
  have e1 : (readC c ts)[i] = (c.set a.length (touch v ts))[i]'(by simp; exact hi) := by
    have : readC c ts = c.set a.length (touch v ts) := by
      rw [hp.readC hm, hp.eq, set_mid]
    simp only [this]
  have eg : c[a.length]'hp.lt = v := hp.get hp.lt
  refine ⟨fun h => hs.top _ (List.getElem_mem hi) h, fun h => ?_, fun h => ?_⟩
  · have ev : c[i] = v := uniq hm (List.getElem_mem hi) hs.mem h
    have ei : i = a.length := by
      have hpw := List.pairwise_iff_getElem.1 hm.up
      rcases Nat.lt_trichotomy i a.length with g | g | g
      · have := hpw i a.length hi hp.lt g; rw [eg, ev] at this; omega
      · exact g
      · have := hpw a.length i hp.lt hi g; rw [eg, ev] at this; omega
    subst ei
    rw [e1, List.getElem_set_self, ev]
    exact ⟨rfl, rfl⟩
  · have ei : a.length ≠ i := fun e => by subst e; exact h (by rw [eg])
    rw [e1, List.getElem_set_ne ei]
end

end Go.Proofs.Ytmlocdfjjgbnjaa.Cn
