/-
  The plain mathematics of layer chain: versions, chains that may be, who is seen; read, written, committed, aborted. No program stands here.
-/
import Derived.Test.YtpppjipelcfnkaaRows
namespace Go.Proofs.Ytpppjipelcfnkaa.Cn

/-- a version -/
structure Vr where
  ts : Int
  rd : Int
  val : ByteArray
  done : Bool

abbrev Ch := List Vr

def zero : Vr := ⟨0, 0, ByteArray.empty, false⟩
def fresh : Ch := [⟨0, 0, ByteArray.empty, true⟩]

/-- a chain that may be -/
structure May (c : Ch) : Prop where
  ok : ∀ v ∈ c, 0 ≤ v.ts ∧ v.ts ≤ v.rd
  up : c.Pairwise (fun a b => a.ts < b.ts)
  first : ∃ v r, c = v :: r ∧ v.done = true

def upB : Int → List Vr → Bool
  | _, [] => true
  | p, v :: r => decide (p < v.ts) && (decide (v.ts ≤ v.rd) && upB v.ts r)
def mayB : List Vr → Bool
  | [] => false
  | v :: r => v.done && (decide (0 ≤ v.ts) && (decide (v.ts ≤ v.rd) && upB v.ts r))

theorem upB_iff : ∀ (l : List Vr) (p : Int), upB p l = true ↔ (∀ v ∈ l, p < v.ts ∧ v.ts ≤ v.rd) ∧ l.Pairwise (fun a b => a.ts < b.ts) := by
  intro l
  induction l with
  | nil => intro p; simp [upB]
  | cons v r ih =>
    intro p
    simp only [upB, Bool.and_eq_true, decide_eq_true_eq, List.mem_cons, forall_eq_or_imp, List.pairwise_cons, ih v.ts]
    constructor
    · rintro ⟨h1, h2, h3, h4⟩
      exact ⟨⟨⟨h1, h2⟩, fun x hx => ⟨by have := (h3 x hx).1; omega, (h3 x hx).2⟩⟩, fun x hx => (h3 x hx).1, h4⟩
    · rintro ⟨⟨⟨h1, h2⟩, h3⟩, h4, h5⟩
      exact ⟨h1, h2, fun x hx => ⟨h4 x hx, (h3 x hx).2⟩, h5⟩
theorem mayB_iff (c : Ch) : mayB c = true ↔ May c := by
  cases c with
  | nil =>
    constructor
    · intro h; cases h
    · rintro ⟨_, _, v, r, h, _⟩; cases h
  | cons v r =>
    simp only [mayB, Bool.and_eq_true, decide_eq_true_eq, upB_iff]
    constructor
    · rintro ⟨h1, h2, h3, h4, h5⟩
      refine ⟨fun x hx => ?_, List.pairwise_cons.2 ⟨fun x hx => (h4 x hx).1, h5⟩, v, r, rfl, h1⟩
      rcases List.mem_cons.1 hx with rfl | hx
      · exact ⟨h2, h3⟩
      · exact ⟨by have := (h4 x hx).1; omega, (h4 x hx).2⟩
    · rintro ⟨h1, h2, v', r', e, h3⟩
      cases e
      have h2 := List.pairwise_cons.1 h2
      exact ⟨h3, (h1 _ (by simp)).1, (h1 _ (by simp)).2, fun x hx => ⟨h2.1 x hx, (h1 x (by simp [hx])).2⟩, h2.2⟩
theorem mayB_false {c : Ch} (h : ¬ May c) : mayB c = false := by
  cases e : mayB c with
  | false => rfl
  | true => exact absurd ((mayB_iff c).1 e) h

/-! ### who is seen -/

def lo (c : Ch) (ts : Int) : Nat := (c.takeWhile (fun v => decide (v.ts ≤ ts))).length
/-- the place of the version that is seen -/
def at? (c : Ch) (ts : Int) : Option Nat := if mayB c = true ∧ 0 < lo c ts then some (lo c ts - 1) else none
def look (c : Ch) (ts : Int) : Int := match at? c ts with
  | none => -1
  | some k => (k : Int)

theorem lo_of {a b : Ch} {ts : Int} (ha : ∀ x ∈ a, x.ts ≤ ts) (hb : ∀ x ∈ b, ts < x.ts) : lo (a ++ b) ts = a.length := by
  unfold lo
  induction a with
  | nil =>
    cases b with
    | nil => rfl
    | cons x b =>
      have := hb x (by simp)
      rw [List.nil_append, List.takeWhile_cons, if_neg (by simp; omega)]
  | cons x a ih =>
    rw [List.cons_append, List.takeWhile_cons, if_pos (by simpa using ha x (by simp)), List.length_cons, List.length_cons, ih (fun y hy => ha y (by simp [hy]))]

/-- whatever chain rises: those that aren't above, and those that are -/
theorem parts {c : Ch} (h : c.Pairwise (fun a b => a.ts < b.ts)) (ts : Int) : ∃ a b, c = a ++ b ∧ (∀ x ∈ a, x.ts ≤ ts) ∧ ∀ x ∈ b, ts < x.ts := by
  induction c with
  | nil => exact ⟨[], [], rfl, by simp, by simp⟩
  | cons v r ih =>
    have h := List.pairwise_cons.1 h
    obtain ⟨a, b, rfl, ha, hb⟩ := ih h.2
    by_cases hv : v.ts ≤ ts
    · exact ⟨v :: a, b, rfl, fun x hx => (List.mem_cons.1 hx).elim (fun e => e ▸ hv) (ha x), hb⟩
    · refine ⟨[], v :: (a ++ b), rfl, by simp, fun x hx => ?_⟩
      rcases List.mem_cons.1 hx with rfl | hx
      · omega
      · have := h.1 x hx; omega

/-- c is a, then v, which is seen, then b -/
structure Sp (c : Ch) (ts : Int) (a : Ch) (v : Vr) (b : Ch) : Prop where
  eq : c = a ++ v :: b
  le : v.ts ≤ ts
  gt : ∀ x ∈ b, ts < x.ts

section
variable {c a b : Ch} {v : Vr} {ts : Int}

theorem May.lt_v (h : May (a ++ v :: b)) : (∀ x ∈ a, x.ts < v.ts) ∧ ∀ x ∈ b, v.ts < x.ts := by
  have h := List.pairwise_append.1 h.up
  exact ⟨fun x hx => h.2.2 x hx v (by simp), (List.pairwise_cons.1 h.2.1).1⟩
theorem Sp.at_ (h : Sp c ts a v b) (hm : May c) : at? c ts = some a.length := by
  obtain ⟨rfl, hv, hb⟩ := h
  have ha := hm.lt_v.1
  have e : lo (a ++ v :: b) ts = a.length + 1 := by
    rw [show a ++ v :: b = (a ++ [v]) ++ b by simp, lo_of (fun x hx => ?_) hb]
    · simp
    · rcases List.mem_append.1 hx with g | g
      · have := ha x g; omega
      · rw [List.mem_singleton] at g; subst g; exact hv
  unfold at?
  rw [if_pos ⟨(mayB_iff _).2 hm, by omega⟩, e]
  rfl
theorem at_none (hm : ¬ May c) : at? c ts = none := by
  unfold at?
  rw [if_neg (fun h => hm ((mayB_iff c).1 h.1))]
theorem at_low (hl : ∀ x ∈ c, ts < x.ts) : at? c ts = none := by
  unfold at?
  rw [if_neg (fun h => by have := lo_of (a := []) (b := c) (ts := ts) (by simp) hl; simp at this; omega)]
/-- each chain that may be is one of the two -/
theorem May.cases (hm : May c) (ts : Int) : (∀ x ∈ c, ts < x.ts) ∨ ∃ a v b, Sp c ts a v b := by
  obtain ⟨a, b, rfl, ha, hb⟩ := parts hm.up ts
  rcases List.eq_nil_or_concat a with rfl | ⟨a', v, e⟩
  · exact Or.inl hb
  · rw [List.concat_eq_append] at e
    subst e
    exact Or.inr ⟨a', v, b, by simp, ha v (by simp), hb⟩
theorem Sp.lt (h : Sp c ts a v b) : a.length < c.length := by rw [h.eq]; simp
theorem Sp.get (h : Sp c ts a v b) (hl : a.length < c.length) : c[a.length] = v := by
  obtain ⟨rfl, _, _⟩ := h
  simp
end

/-! ### read, written, committed, aborted -/

def touch (v : Vr) (ts : Int) : Vr := ⟨v.ts, max v.rd ts, v.val, v.done⟩
def getV (c : Ch) (k : Nat) : Vr := c.getD k zero

def readC (c : Ch) (ts : Int) : Ch := match at? c ts with
  | none => c
  | some k => c.set k (touch (getV c k) ts)
def readV (c : Ch) (ts : Int) : Vr := match at? c ts with
  | none => zero
  | some k => touch (getV c k) ts
def lateV (v : Vr) (ts : Int) : Bool := decide (ts < v.rd) || (v.done && decide (v.ts = ts))
def writeC (c : Ch) (ts : Int) (val : ByteArray) : Ch := match at? c ts with
  | none => c
  | some k => if lateV (getV c k) ts = true then c else if (getV c k).ts = ts then c.set k ⟨(getV c k).ts, (getV c k).rd, val, (getV c k).done⟩ else c.take (k + 1) ++ ⟨ts, ts, val, false⟩ :: c.drop (k + 1)
def writeE (c : Ch) (ts : Int) : Int := match at? c ts with
  | none => 8
  | some k => if lateV (getV c k) ts = true then 8 else 0
def doneV (ts : Int) (v : Vr) : Vr := if v.ts = ts then ⟨v.ts, v.rd, v.val, true⟩ else v
def commitC (c : Ch) (ts : Int) : Ch := if mayB c = true then c.map (doneV ts) else c
def goneB (ts : Int) (v : Vr) : Bool := decide (v.ts = ts) && !v.done
def abortC (c : Ch) (ts : Int) : Ch := if mayB c = true then c.filter (fun v => !goneB ts v) else c

section
variable {c a b : Ch} {v : Vr} {ts : Int} {val : ByteArray}

theorem Sp.getV (h : Sp c ts a v b) : getV c a.length = v := by
  unfold Cn.getV
  rw [h.eq]
  simp [List.getD]
theorem readC_none (h : at? c ts = none) : readC c ts = c := by unfold readC; rw [h]
theorem readV_none (h : at? c ts = none) : readV c ts = zero := by unfold readV; rw [h]
theorem writeC_none (h : at? c ts = none) : writeC c ts val = c := by unfold writeC; rw [h]
theorem writeE_none (h : at? c ts = none) : writeE c ts = 8 := by unfold writeE; rw [h]
theorem set_mid (a b : Ch) (v w : Vr) : (a ++ v :: b).set a.length w = a ++ w :: b := by
  rw [List.set_append, if_neg (by omega), Nat.sub_self, List.set_cons_zero]
theorem Sp.readC (h : Sp c ts a v b) (hm : May c) : readC c ts = a ++ touch v ts :: b := by
  unfold Cn.readC
  rw [h.at_ hm]
  show c.set a.length (touch (Cn.getV c a.length) ts) = _
  rw [h.getV, h.eq, set_mid]
theorem Sp.readV (h : Sp c ts a v b) (hm : May c) : readV c ts = touch v ts := by
  unfold Cn.readV
  rw [h.at_ hm]
  show touch (Cn.getV c a.length) ts = _
  rw [h.getV]
theorem Sp.late (h : Sp c ts a v b) (hm : May c) (hl : lateV v ts = true) : writeC c ts val = c ∧ writeE c ts = 8 := by
  unfold writeC writeE
  rw [h.at_ hm]
  dsimp only
  rw [h.getV, if_pos hl, if_pos hl]
  exact ⟨rfl, rfl⟩
theorem Sp.own (h : Sp c ts a v b) (hm : May c) (hl : lateV v ts = false) (ho : v.ts = ts) : writeC c ts val = a ++ ⟨v.ts, v.rd, val, v.done⟩ :: b ∧ writeE c ts = 0 := by
  unfold writeC writeE
  rw [h.at_ hm]
  dsimp only
  rw [h.getV, hl, if_neg Bool.false_ne_true, if_neg Bool.false_ne_true, if_pos ho]
  exact ⟨by rw [h.eq, set_mid], rfl⟩
theorem Sp.new (h : Sp c ts a v b) (hm : May c) (hl : lateV v ts = false) (ho : v.ts ≠ ts) : writeC c ts val = a ++ v :: ⟨ts, ts, val, false⟩ :: b ∧ writeE c ts = 0 := by
  unfold writeC writeE
  rw [h.at_ hm]
  dsimp only
  rw [h.getV, hl, if_neg Bool.false_ne_true, if_neg Bool.false_ne_true, if_neg ho]
  refine ⟨?_, rfl⟩
  have e : c = (a ++ [v]) ++ b := by rw [h.eq]; simp
  have hl : (a ++ [v]).length = a.length + 1 := by simp
  rw [e, ← hl, List.take_left, List.drop_left]
  simp
theorem Sp.notlate (hl : lateV v ts = false) : v.rd ≤ ts ∧ (v.done = false ∨ v.ts ≠ ts) := by
  unfold lateV at hl
  simp at hl
  refine ⟨hl.1, ?_⟩
  cases hd : v.done with
  | false => exact Or.inl rfl
  | true => exact Or.inr (hl.2 hd)

/-! ### what may be stays so -/

theorem May.mid {w : Vr} (h : May (a ++ v :: b)) (ht : w.ts = v.ts) (hr : w.ts ≤ w.rd) (hd : v.done = true → w.done = true) : May (a ++ w :: b) := by
  obtain ⟨h1, h2, h3⟩ := h
  have hv := h1 v (by simp)
  refine ⟨fun x hx => ?_, ?_, ?_⟩
  · simp only [List.mem_append, List.mem_cons] at hx
    rcases hx with hx | rfl | hx
    · exact h1 x (by simp [hx])
    · exact ⟨by omega, hr⟩
    · exact h1 x (by simp [hx])
  · have h2 := List.pairwise_append.1 h2
    have h4 := List.pairwise_cons.1 h2.2.1
    refine List.pairwise_append.2 ⟨h2.1, List.pairwise_cons.2 ⟨fun x hx => by rw [ht]; exact h4.1 x hx, h4.2⟩, fun x hx y hy => ?_⟩
    rcases List.mem_cons.1 hy with rfl | hy
    · rw [ht]; exact h2.2.2 x hx v (by simp)
    · exact h2.2.2 x hx y (by simp [hy])
  · obtain ⟨f, r, e, hf⟩ := h3
    cases a with
    | nil =>
      simp only [List.nil_append, List.cons.injEq] at e
      obtain ⟨rfl, rfl⟩ := e
      exact ⟨w, b, rfl, hd hf⟩
    | cons x a =>
      simp only [List.cons_append, List.cons.injEq] at e
      obtain ⟨rfl, rfl⟩ := e
      exact ⟨x, a ++ w :: b, rfl, hf⟩
theorem May.put (h : May (a ++ v :: b)) {w : Vr} (h1 : v.ts < w.ts) (h2 : ∀ x ∈ b, w.ts < x.ts) (hr : w.ts ≤ w.rd) : May (a ++ v :: w :: b) := by
  have hv := h.ok v (by simp)
  have hl := h.lt_v
  obtain ⟨g1, g2, f, r, e, hf⟩ := h
  have g2 := List.pairwise_append.1 g2
  have g3 := List.pairwise_cons.1 g2.2.1
  refine ⟨fun x hx => ?_, ?_, ?_⟩
  · simp only [List.mem_append, List.mem_cons] at hx
    rcases hx with hx | rfl | rfl | hx
    · exact g1 x (by simp [hx])
    · exact hv
    · exact ⟨by omega, hr⟩
    · exact g1 x (by simp [hx])
  · refine List.pairwise_append.2 ⟨g2.1, List.pairwise_cons.2 ⟨fun x hx => ?_, List.pairwise_cons.2 ⟨h2, g3.2⟩⟩, fun x hx y hy => ?_⟩
    · rcases List.mem_cons.1 hx with rfl | hx
      · exact h1
      · exact g3.1 x hx
    · have := hl.1 x hx
      simp only [List.mem_cons] at hy
      rcases hy with rfl | rfl | hy
      · exact this
      · omega
      · exact g2.2.2 x hx y (by simp [hy])
  · cases a with
    | nil =>
      simp only [List.nil_append, List.cons.injEq] at e
      obtain ⟨rfl, rfl⟩ := e
      exact ⟨v, w :: b, rfl, hf⟩
    | cons x a =>
      simp only [List.cons_append, List.cons.injEq] at e
      obtain ⟨rfl, rfl⟩ := e
      exact ⟨x, a ++ v :: w :: b, rfl, hf⟩
theorem doneV_ts (ts : Int) (v : Vr) : (doneV ts v).ts = v.ts ∧ (doneV ts v).rd = v.rd ∧ (doneV ts v).val = v.val ∧ (v.done = true → (doneV ts v).done = true) := by
  unfold doneV
  split
  · exact ⟨rfl, rfl, rfl, fun _ => rfl⟩
  · exact ⟨rfl, rfl, rfl, fun h => h⟩
theorem May.commit (h : May c) (ts : Int) : May (c.map (doneV ts)) := by
  obtain ⟨h1, h2, f, r, rfl, hf⟩ := h
  refine ⟨fun x hx => ?_, ?_, doneV ts f, r.map (doneV ts), rfl, (doneV_ts ts f).2.2.2 hf⟩
  · obtain ⟨y, hy, rfl⟩ := List.mem_map.1 hx
    rw [(doneV_ts ts y).1, (doneV_ts ts y).2.1]
    exact h1 y hy
  · rw [List.pairwise_map]
    exact h2.imp (fun {a b} h => by rw [(doneV_ts ts a).1, (doneV_ts ts b).1]; exact h)
theorem May.abort (h : May c) (ts : Int) : May (c.filter (fun v => !goneB ts v)) := by
  obtain ⟨h1, h2, f, r, rfl, hf⟩ := h
  refine ⟨fun x hx => h1 x (List.mem_filter.1 hx).1, h2.filter _, f, r.filter (fun v => !goneB ts v), ?_, hf⟩
  rw [List.filter_cons, if_pos (by simp [goneB, hf])]

/-- P10.5 -/
theorem may_read (h : May c) (ts : Int) : May (readC c ts) := by
  rcases h.cases ts with hl | ⟨a, v, b, hs⟩
  · rw [readC_none (at_low hl)]; exact h
  · rw [hs.readC h]
    have := h
    rw [hs.eq] at this
    exact this.mid rfl (by have := (this.ok v (by simp)).2; show v.ts ≤ max v.rd ts; omega) (fun h => h)
theorem may_write (h : May c) (ts : Int) (val : ByteArray) : May (writeC c ts val) := by
  rcases h.cases ts with hl | ⟨a, v, b, hs⟩
  · rw [writeC_none (at_low hl)]; exact h
  · have hm := h
    rw [hs.eq] at hm
    cases hlt : lateV v ts with
    | true => rw [(hs.late h hlt).1]; exact h
    | false =>
      by_cases ho : v.ts = ts
      · rw [(hs.own h hlt ho).1]
        exact hm.mid rfl (hm.ok v (by simp)).2 (fun h => h)
      · rw [(hs.new h hlt ho).1]
        exact hm.put (by have := hs.le; show v.ts < ts; omega) (fun x hx => hs.gt x hx) (Int.le_refl _)
theorem may_commit (h : May c) (ts : Int) : May (commitC c ts) := by
  unfold commitC
  rw [if_pos ((mayB_iff c).2 h)]
  exact h.commit ts
theorem may_abort (h : May c) (ts : Int) : May (abortC c ts) := by
  unfold abortC
  rw [if_pos ((mayB_iff c).2 h)]
  exact h.abort ts
end

end Go.Proofs.Ytpppjipelcfnkaa.Cn
