/-
  The plain mathematics of layer stamp: a clock; what is active stands as a rising list; Min never falls. No program stands here.
  Walks of the document's clock: May, Issue, Done, Raise, Min, Same.
-/
import Derived.Test.YtmlocdfjjgbnjaaRows
import Derived.Test.YtmlocdfjjgbnjaaJA
import Derived.Deep.RegionHeld3
import Derived.OwnWalk
import Derived.BigQuiet
namespace Go.Proofs.Ytmlocdfjjgbnjaa.T

/-- each above all ahead of it -/
abbrev Rises (l : List Int) : Prop := l.Pairwise (· < ·)

theorem Rises.ext {l m : List Int} (hl : Rises l) (hm : Rises m) (h : ∀ x, x ∈ l ↔ x ∈ m) : l = m := by
  induction l generalizing m with
  | nil =>
    cases m with
    | nil => rfl
    | cons y m => exact absurd ((h y).2 (by simp)) (by simp)
  | cons x l ih =>
    cases m with
    | nil => exact absurd ((h x).1 (by simp)) (by simp)
    | cons y m =>
      have hl1 := List.pairwise_cons.1 hl
      have hm1 := List.pairwise_cons.1 hm
      have hxy : x = y := by
        rcases List.mem_cons.1 ((h x).1 (by simp)) with e | e
        · exact e
        · rcases List.mem_cons.1 ((h y).2 (by simp)) with e' | e'
          · exact e'.symm
          · have := hm1.1 x e
            have := hl1.1 y e'
            omega
      subst hxy
      congr 1
      refine ih hl1.2 hm1.2 (fun z => ⟨fun hz => ?_, fun hz => ?_⟩)
      · rcases List.mem_cons.1 ((h z).1 (List.mem_cons_of_mem _ hz)) with e | e
        · subst e
          have := hl1.1 z hz
          omega
        · exact e
      · rcases List.mem_cons.1 ((h z).2 (List.mem_cons_of_mem _ hz)) with e | e
        · subst e
          have := hm1.1 z hz
          omega
        · exact e
theorem Rises.snoc {l : List Int} (h : Rises l) {x : Int} (hx : ∀ y ∈ l, y < x) : Rises (l ++ [x]) := by
  refine List.pairwise_append.2 ⟨h, by simp, fun a ha b hb => ?_⟩
  rw [List.mem_singleton] at hb
  subst hb
  exact hx a ha
theorem Rises.nodup {l : List Int} (h : Rises l) : l.Nodup := h.imp (fun h e => by omega)

def most : Int := 1099511627776

/-- a clock: the next timestamp, and those that are active -/
structure Ck where
  next : Int
  act : List Int

structure Ck.Ok (c : Ck) : Prop where
  lo : 1 ≤ c.next
  hi : c.next ≤ most + 1
  rise : Rises c.act
  mem : ∀ x ∈ c.act, 1 ≤ x ∧ x < c.next

def mayB (n : Int) : Bool := decide (1 ≤ n ∧ n ≤ most + 1)
def Ck.new (n : Int) : Ck := ⟨n, []⟩
def Ck.issue (c : Ck) : Ck := if most < c.next then c else ⟨c.next + 1, c.act ++ [c.next]⟩
def Ck.told (c : Ck) : Int := if most < c.next then 0 else c.next
def Ck.bad (c : Ck) : Int := if most < c.next then 10 else 0
def Ck.done (c : Ck) (ts : Int) : Ck := ⟨c.next, c.act.filter (fun x => x != ts)⟩
def Ck.is (c : Ck) (ts : Int) : Bool := decide (ts ∈ c.act)
def Ck.raise (c : Ck) (to : Int) : Ck := if c.next < to ∧ to ≤ most + 1 then ⟨to, c.act⟩ else c
def Ck.min (c : Ck) : Int := match c.act with
  | x :: _ => x
  | [] => c.next

theorem Ck.ok_new {n : Int} (h : mayB n = true) : (Ck.new n).Ok := by
  have h := of_decide_eq_true h
  exact ⟨h.1, h.2, List.Pairwise.nil, fun x hx => by cases hx⟩

section
variable {c : Ck}

theorem Ck.Ok.issue (h : c.Ok) : c.issue.Ok := by
  unfold Ck.issue
  split
  · exact h
  · rename_i hn
    have hlo := h.lo
    refine ⟨by show 1 ≤ c.next + 1; omega, by show c.next + 1 ≤ most + 1; omega, h.rise.snoc (fun y hy => (h.mem y hy).2), fun x hx => ?_⟩
    show 1 ≤ x ∧ x < c.next + 1
    rcases List.mem_append.1 hx with g | g
    · have := h.mem x g; omega
    · rw [List.mem_singleton] at g; omega
theorem Ck.Ok.done (h : c.Ok) (ts : Int) : (c.done ts).Ok := ⟨h.lo, h.hi, h.rise.filter _, fun x hx => h.mem x (List.mem_filter.1 hx).1⟩
theorem Ck.Ok.raise (h : c.Ok) (to : Int) : (c.raise to).Ok := by
  unfold Ck.raise
  split
  · rename_i hc
    have hlo := h.lo
    exact ⟨by show 1 ≤ to; omega, hc.2, h.rise, fun x hx => by have := h.mem x hx; show 1 ≤ x ∧ x < to; omega⟩
  · exact h

theorem Ck.min_le (h : c.Ok) {x : Int} (hx : x ∈ c.act) : c.min ≤ x := by
  unfold Ck.min
  cases ha : c.act with
  | nil => rw [ha] at hx; cases hx
  | cons y l =>
    show y ≤ x
    rw [ha] at hx
    have hr := h.rise
    rw [ha] at hr
    rcases List.mem_cons.1 hx with e | e
    · omega
    · have := (List.pairwise_cons.1 hr).1 x e; omega
theorem Ck.min_next (h : c.Ok) : c.min ≤ c.next := by
  unfold Ck.min
  cases ha : c.act with
  | nil => exact Int.le_refl _
  | cons y l =>
    have := (h.mem y (by rw [ha]; simp)).2
    show y ≤ c.next
    omega
theorem Ck.min_of {low : Int} (hn : low ≤ c.next) (ha : ∀ x ∈ c.act, low ≤ x) : low ≤ c.min := by
  unfold Ck.min
  cases h : c.act with
  | nil => exact hn
  | cons y l => exact ha y (by rw [h]; simp)
/-- Min never falls -/
theorem Ck.min_issue (h : c.Ok) : c.min ≤ c.issue.min := by
  unfold Ck.issue
  split
  · exact Int.le_refl _
  · refine Ck.min_of (by have := Ck.min_next h; show _ ≤ c.next + 1; omega) (fun x hx => ?_)
    rcases List.mem_append.1 hx with g | g
    · exact Ck.min_le h g
    · rw [List.mem_singleton] at g; rw [g]; exact Ck.min_next h
theorem Ck.min_done (h : c.Ok) (ts : Int) : c.min ≤ (c.done ts).min := Ck.min_of (Ck.min_next h) (fun _ hx => Ck.min_le h (List.mem_filter.1 hx).1)
theorem Ck.min_raise (h : c.Ok) (to : Int) : c.min ≤ (c.raise to).min := by
  unfold Ck.raise
  split
  · rename_i hc
    exact Ck.min_of (by have := Ck.min_next h; show _ ≤ to; omega) (fun x hx => Ck.min_le h hx)
  · exact Int.le_refl _
theorem Ck.next_issue : c.next ≤ c.issue.next := by
  unfold Ck.issue
  split
  · exact Int.le_refl _
  · show c.next ≤ c.next + 1; omega
theorem Ck.next_raise (to : Int) : c.next ≤ (c.raise to).next := by
  unfold Ck.raise
  split
  · rename_i hc; show c.next ≤ to; omega
  · exact Int.le_refl _

theorem Ck.done_mem (ts x : Int) : x ∈ (c.done ts).act ↔ x ∈ c.act ∧ x ≠ ts := by
  show x ∈ c.act.filter (fun x => x != ts) ↔ _
  rw [List.mem_filter]
  simp
theorem Ck.done_again (ts : Int) : (c.done ts).is ts = false := by
  unfold Ck.is
  exact decide_eq_false (fun h => ((Ck.done_mem ts ts).1 h).2 rfl)
theorem filter_none {l : List Int} {ts : Int} (h : ts ∉ l) : l.filter (fun x => x != ts) = l := by
  refine List.filter_eq_self.2 (fun x hx => ?_)
  simp
  rintro rfl
  exact h hx
theorem filter_one {l : List Int} {ts : Int} (hd : l.Nodup) (h : ts ∈ l) : (l.filter (fun x => x != ts)).length + 1 = l.length := by
  induction l with
  | nil => cases h
  | cons a l ih =>
    have hd1 := List.nodup_cons.1 hd
    by_cases e : a = ts
    · subst e
      rw [List.filter_cons, if_neg (by simp), filter_none hd1.1]
      rfl
    · rw [List.filter_cons, if_pos (by simpa using e), List.length_cons, List.length_cons]
      have := ih hd1.2 ((List.mem_cons.1 h).elim (fun g => absurd g.symm e) id)
      omega
/-- how many are active behind Done -/
theorem Ck.done_len (h : c.Ok) (ts : Int) : ((c.done ts).act.length : Int) = (c.act.length : Int) - (if c.is ts = true then 1 else 0) := by
  show ((c.act.filter (fun x => x != ts)).length : Int) = _
  unfold Ck.is
  by_cases hm : ts ∈ c.act
  · have := filter_one h.rise.nodup hm
    rw [if_pos (decide_eq_true hm)]
    omega
  · rw [filter_none hm, if_neg (by simpa using hm)]
    omega
end

end Go.Proofs.Ytmlocdfjjgbnjaa.T

namespace Go.Proofs.Ytmlocdfjjgbnjaa
open Go.RowKit

def numV (l : List Int) : List Value := l.map fun n => .int .i64 n
theorem numV_length (l : List Int) : (numV l).length = l.length := by simp [numV]
theorem numV_append (a b : List Int) : numV (a ++ b) = numV a ++ numV b := by simp [numV]
theorem numV_one (l : List Int) : ∀ u ∈ numV l, u.oneCell' = true := by
  intro u hu; simp [numV] at hu; obtain ⟨c, _, rfl⟩ := hu; rfl
theorem numV_at (l : List Int) (j : Nat) (h : j < l.length) : (numV l)[j]? = some (.int .i64 l[j]) := by simp [numV, h]

/-- the slice v holds the numbers l -/
abbrev SlN (w : World) (F : Nat → Prop) (v : Value) (l : List Int) : Prop := S.Sg w F 1 v l.length (numV l)
theorem elN : S.El Try.prog 23 2 1 8 := info_el (z := .int .i64 0) Try.underlying23 (by kernel_rfl) rfl
theorem num_nth {w : World} {F : Nat → Prop} {v : Value} {l : List Int} (h : SlN w F v l) (i : Nat) (hi : i < l.length) : ∃ a cap, v = .slice (some a) l.length cap ∧ l.length ≤ cap ∧ F a.block ∧ w.cell? (a.add i) = some (.int .i64 l[i]) := by
  obtain ⟨_, A, cap, e, hc, hx⟩ := h
  obtain ⟨a, rfl, hF, hx⟩ := hx (by omega)
  exact ⟨a, cap, e, hc, hF, hx i _ (numV_at l i hi)⟩
theorem own_num {w : World} {base : Nat} {v : Value} {a b : List Int} (h : w.ownsRow base 2 1 v (a.length + b.length) (numV a ++ numV b)) : w.ownsRow base 2 1 v (a ++ b).length (numV (a ++ b)) := by
  rw [numV_append, List.length_append]; exact h
theorem num_form {w : World} {F : Nat → Prop} {v : Value} {l : List Int} (h : SlN w F v l) : ∃ A cap, v = .slice A l.length cap ∧ l.length ≤ cap := by
  obtain ⟨_, A, cap, e, hc, _⟩ := h
  exact ⟨A, cap, e, hc⟩

/-- the document's clock by value -/
def Cr (w : World) (F : Nat → Prop) (v : Value) (c : T.Ck) : Prop := ∃ vs, v = .agg #[.int .i64 c.next, vs] ∧ SlN w F vs c.act

theorem Cr.keep {w w' : World} {F : Nat → Prop} {v : Value} {c : T.Ck} (h : Cr w F v c) (hk : ∀ p : Addr, F p.block → w'.cell? p = w.cell? p) : Cr w' F v c := by
  obtain ⟨vs, e, hs⟩ := h
  exact ⟨vs, e, hs.keep hk⟩
theorem Cr.below {w w' : World} {F : Nat → Prop} {B : Nat} {v : Value} {c : T.Ck} (h : Cr w F v c) (hb : Below B w w') (hF : ∀ b, F b → b < B) : Cr w' F v c := h.keep fun _ hp => hb.cell (hF _ hp)

theorem min_head {c : T.Ck} (h : 0 < c.act.length) : c.min = c.act[0] := by
  obtain ⟨n, l⟩ := c
  cases l with
  | nil => simp at h
  | cons x l => rfl

end Go.Proofs.Ytmlocdfjjgbnjaa
