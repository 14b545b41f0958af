/-
  The landed chain: Commit, Abort.
-/
import Derived.Test.YtmlocdfjjgbnjaaChP2
namespace Go.Proofs.Ytmlocdfjjgbnjaa.Cn

theorem at_may {c : Ch} {ts : Int} {k : Nat} (h : at? c ts = some k) : mayB c = true := by
  unfold at? at h
  split at h
  · rename_i g; exact g.1
  · cases h
/-- around the version that is seen -/
theorem at_around {c : Ch} {ts : Int} {k : Nat} (h : at? c ts = some k) : ∃ v, Sp c ts (c.take k) v (c.drop (k + 1)) ∧ (∀ x ∈ c.take k, x.ts < v.ts) ∧ c[k]? = some v := by
  have hm := (mayB_iff c).1 (at_may h)
  rcases hm.cases ts with hl | ⟨a, v, b, hs⟩
  · rw [at_low hl] at h; cases h
  · have := hs.at_ hm
    rw [h] at this
    cases this
    have e := hs.eq
    have e1 : c.take a.length = a := by rw [e, List.take_left]
    have e2 : c.drop (a.length + 1) = b := by
      rw [e, show a ++ v :: b = (a ++ [v]) ++ b by simp, show a.length + 1 = (a ++ [v]).length by simp, List.drop_left]
    rw [e1, e2]
    refine ⟨v, hs, ?_, by rw [e]; simp⟩
    have h1 := hm
    rw [e] at h1
    exact h1.lt_v.1
theorem at_no {c : Ch} {ts : Int} (h : at? c ts = none) : mayB c = false ∨ ∀ x ∈ c, x.ts ≠ ts := by
  cases hb : mayB c with
  | false => exact Or.inl rfl
  | true =>
    have hm := (mayB_iff c).1 hb
    rcases hm.cases ts with hl | ⟨a, v, b, hs⟩
    · exact Or.inr (fun x hx => by have := hl x hx; omega)
    · rw [hs.at_ hm] at h; cases h
theorem others {c : Ch} {ts : Int} {k : Nat} (h : at? c ts = some k) : (∀ x ∈ c.take k, x.ts ≠ ts) ∧ ∀ x ∈ c.drop (k + 1), x.ts ≠ ts := by
  obtain ⟨v, hs, h1, _⟩ := at_around h
  exact ⟨fun x hx => by have := h1 x hx; have := hs.le; omega, fun x hx => by have := hs.gt x hx; omega⟩
theorem map_id_of {ts : Int} : ∀ {l : Ch}, (∀ x ∈ l, x.ts ≠ ts) → l.map (doneV ts) = l
  | [], _ => rfl
  | x :: r, h => by
    rw [List.map_cons, map_id_of (fun y hy => h y (by simp [hy]))]
    unfold doneV
    rw [if_neg (h x (by simp))]
theorem filter_id_of {ts : Int} {l : Ch} (h : ∀ x ∈ l, x.ts ≠ ts) : l.filter (fun v => !goneB ts v) = l :=
  List.filter_eq_self.2 (fun x hx => by unfold goneB; rw [decide_eq_false (h x hx)]; rfl)
theorem all_ne {c : Ch} {ts : Int} {k : Nat} (h : at? c ts = some k) (hk : k < c.length) (ho : c[k].ts ≠ ts) : ∀ x ∈ c, x.ts ≠ ts := by
  intro x hx
  rw [← List.take_append_drop (k + 1) c, List.mem_append, List.take_succ_eq_append_getElem hk, List.mem_append, List.mem_singleton] at hx
  rcases hx with (hx | rfl) | hx
  · exact (others h).1 x hx
  · exact ho
  · exact (others h).2 x hx
theorem commit_no {c : Ch} {ts : Int} (h : ownI c ts = -1) : commitC c ts = c ∧ abortC c ts = c := by
  unfold commitC abortC
  cases hb : mayB c with
  | false => simp
  | true =>
    rw [if_pos rfl, if_pos rfl]
    have hne : ∀ x ∈ c, x.ts ≠ ts := by
      unfold ownI at h
      cases hat : at? c ts with
      | none => rcases at_no hat with g | g
                · rw [g] at hb; cases hb
                · exact g
      | some k =>
        rw [hat] at h
        have hk := at_lt hat
        dsimp only at h
        rw [getV_eq hk] at h
        refine all_ne hat hk (fun e => ?_)
        rw [if_pos e] at h
        omega
    exact ⟨map_id_of hne, filter_id_of hne⟩
theorem own_is {c : Ch} {ts : Int} (h : ownI c ts ≠ -1) : ∃ k, ∃ hk : k < c.length, ownI c ts = (k : Int) ∧ at? c ts = some k ∧ c[k].ts = ts := by
  unfold ownI at h ⊢
  cases hat : at? c ts with
  | none => rw [hat] at h; exact absurd rfl h
  | some k =>
    rw [hat] at h
    have hk := at_lt hat
    dsimp only at h ⊢
    rw [getV_eq hk] at h ⊢
    by_cases e : c[k].ts = ts
    · exact ⟨k, hk, by rw [if_pos e], rfl, e⟩
    · rw [if_neg e] at h; exact absurd rfl h
theorem parts3 {c : Ch} {k : Nat} (hk : k < c.length) : c = c.take k ++ c[k] :: c.drop (k + 1) := by
  conv => lhs; rw [← List.take_append_drop (k + 1) c, List.take_succ_eq_append_getElem hk]
  simp
theorem commit_own {c : Ch} {ts : Int} {k : Nat} (hk : k < c.length) (h : at? c ts = some k) (ho : c[k].ts = ts) : commitC c ts = c.set k ⟨c[k].ts, c[k].rd, c[k].val, true⟩ := by
  unfold commitC
  rw [if_pos (at_may h)]
  obtain ⟨h1, h2⟩ := others h
  have e := parts3 hk
  have hl : (c.take k).length = k := by rw [List.length_take]; omega
  generalize c[k] = v at *
  generalize hA : c.take k = A at *
  generalize hB : c.drop (k + 1) = B at *
  rw [e, List.map_append, List.map_cons, map_id_of h1, map_id_of h2]
  conv => rhs; rw [← hl, set_mid]
  unfold doneV
  rw [if_pos ho]
theorem abort_own {c : Ch} {ts : Int} {k : Nat} (hk : k < c.length) (h : at? c ts = some k) (ho : c[k].ts = ts) (hd : c[k].done = false) : abortC c ts = c.eraseIdx k := by
  unfold abortC
  rw [if_pos (at_may h)]
  obtain ⟨h1, h2⟩ := others h
  have e := parts3 hk
  have he : c.eraseIdx k = c.take k ++ c.drop (k + 1) := List.eraseIdx_eq_take_drop_succ ..
  rw [he]
  generalize c[k] = v at *
  generalize hA : c.take k = A at *
  generalize hB : c.drop (k + 1) = B at *
  conv => lhs; rw [e]
  rw [List.filter_append, List.filter_cons, filter_id_of h1, filter_id_of h2, if_neg (by unfold goneB; rw [decide_eq_true ho, hd]; decide)]
theorem abort_done {c : Ch} {ts : Int} {k : Nat} (hk : k < c.length) (h : at? c ts = some k) (hd : c[k].done = true) : abortC c ts = c := by
  unfold abortC
  rw [if_pos (at_may h)]
  obtain ⟨h1, h2⟩ := others h
  have e := parts3 hk
  generalize c[k] = v at *
  generalize hA : c.take k = A at *
  generalize hB : c.drop (k + 1) = B at *
  conv => lhs; rw [e]
  rw [List.filter_append, List.filter_cons, filter_id_of h1, filter_id_of h2, if_pos (by unfold goneB; rw [hd]; simp), ← e]
end Go.Proofs.Ytmlocdfjjgbnjaa.Cn

namespace Go.Proofs.Ytmlocdfjjgbnjaa
open Go.RowKit

theorem row_slc {w w0 : World} {B n : Nat} {v : Value} {c : Cn.Ch} {F : Nat → Prop} (h : w.ownsRow B 40 4 v n (verV c)) (hB : w0.heap.size ≤ B) (hn : n = c.length) : SlC w (fun b => F b ∨ S.New w0 w b) v c := by
  subst hn
  exact (S.Sg.of_own h).wider (fun _ hb => Or.inr ⟨Nat.le_trans hB hb.1, hb.2⟩)

end Go.Proofs.Ytmlocdfjjgbnjaa
