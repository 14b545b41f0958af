/-
  The landed cells: Commit.
-/
import Derived.Test.YtmlocdfjjgbnjaaClP4
namespace Go.Proofs.Ytmlocdfjjgbnjaa.Cn
theorem commit_same {c : Ch} {ts : Int} (h : ∀ x ∈ c, x.ts = ts → x.done = true) : commitC c ts = c ∧ c.filter (Cl.undone ts) = [] := by
  constructor
  · unfold commitC
    split
    · refine (List.map_congr_left (fun x hx => ?_)).trans (List.map_id c)
      unfold doneV
      split
      · rename_i e
        have := h x hx e
        cases x
        simp only at this
        rw [this]
        rfl
      · rfl
    · rfl
  · rw [List.filter_eq_nil_iff]
    intro x hx
    unfold Cl.undone
    by_cases e : x.ts = ts
    · rw [h x hx e]; simp
    · rw [decide_eq_false e]; simp
theorem Sp.only {c a b : Ch} {v : Vr} {ts : Int} (h : Sp c ts a v b) (hm : May c) {x : Vr} (hx : x ∈ c) (ht : x.ts = ts) : x = v := by
  obtain ⟨rfl, hle, hgt⟩ := h
  have hl := hm.lt_v
  rcases List.mem_append.1 hx with q | q
  · have := hl.1 x q; omega
  · rcases List.mem_cons.1 q with q | q
    · exact q
    · have := hgt x q; omega
theorem Sp.told {c a b : Ch} {v : Vr} {ts : Int} (h : Sp c ts a v b) (hm : May c) (ht : v.ts = ts) (hd : v.done = false) : c.filter (Cl.undone ts) = [v] := by
  obtain ⟨rfl, hle, hgt⟩ := h
  have hl := hm.lt_v
  rw [List.filter_append, List.filter_cons, if_pos (by unfold Cl.undone; rw [decide_eq_true ht, hd]; rfl)]
  have e1 : a.filter (Cl.undone ts) = [] := by
    rw [List.filter_eq_nil_iff]
    intro x hx
    have := hl.1 x hx
    unfold Cl.undone
    rw [decide_eq_false (by omega)]; simp
  have e2 : b.filter (Cl.undone ts) = [] := by
    rw [List.filter_eq_nil_iff]
    intro x hx
    have := hgt x hx
    unfold Cl.undone
    rw [decide_eq_false (by omega)]; simp
  rw [e1, e2]
  rfl
/-- what Commit finds of a chain -/
theorem commit_cases {c : Ch} (hm : May c) (ts : Int) : (look c ts = -1 ∧ commitC c ts = c ∧ c.filter (Cl.undone ts) = []) ∨
    ∃ j, ∃ hj : j < c.length, look c ts = (j : Int) ∧ ((c[j].ts ≠ ts ∧ commitC c ts = c ∧ c.filter (Cl.undone ts) = []) ∨ (c[j].ts = ts ∧ c[j].done = true ∧ commitC c ts = c ∧ c.filter (Cl.undone ts) = []) ∨ (c[j].ts = ts ∧ c[j].done = false ∧ c.filter (Cl.undone ts) = [c[j]])) := by
  rcases hm.cases ts with h | ⟨a, v, b, h⟩
  · have h1 := commit_same (c := c) (ts := ts) (fun x hx e => by have := h x hx; omega)
    exact Or.inl ⟨by unfold look; rw [at_low h], h1.1, h1.2⟩
  · refine Or.inr ⟨a.length, h.lt, by unfold look; rw [h.at_ hm], ?_⟩
    rw [h.get h.lt]
    by_cases e : v.ts = ts
    · cases hd : v.done with
      | true =>
        have h1 := commit_same (c := c) (ts := ts) (fun x hx q => by rw [h.only hm hx q]; exact hd)
        exact Or.inr (Or.inl ⟨e, rfl, h1.1, h1.2⟩)
      | false => exact Or.inr (Or.inr ⟨e, rfl, h.told hm e hd⟩)
    · have h1 := commit_same (c := c) (ts := ts) (fun x hx q => absurd (by rw [h.only hm hx q] at q; exact q) e)
      exact Or.inl ⟨e, h1.1, h1.2⟩
end Go.Proofs.Ytmlocdfjjgbnjaa.Cn

namespace Go.Proofs.Ytmlocdfjjgbnjaa.Cl
theorem upmap_same {g : Cn.Ch → Cn.Ch} {X : Cs} {n : Nat} (hn : n < X.length) (h : g X[n].2 = X[n].2) : upmap g X (n + 1) = upmap g X n := by
  unfold upmap
  rw [List.take_succ_eq_append_getElem hn, List.drop_eq_getElem_cons hn, List.map_append, List.append_assoc]
  simp [h]
  exact (List.drop_eq_getElem_cons hn).symm
end Go.Proofs.Ytmlocdfjjgbnjaa.Cl

namespace Go.Proofs.Ytmlocdfjjgbnjaa
open Go.RowKit

/-- cells, and a row of writes apart from them -/
def Told (w w' : World) (F : Nat → Prop) (v : Value) (Y : Cl.Cs) (v' : Value) (L : Cl.Ws) : Prop :=
  ∃ F' T : Nat → Prop, Hc w' F' v Y ∧ S.Sg w' T 4 v' L.length (L.flatMap clW) ∧ (∀ b, F' b → More F w w' b) ∧ (∀ b, T b → S.New w w' b ∧ ¬ F' b) ∧ Turn F w w'

theorem own_apart {w : World} {base k n : Nat} {e : TypeId} {v : Value} {xs : List Value} {G : Nat → Prop} (h : w.ownsRow base e k v n xs) (hG : ∀ r, G r → v.ownBlock ≠ some r) : S.Sg w (fun r => (base ≤ r ∧ r < w.heap.size) ∧ ¬ G r) k v n xs := by
  have h0 := h
  rcases h.2 with ⟨rfl, rfl⟩ | ⟨g, cap, cur, rfl, _, _, hc, _⟩
  · exact ⟨h.1, none, 0, rfl, Nat.zero_le _, fun h => absurd rfl h⟩
  · refine ⟨h.1, _, cap, rfl, hc, fun _ => ⟨_, rfl, ⟨World.ownsRow.lt h0 g rfl, fun q => hG g q rfl⟩, fun j u hj => ?_⟩⟩
    have hjl := (List.getElem?_eq_some_iff.1 hj).1
    rw [Addr.add_lit, Nat.zero_add, World.ownsRow.cellAt h0 j (by rw [h.1] at hjl; exact hjl)]
    exact hj

end Go.Proofs.Ytmlocdfjjgbnjaa
