/-
  Walks of the document's clock: May, Issue, Done, Raise, Min, Same.
-/
import Derived.Test.YthbnbifagenpiaaBk
import Derived.Test.YthbnbifagenpiaaStMath
import Derived.Deep.RegionHeld3
import Derived.OwnWalk
import Derived.BigQuiet
namespace Go.Proofs.Ythbnbifagenpiaa
open Go.RowKit

def numV (l : List Int) : List Value := l.map fun n => .int .i64 n
theorem numV_length (l : List Int) : (numV l).length = l.length := by simp [numV]
theorem numV_append (a b : List Int) : numV (a ++ b) = numV a ++ numV b := by simp [numV]
theorem numV_one (l : List Int) : ∀ u ∈ numV l, u.oneCell' = true := by
  intro u hu; simp [numV] at hu; obtain ⟨c, _, rfl⟩ := hu; rfl
theorem numV_at (l : List Int) (j : Nat) (h : j < l.length) : (numV l)[j]? = some (.int .i64 l[j]) := by simp [numV, h]

/-- the slice v holds the numbers l -/
abbrev SlN (w : World) (F : Nat → Prop) (v : Value) (l : List Int) : Prop := S.Sg w F 1 v l.length (numV l)
theorem elN : S.El Try.prog 31 2 1 8 := info_el (z := .int .i64 0) Try.underlying31 (by kernel_rfl) rfl
theorem num_nth {w : World} {F : Nat → Prop} {v : Value} {l : List Int} (h : SlN w F v l) (i : Nat) (hi : i < l.length) : ∃ a cap, v = .slice (some a) l.length cap ∧ l.length ≤ cap ∧ F a.block ∧ w.cell? (a.add i) = some (.int .i64 l[i]) := by
  obtain ⟨_, A, cap, e, hc, hx⟩ := h
  obtain ⟨a, rfl, hF, hx⟩ := hx (by omega)
  exact ⟨a, cap, e, hc, hF, hx i _ (numV_at l i hi)⟩
theorem own_num {w : World} {base : Nat} {v : Value} {a b : List Int} (h : w.ownsRow base 2 1 v (a.length + b.length) (numV a ++ numV b)) : w.ownsRow base 2 1 v (a ++ b).length (numV (a ++ b)) := by
  rw [numV_append, List.length_append]; exact h
theorem num_form {w : World} {F : Nat → Prop} {v : Value} {l : List Int} (h : SlN w F v l) : ∃ A cap, v = .slice A l.length cap ∧ l.length ≤ cap := by
  obtain ⟨_, A, cap, e, hc, _⟩ := h
  exact ⟨A, cap, e, hc⟩

/-- the document's clock by value -/
def Cr (w : World) (F : Nat → Prop) (v : Value) (c : T.Ck) : Prop := ∃ vs, v = .agg #[.int .i64 c.next, vs] ∧ SlN w F vs c.act

theorem Cr.keep {w w' : World} {F : Nat → Prop} {v : Value} {c : T.Ck} (h : Cr w F v c) (hk : ∀ p : Addr, F p.block → w'.cell? p = w.cell? p) : Cr w' F v c := by
  obtain ⟨vs, e, hs⟩ := h
  exact ⟨vs, e, hs.keep hk⟩
theorem Cr.below {w w' : World} {F : Nat → Prop} {B : Nat} {v : Value} {c : T.Ck} (h : Cr w F v c) (hb : Below B w w') (hF : ∀ b, F b → b < B) : Cr w' F v c := h.keep fun _ hp => hb.cell (hF _ hp)

theorem min_head {c : T.Ck} (h : 0 < c.act.length) : c.min = c.act[0] := by
  obtain ⟨n, l⟩ := c
  cases l with
  | nil => simp at h
  | cons x l => rfl

set_option maxRecDepth 100000 in
set_option maxHeartbeats 1000000 in
theorem csame_any {w : World} {F : Nat → Prop} {va vb : Value} {l m : List Int} (ha : SlN w F va l) (hb : SlN w F vb m) (hl : l.length ≤ 1000000) (hm : m.length ≤ 1000000) : Calls Try.prog 27 #[va, vb] w fun e w' => e = .returned (.bool (decide (l = m))) ∧ Below w.heap.size w w' := by
  have HA := Lib.hid ha
  have HB := Lib.hid hb
  obtain ⟨A, capa, rfl, hca⟩ := num_form ha
  obtain ⟨B, capb, rfl, hcb⟩ := num_form hb
  clear ha hb
  by_cases hlen : l.length = m.length
  · have hne : ((l.length : Int) == (m.length : Int)) = true := by simp; omega
    have hne' : (l.length : Int) = (m.length : Int) := by omega
    have HLN := Lib.hid hlen
    clear hlen
    go_enter Try.func27, Try.ntmps27
    go_wp2
    go_loopw [5] (fun i wr => ∃ k : Nat, k ≤ l.length ∧ i = .int .i64 (k : Int) ∧ Hid (Below w.heap.size w wr ∧ (∀ p : Addr, wr.cell? p = w.cell? p)) ∧ Hid (∀ j (h : j < l.length) (h' : j < m.length), j < k → l[j] = m[j])) (fun i _ => l.length - (intOf i).toNat)
    case atStart => exact ⟨0, Nat.zero_le _, rfl, Lib.hid ⟨Below.refl _ _, fun _ => rfl⟩, Lib.hid (fun j _ _ h => absurd h (Nat.not_lt_zero _))⟩
    case round =>
      obtain ⟨k, hk, rfl, HW, HE⟩ := hrel
      by_cases hlt : k < l.length
      · have hlt' : (k : Int) < (l.length : Int) := by omega
        have hltm : (k : Int) < (m.length : Int) := by have := HLN.out; omega
        have hk0 : (0 : Int) ≤ (k : Int) := by omega
        obtain ⟨a, _, ea, _, _, xa⟩ := num_nth HA.out k hlt
        obtain ⟨b, _, eb, _, _, xb⟩ := num_nth HB.out k (by have := HLN.out; omega)
        cases ea
        cases eb
        have xa' := (HW.out.2 _).trans xa
        have xb' := (HW.out.2 _).trans xb
        clear xa xb
        by_cases he : l[k] = m[k]'(by have := HLN.out; omega)
        · have HE2 : Hid (∀ j (h : j < l.length) (h' : j < m.length), j < k + 1 → l[j] = m[j]) := Lib.hid (fun j h h' hj => by
            by_cases hjk : j = k
            · subst hjk; exact he
            · exact HE.out j h h' (by omega))
          rw [← he] at xb'
          generalize l[k] = x at *
          clear he
          go_wp2_with fail
          go_region
          all_goals (try go_wp2_with fail)
          all_goals go_roundw
          case rel => exact ⟨k + 1, by omega, by go_num, Lib.hid ⟨⟨HW.out.1.os, HW.out.1.tape, HW.out.1.output, HW.out.1.size, HW.out.1.block⟩, fun p => HW.out.2 p⟩, HE2⟩
          case measure => simp [intOf]; omega
        · have HV : Hid (decide (l = m) = false) := Lib.hid (decide_eq_false (fun e => he (by subst e; rfl)))
          generalize l[k] = x at *
          generalize m[k]'(by have := HLN.out; omega) = y at *
          have he' : (x == y) = false := by simpa using he
          go_wp2_with fail
          go_region
          all_goals (try go_wp2)
          go_ret
          exact ⟨ret_v (by rw [HV.out]; rfl), ⟨HW.out.1.os, HW.out.1.tape, HW.out.1.output, HW.out.1.size, HW.out.1.block⟩⟩
      · have hlt' : ¬ (k : Int) < (l.length : Int) := by omega
        have HV : Hid (decide (l = m) = true) := Lib.hid (decide_eq_true (List.ext_getElem HLN.out (fun j h h' => HE.out j h h' (by omega))))
        go_wp2
        go_ret
        exact ⟨ret_v (by rw [HV.out]; rfl), HW.out.1⟩
  · have hne : ((l.length : Int) == (m.length : Int)) = false := by simp; omega
    have hne' : ¬ (l.length : Int) = (m.length : Int) := by omega
    have HV : Hid (decide (l = m) = false) := Lib.hid (decide_eq_false (fun e => hlen (by rw [e])))
    go_enter Try.func27, Try.ntmps27
    go_wp2
    go_ret
    exact ⟨ret_v (by rw [HV.out]; rfl), Below.refl _ _⟩

end Go.Proofs.Ythbnbifagenpiaa
