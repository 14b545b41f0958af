/-
  The landed chain: Commit, Abort.
-/
import Derived.Test.YtpppjipelcfnkaaChP2
namespace Go.Proofs.Ytpppjipelcfnkaa.Cn

theorem at_may {c : Ch} {ts : Int} {k : Nat} (h : at? c ts = some k) : mayB c = true := by
  unfold at? at h
  split at h
  · rename_i g; exact g.1
  · cases h
/-- around the version that is seen -/
theorem at_around {c : Ch} {ts : Int} {k : Nat} (h : at? c ts = some k) : ∃ v, Sp c ts (c.take k) v (c.drop (k + 1)) ∧ (∀ x ∈ c.take k, x.ts < v.ts) ∧ c[k]? = some v := by
  have hm := (mayB_iff c).1 (at_may h)
  rcases hm.cases ts with hl | ⟨a, v, b, hs⟩
  · rw [at_low hl] at h; cases h
  · have := hs.at_ hm
    rw [h] at this
    cases this
    have e := hs.eq
    have e1 : c.take a.length = a := by rw [e, List.take_left]
    have e2 : c.drop (a.length + 1) = b := by
      rw [e, show a ++ v :: b = (a ++ [v]) ++ b by simp, show a.length + 1 = (a ++ [v]).length by simp, List.drop_left]
    rw [e1, e2]
    refine ⟨v, hs, ?_, by rw [e]; simp⟩
    have h1 := hm
    rw [e] at h1
    exact h1.lt_v.1
theorem at_no {c : Ch} {ts : Int} (h : at? c ts = none) : mayB c = false ∨ ∀ x ∈ c, x.ts ≠ ts := by
  cases hb : mayB c with
  | false => exact Or.inl rfl
  | true =>
    have hm := (mayB_iff c).1 hb
    rcases hm.cases ts with hl | ⟨a, v, b, hs⟩
    · exact Or.inr (fun x hx => by have := hl x hx; omega)
    · rw [hs.at_ hm] at h; cases h
theorem others {c : Ch} {ts : Int} {k : Nat} (h : at? c ts = some k) : (∀ x ∈ c.take k, x.ts ≠ ts) ∧ ∀ x ∈ c.drop (k + 1), x.ts ≠ ts := by
  obtain ⟨v, hs, h1, _⟩ := at_around h
  exact ⟨fun x hx => by have := h1 x hx; have := hs.le; omega, fun x hx => by have := hs.gt x hx; omega⟩
theorem map_id_of {ts : Int} : ∀ {l : Ch}, (∀ x ∈ l, x.ts ≠ ts) → l.map (doneV ts) = l
  | [], _ => rfl
  | x :: r, h => by
    rw [List.map_cons, map_id_of (fun y hy => h y (by simp [hy]))]
    unfold doneV
    rw [if_neg (h x (by simp))]
theorem filter_id_of {ts : Int} {l : Ch} (h : ∀ x ∈ l, x.ts ≠ ts) : l.filter (fun v => !goneB ts v) = l :=
  List.filter_eq_self.2 (fun x hx => by unfold goneB; rw [decide_eq_false (h x hx)]; rfl)
theorem all_ne {c : Ch} {ts : Int} {k : Nat} (h : at? c ts = some k) (hk : k < c.length) (ho : c[k].ts ≠ ts) : ∀ x ∈ c, x.ts ≠ ts := by
  intro x hx
  rw [← List.take_append_drop (k + 1) c, List.mem_append, List.take_succ_eq_append_getElem hk, List.mem_append, List.mem_singleton] at hx
  rcases hx with (hx | rfl) | hx
  · exact (others h).1 x hx
  · exact ho
  · exact (others h).2 x hx
theorem commit_no {c : Ch} {ts : Int} (h : ownI c ts = -1) : commitC c ts = c ∧ abortC c ts = c := by
  unfold commitC abortC
  cases hb : mayB c with
  | false => simp
  | true =>
    rw [if_pos rfl, if_pos rfl]
    have hne : ∀ x ∈ c, x.ts ≠ ts := by
      unfold ownI at h
      cases hat : at? c ts with
      | none => rcases at_no hat with g | g
                · rw [g] at hb; cases hb
                · exact g
      | some k =>
        rw [hat] at h
        have hk := at_lt hat
        dsimp only at h
        rw [getV_eq hk] at h
        refine all_ne hat hk (fun e => ?_)
        rw [if_pos e] at h
        omega
    exact ⟨map_id_of hne, filter_id_of hne⟩
theorem own_is {c : Ch} {ts : Int} (h : ownI c ts ≠ -1) : ∃ k, ∃ hk : k < c.length, ownI c ts = (k : Int) ∧ at? c ts = some k ∧ c[k].ts = ts := by
  unfold ownI at h ⊢
  cases hat : at? c ts with
  | none => rw [hat] at h; exact absurd rfl h
  | some k =>
    rw [hat] at h
    have hk := at_lt hat
    dsimp only at h ⊢
    rw [getV_eq hk] at h ⊢
    by_cases e : c[k].ts = ts
    · exact ⟨k, hk, by rw [if_pos e], rfl, e⟩
    · rw [if_neg e] at h; exact absurd rfl h
theorem parts3 {c : Ch} {k : Nat} (hk : k < c.length) : c = c.take k ++ c[k] :: c.drop (k + 1) := by
  conv => lhs; rw [← List.take_append_drop (k + 1) c, List.take_succ_eq_append_getElem hk]
  simp
theorem commit_own {c : Ch} {ts : Int} {k : Nat} (hk : k < c.length) (h : at? c ts = some k) (ho : c[k].ts = ts) : commitC c ts = c.set k ⟨c[k].ts, c[k].rd, c[k].val, true⟩ := by
  unfold commitC
  rw [if_pos (at_may h)]
  obtain ⟨h1, h2⟩ := others h
  have e := parts3 hk
  have hl : (c.take k).length = k := by rw [List.length_take]; omega
  generalize c[k] = v at *
  generalize hA : c.take k = A at *
  generalize hB : c.drop (k + 1) = B at *
  rw [e, List.map_append, List.map_cons, map_id_of h1, map_id_of h2]
  conv => rhs; rw [← hl, set_mid]
  unfold doneV
  rw [if_pos ho]
theorem abort_own {c : Ch} {ts : Int} {k : Nat} (hk : k < c.length) (h : at? c ts = some k) (ho : c[k].ts = ts) (hd : c[k].done = false) : abortC c ts = c.eraseIdx k := by
  unfold abortC
  rw [if_pos (at_may h)]
  obtain ⟨h1, h2⟩ := others h
  have e := parts3 hk
  have he : c.eraseIdx k = c.take k ++ c.drop (k + 1) := List.eraseIdx_eq_take_drop_succ ..
  rw [he]
  generalize c[k] = v at *
  generalize hA : c.take k = A at *
  generalize hB : c.drop (k + 1) = B at *
  conv => lhs; rw [e]
  rw [List.filter_append, List.filter_cons, filter_id_of h1, filter_id_of h2, if_neg (by unfold goneB; rw [decide_eq_true ho, hd]; decide)]
theorem abort_done {c : Ch} {ts : Int} {k : Nat} (hk : k < c.length) (h : at? c ts = some k) (hd : c[k].done = true) : abortC c ts = c := by
  unfold abortC
  rw [if_pos (at_may h)]
  obtain ⟨h1, h2⟩ := others h
  have e := parts3 hk
  generalize c[k] = v at *
  generalize hA : c.take k = A at *
  generalize hB : c.drop (k + 1) = B at *
  conv => lhs; rw [e]
  rw [List.filter_append, List.filter_cons, filter_id_of h1, filter_id_of h2, if_pos (by unfold goneB; rw [hd]; simp), ← e]
end Go.Proofs.Ytpppjipelcfnkaa.Cn

namespace Go.Proofs.Ytpppjipelcfnkaa
open Go.RowKit

theorem row_slc {w w0 : World} {B n : Nat} {v : Value} {c : Cn.Ch} {F : Nat → Prop} (h : w.ownsRow B 49 4 v n (verV c)) (hB : w0.heap.size ≤ B) (hn : n = c.length) : SlC w (fun b => F b ∨ S.New w0 w b) v c := by
  subst hn
  exact (S.Sg.of_own h).wider (fun _ hb => Or.inr ⟨Nat.le_trans hB hb.1, hb.2⟩)

set_option maxRecDepth 100000 in
set_option maxHeartbeats 4000000 in
theorem commit10 {w : World} {F : Nat → Prop} {v : Value} {c : Cn.Ch} (h : SlC w F v c) (hF : ∀ b, F b → b < w.heap.size) (hl : c.length ≤ 1000) (ts : Int) :
    Calls Try.prog 47 #[v, .int .i64 ts] w fun e w' => ∃ v', e = .returned v' ∧ SlC w' (fun b => F b ∨ S.New w w' b) v' (Cn.commitC c ts) ∧ Below w.heap.size w w' := by
  have HC := Lib.hid (clone10 h hF (by omega))
  have HO : Hid (∀ w', Below w.heap.size w w' → Calls Try.prog 60 #[v, .int .i64 ts] w' fun e w2 => e = .returned (.int .i64 (Cn.ownI c ts)) ∧ Below w'.heap.size w' w2) := Lib.hid (fun w' hb => own10 (h.below hb hF) (fun b q => Nat.lt_of_lt_of_le (hF b q) hb.size) hl ts)
  by_cases ho : Cn.ownI c ts = -1
  · have HV := Lib.hid (Cn.commit_no ho).1
    rw [ho] at HO
    clear ho
    go_enter Try.func47, Try.ntmps47
    go_wp2_with (first
      | (go_at_call 41; refine HC.out.mono ?_; rintro e w1 ⟨v1, rfl, ho1, hb1⟩; have HO1 := Lib.hid ho1; have HB1 := Lib.hid hb1; clear ho1 hb1)
      | (go_at_call 60; refine (HO.out _ HB1.out).mono ?_; rintro e w2 ⟨rfl, hb2⟩; have HB2 := Lib.hid hb2; clear hb2))
    go_ret
    refine ⟨_, rfl, ?_, below_two HB1.out HB2.out⟩
    rw [HV.out]
    exact row_slc (S.own_below HO1.out HB2.out) (Nat.le_refl _) rfl
  · obtain ⟨k, hk, e1, hat, e2⟩ := Cn.own_is ho
    have HV := Lib.hid (Cn.commit_own hk hat e2)
    rw [e1] at HO
    have HL := Lib.hid hk
    have hk0 : (0 : Int) ≤ (k : Int) := by omega
    have hk1 : (k : Int) < (c.length : Int) := by omega
    clear ho e1 hat e2
    have hc0 : 0 < c.length := by omega
    have HC : Hid (Calls Try.prog 41 #[v] w fun e w' => ∃ g cap, e = .returned (.slice (some ⟨g, 0, none⟩) c.length cap) ∧ w'.ownsRow w.heap.size 49 4 (.slice (some ⟨g, 0, none⟩) c.length cap) c.length (verV c) ∧ Below w.heap.size w w') := Lib.hid (HC.out.mono (fun e w' hh => by
      obtain ⟨v', rfl, ho, hb⟩ := hh
      obtain ⟨g, cap, _, rfl, _⟩ := V.own_form ho hc0
      exact ⟨g, cap, rfl, ho, hb⟩))
    go_enter Try.func47, Try.ntmps47
    go_wp2_with (first
      | (go_at_call 41; refine HC.out.mono ?_; rintro e w1 ⟨g, cap, rfl, ho1, hb1⟩; have HO1 := Lib.hid ho1; have HB1 := Lib.hid hb1; clear ho1 hb1)
      | (go_at_call 60; refine (HO.out _ HB1.out).mono ?_; rintro e w2 ⟨rfl, hb2⟩; have HB2 := Lib.hid hb2; have HO2 := Lib.hid (S.own_below HO1.out hb2); have y3 : w2.cell? ⟨g, k * 4 + 3, none⟩ = some ((verV c)[k * 4 + 3]'(by rw [verV_length]; omega)) := V.own_cell HO2.out (List.getElem?_eq_getElem (by rw [verV_length]; omega)); have z3 := V.own_frozen HO2.out (k * 4 + 3); clear hb2))
    go_ret
    have HW := below_two HB1.out HB2.out
    have hgb : w.heap.size ≤ g := (World.ownsRow.lt HO2.out g rfl).1
    refine ⟨_, rfl, ?_, HW.setCell (p := ⟨g, k * 4 + 3, none⟩) hgb _⟩
    rw [HV.out]
    have h9 := S.own_set1 Try.prog HO2.out (o := k * 4 + 3) (by omega) (.bool true) rfl
    rw [verV_set c k hk 3 (.bool true) ⟨c[k].ts, c[k].rd, c[k].val, true⟩ (by decide) rfl] at h9
    exact row_slc h9 (Nat.le_refl _) List.length_set.symm

set_option maxRecDepth 100000 in
set_option maxHeartbeats 4000000 in
theorem abort10 {w : World} {F : Nat → Prop} {v : Value} {c : Cn.Ch} (h : SlC w F v c) (hF : ∀ b, F b → b < w.heap.size) (hl : c.length ≤ 1000) (ts : Int) :
    Calls Try.prog 48 #[v, .int .i64 ts] w fun e w' => ∃ v', e = .returned v' ∧ SlC w' (fun b => F b ∨ S.New w w' b) v' (Cn.abortC c ts) ∧ Below w.heap.size w w' := by
  have HC := Lib.hid (clone10 h hF (by omega))
  have HO : Hid (∀ w', Below w.heap.size w w' → Calls Try.prog 60 #[v, .int .i64 ts] w' fun e w2 => e = .returned (.int .i64 (Cn.ownI c ts)) ∧ Below w'.heap.size w' w2) := Lib.hid (fun w' hb => own10 (h.below hb hF) (fun b q => Nat.lt_of_lt_of_le (hF b q) hb.size) hl ts)
  by_cases ho : Cn.ownI c ts = -1
  · have HV := Lib.hid (Cn.commit_no ho).2
    rw [ho] at HO
    clear ho
    go_enter Try.func48, Try.ntmps48
    go_wp2_with (first
      | (go_at_call 41; refine HC.out.mono ?_; rintro e w1 ⟨v1, rfl, ho1, hb1⟩; have HO1 := Lib.hid ho1; have HB1 := Lib.hid hb1; clear ho1 hb1)
      | (go_at_call 60; refine (HO.out _ HB1.out).mono ?_; rintro e w2 ⟨rfl, hb2⟩; have HB2 := Lib.hid hb2; clear hb2))
    go_ret
    refine ⟨_, rfl, ?_, below_two HB1.out HB2.out⟩
    rw [HV.out]
    exact row_slc (S.own_below HO1.out HB2.out) (Nat.le_refl _) rfl
  · obtain ⟨k, hk, e1, hat, e2⟩ := Cn.own_is ho
    rw [e1] at HO
    have HL := Lib.hid hk
    have hk0 : (0 : Int) ≤ (k : Int) := by omega
    have hk1 : (k : Int) < (c.length : Int) := by omega
    have hkw : IntKind.i64.wrap ((k : Int) + 1) = (k : Int) + 1 := IntWalk.i64_in _ (by omega)
    have hc0 : 0 < c.length := by omega
    obtain ⟨a, cp, rfl, _, _, _, _, _, _⟩ := SlC.nth h k hk
    have HY : Hid (∀ w', Below w.heap.size w w' → w'.cell? ⟨(a.add (k * 4)).block, (a.add (k * 4)).off + 3, none⟩ = some (.bool c[k].done)) := Lib.hid (fun w' hb => by
      obtain ⟨a', _, e, _, _, _, _, _, y⟩ := SlC.nth (h.below hb hF) k hk
      cases e
      exact y)
    have HC : Hid (Calls Try.prog 41 #[.slice (some a) c.length cp] w fun e w' => ∃ g cap, e = .returned (.slice (some ⟨g, 0, none⟩) c.length cap) ∧ w'.ownsRow w.heap.size 49 4 (.slice (some ⟨g, 0, none⟩) c.length cap) c.length (verV c) ∧ Below w.heap.size w w') := Lib.hid (HC.out.mono (fun e w' hh => by
      obtain ⟨v', rfl, ho, hb⟩ := hh
      obtain ⟨g, cap, _, rfl, _⟩ := V.own_form ho hc0
      exact ⟨g, cap, rfl, ho, hb⟩))
    clear h
    cases hd : c[k].done with
    | true =>
      have HV := Lib.hid (Cn.abort_done hk hat hd)
      rw [hd] at HY
      clear ho e1 hat e2 hd
      go_enter Try.func48, Try.ntmps48
      go_wp2_with (first
        | (go_at_call 41; refine HC.out.mono ?_; rintro e w1 ⟨g, cap, rfl, ho1, hb1⟩; have HO1 := Lib.hid ho1; have HB1 := Lib.hid hb1; clear ho1 hb1)
        | (go_at_call 60; refine (HO.out _ HB1.out).mono ?_; rintro e w2 ⟨rfl, hb2⟩; have HB2 := Lib.hid hb2; have y3 := HY.out w2 (below_two HB1.out HB2.out); clear hb2))
      go_ret
      refine ⟨_, rfl, ?_, below_two HB1.out HB2.out⟩
      rw [HV.out]
      exact row_slc (S.own_below HO1.out HB2.out) (Nat.le_refl _) rfl
    | false =>
      have HV := Lib.hid (Cn.abort_own hk hat e2 hd)
      rw [hd] at HY
      clear ho e1 hat e2 hd
      go_enter Try.func48, Try.ntmps48
      go_wp2_with (first
        | (go_at_call 41; refine HC.out.mono ?_; rintro e w1 ⟨g, cap, rfl, ho1, hb1⟩; have HO1 := Lib.hid ho1; have HB1 := Lib.hid hb1; clear ho1 hb1)
        | (go_at_call 60; refine (HO.out _ HB1.out).mono ?_; rintro e w2 ⟨rfl, hb2⟩; have HB2 := Lib.hid (below_two HB1.out hb2); have HO2 := Lib.hid (S.own_below HO1.out hb2); have y3 := HY.out w2 HB2.out; clear hb2)
        | (go_at_call 61; refine (delete10 HO2.out HL.out hl).mono ?_; rintro e w3 ⟨v3, rfl, ho3, hb3⟩; have HO3 := Lib.hid ho3; have HB3 := Lib.hid (HB2.out.trans hb3); clear ho3 hb3))
      go_ret
      refine ⟨_, rfl, ?_, HB3.out⟩
      rw [HV.out]
      exact row_slc HO3.out (Nat.le_refl _) rfl

end Go.Proofs.Ytpppjipelcfnkaa
