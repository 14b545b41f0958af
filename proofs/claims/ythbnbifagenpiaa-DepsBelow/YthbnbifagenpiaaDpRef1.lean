/-
  Walks of the document's deps: in, put.
-/
import Derived.Test.YthbnbifagenpiaaStRef
import Derived.Test.YthbnbifagenpiaaDpMath
namespace Go.Proofs.Ythbnbifagenpiaa
open Go.RowKit

theorem dlow {w w1 w2 : World} (h1 : Below w.heap.size w w1) (h2 : Below w1.heap.size w1 w2) : Below w.heap.size w w2 := h1.trans (h2.mono h1.size)
theorem num_own {w : World} {base n k : Nat} {e : TypeId} {v : Value} {xs : List Value} (h : w.ownsRow base e k v n xs) : ∃ A cap, v = .slice A n cap := by
  obtain ⟨_, A, cap, e, _, _⟩ := S.Sg.of_own h
  exact ⟨A, cap, e⟩
theorem num_take {w : World} {F : Nat → Prop} {A : Option Addr} {l : List Int} {cap : Nat} (h : SlN w F (.slice A l.length cap) l) (m : Nat) (hm : m ≤ l.length) : S.Sg w F 1 (.slice A m cap) m (numV (l.take m)) := by
  obtain ⟨_, A', cap', e, hc, hx⟩ := h
  cases e
  refine ⟨by rw [numV_length, List.length_take]; omega, A, cap, rfl, by omega, fun hn => ?_⟩
  obtain ⟨a, rfl, hb, hx⟩ := hx (by omega)
  refine ⟨a, rfl, hb, fun j u hj => hx j u ?_⟩
  have hjl := (List.getElem?_eq_some_iff.1 hj).1
  rw [numV_length, List.length_take] at hjl
  rw [← hj, numV, numV, List.map_take, List.getElem?_take, if_pos (by omega)]
theorem num_drop {w : World} {F : Nat → Prop} {a : Addr} {l : List Int} {cap : Nat} (h : SlN w F (.slice (some a) l.length cap) l) (m : Nat) (hm : m ≤ l.length) : S.Sg w F 1 (.slice (some (a.add m)) (l.length - m) (cap - m)) (l.length - m) (numV (l.drop m)) := by
  obtain ⟨_, A', cap', e, hc, hx⟩ := h
  cases e
  refine ⟨by rw [numV_length, List.length_drop]; omega, _, _, rfl, by omega, fun hn => ?_⟩
  obtain ⟨a', e, hb, hx⟩ := hx (by omega)
  cases e
  refine ⟨_, rfl, by rw [S.add_block]; exact hb, fun j u hj => ?_⟩
  rw [S.add_add]
  refine hx (m + j) u ?_
  rw [← hj, numV, numV, List.map_drop, List.getElem?_drop]

set_option maxRecDepth 100000 in
set_option maxHeartbeats 1000000 in
theorem rin12_any {w : World} {F : Nat → Prop} {v : Value} {l : List Int} (h : SlN w F v l) (hF : ∀ b, F b → b < w.heap.size) (hl : l.length ≤ 1000000) (n : Int) :
    Calls Try.prog 32 #[v, .int .i64 n] w fun e w' => e = .returned (.bool (Dp.has l n)) ∧ Below w.heap.size w w' := by
  have HS := Lib.hid h
  obtain ⟨A, cap, rfl, hcap⟩ := num_form h
  clear h
  go_enter Try.func32, Try.ntmps32
  go_wp2
  go_loopw [5] (fun i wr => ∃ k : Nat, k ≤ l.length ∧ i = .int .i64 (k : Int) ∧ Hid (Below w.heap.size w wr) ∧ Hid (∀ j (hj : j < l.length), j < k → l[j] ≠ n)) (fun i _ => l.length - (intOf i).toNat)
  case atStart => exact ⟨0, Nat.zero_le _, rfl, Lib.hid (Below.refl _ _), Lib.hid (fun j _ h => absurd h (Nat.not_lt_zero _))⟩
  case round =>
    obtain ⟨k, hk, rfl, HB, HI⟩ := hrel
    by_cases hlt : k < l.length
    · have hlt' : (k : Int) < (l.length : Int) := by omega
      have hk0 : (0 : Int) ≤ (k : Int) := by omega
      obtain ⟨a, _, ea, _, _, xa⟩ := num_nth (S.Sg.below HS.out HB.out hF) k hlt
      cases ea
      by_cases he : l[k] = n
      · have he1 : (l[k] == n) = true := by simpa using he
        have HV : Hid (Dp.has l n = true) := Lib.hid (decide_eq_true (by rw [← he]; exact List.getElem_mem hlt))
        clear he
        generalize l[k] = u at *
        go_wp2
        go_ret
        exact ⟨ret_v (by rw [HV.out]; rfl), HB.out⟩
      · have he1 : (l[k] == n) = false := by simpa using he
        have HN : Hid (∀ j (hj : j < l.length), j < k + 1 → l[j] ≠ n) := Lib.hid (fun j hj hjk => by
          by_cases e : j = k
          · subst e; exact he
          · exact HI.out j hj (by omega))
        clear he
        generalize l[k] = u at *
        go_wp2
        go_roundw
        case rel => exact ⟨k + 1, by omega, by go_num, HB, HN⟩
        case measure => simp [intOf]; omega
    · obtain rfl : k = l.length := by omega
      have hlt' : ¬ (l.length : Int) < (l.length : Int) := by omega
      have HV : Hid (Dp.has l n = false) := Lib.hid (decide_eq_false (fun hm => by
        obtain ⟨j, hj, e⟩ := List.getElem_of_mem hm
        exact HI.out j hj hj e))
      go_wp2
      go_ret
      exact ⟨ret_v (by rw [HV.out]; rfl), HB.out⟩

namespace Dp
theorem take_at {l : List Int} {n : Int} {k : Nat} (hk : k ≤ l.length) (h1 : ∀ j (hj : j < l.length), j < k → l[j] < n) (h2 : ∀ h : k < l.length, ¬ l[k] < n) : l.takeWhile (fun x => decide (x < n)) = l.take k ∧ l.dropWhile (fun x => decide (x < n)) = l.drop k := by
  have e : l = l.take k ++ l.drop k := (List.take_append_drop k l).symm
  have ha : ∀ x ∈ l.take k, decide (x < n) = true := fun x hx => by
    obtain ⟨j, hj, rfl⟩ := List.getElem_of_mem hx
    rw [List.length_take] at hj
    rw [List.getElem_take]
    exact decide_eq_true (h1 j (by omega) (by omega))
  have hb : (l.drop k).takeWhile (fun x => decide (x < n)) = [] ∧ (l.drop k).dropWhile (fun x => decide (x < n)) = l.drop k := by
    by_cases hk2 : k < l.length
    · rw [List.drop_eq_getElem_cons hk2, List.takeWhile_cons, List.dropWhile_cons, if_neg (by simpa using h2 hk2), if_neg (by simpa using h2 hk2)]
      exact ⟨rfl, rfl⟩
    · rw [List.drop_of_length_le (by omega)]
      exact ⟨rfl, rfl⟩
  have t1 := List.takeWhile_append_of_pos (p := fun x => decide (x < n)) (l₁ := l.take k) (l₂ := l.drop k) ha
  have t2 := List.dropWhile_append_of_pos (p := fun x => decide (x < n)) (l₁ := l.take k) (l₂ := l.drop k) ha
  rw [← e] at t1 t2
  rw [t1, t2, hb.1, hb.2, List.append_nil]
  exact ⟨rfl, rfl⟩
end Dp

set_option maxRecDepth 100000 in
set_option maxHeartbeats 4000000 in
theorem rput12_any {w : World} {F : Nat → Prop} {v : Value} {l : List Int} (h : SlN w F v l) (hF : ∀ b, F b → b < w.heap.size) (hl : l.length ≤ 1000000) (n : Int) :
    Calls Try.prog 26 #[v, .int .i64 n] w fun e w' => ∃ v', e = .returned v' ∧ SlN w' (fun b => F b ∨ S.New w w' b) v' (Dp.put l n) ∧ Below w.heap.size w w' := by
  have HS := Lib.hid h
  have HI := Lib.hid (rin12_any h hF hl n)
  obtain ⟨A, cap, rfl, hcap⟩ := num_form h
  clear h
  cases hin : Dp.has l n with
  | true =>
    rw [hin] at HI
    have hm : n ∈ l := of_decide_eq_true hin
    have HE : Hid (Dp.put l n = l) := Lib.hid (by unfold Dp.put; rw [if_pos hm])
    clear hin hm
    go_enter Try.func26, Try.ntmps26
    go_wp2_with (go_at_call 32; refine HI.out.mono ?_; rintro e w1 ⟨rfl, hb1⟩; have HB1 := Lib.hid hb1; clear hb1)
    go_ret
    refine ⟨_, rfl, ?_, HB1.out⟩
    rw [HE.out]
    exact (S.Sg.below HS.out HB1.out hF).wider (fun b q => Or.inl q)
  | false =>
    rw [hin] at HI
    have hm : n ∉ l := of_decide_eq_false hin
    have HE : Hid (Dp.put l n = l.takeWhile (fun x => decide (x < n)) ++ n :: l.dropWhile (fun x => decide (x < n))) := Lib.hid (by unfold Dp.put; rw [if_neg hm])
    clear hin hm
    go_enter Try.func26, Try.ntmps26
    go_wp2_with (go_at_call 32; refine HI.out.mono ?_; rintro e w1 ⟨rfl, hb1⟩; have HB1 := Lib.hid hb1; clear hb1)
    go_loopw [5] (fun i wr => ∃ k : Nat, k ≤ l.length ∧ i = .int .i64 (k : Int) ∧ Hid (Below w.heap.size w wr) ∧ Hid (∀ j (hj : j < l.length), j < k → l[j] < n)) (fun i _ => l.length - (intOf i).toNat)
    case atStart => exact ⟨0, Nat.zero_le _, rfl, HB1, Lib.hid (fun j _ h => absurd h (Nat.not_lt_zero _))⟩
    case round =>
      obtain ⟨k, hk, rfl, HB, HJ⟩ := hrel
      by_cases hlt : k < l.length ∧ ∃ h : k < l.length, l[k] < n
      · obtain ⟨hlt, _, hx⟩ := hlt
        have hlt' : (k : Int) < (l.length : Int) := by omega
        have hk0 : (0 : Int) ≤ (k : Int) := by omega
        obtain ⟨a, _, ea, _, _, xa⟩ := num_nth (S.Sg.below HS.out HB.out hF) k hlt
        cases ea
        have HN : Hid (∀ j (hj : j < l.length), j < k + 1 → l[j] < n) := Lib.hid (fun j hj hjk => by
          by_cases e : j = k
          · subst e; exact hx
          · exact HJ.out j hj (by omega))
        generalize l[k] = u at *
        go_wp2
        go_roundw
        case rel => exact ⟨k + 1, by omega, by go_num, HB, HN⟩
        case measure => simp [intOf]; omega
      · have HT := Lib.hid (Dp.take_at hk HJ.out (fun h q => hlt ⟨h, h, q⟩))
        -- TAIL
        by_cases hlt2 : k < l.length
        · have hlt' : (k : Int) < (l.length : Int) := by omega
          have hk0 : (0 : Int) ≤ (k : Int) := by omega
          have hkc : (k : Int) ≤ (cap : Int) := by omega
          have hkl : (k : Int) ≤ (l.length : Int) := by omega
          have hcn : ¬ cap = k := by omega
          have hlc : l.length ≤ cap := hcap
          obtain ⟨a, _, ea, _, _, xa⟩ := num_nth (S.Sg.below HS.out HB.out hF) k hlt2
          cases ea
          have hx : ¬ l[k] < n := fun q => hlt ⟨hlt2, hlt2, q⟩
          have hx' : decide (l[k] < n) = false := decide_eq_false hx
          generalize l[k] = u at *
          go_wp2_with (first
                     | (at_builtin; refine S.wpList_append_sg elN rfl _ _ rfl (base := w.heap.size) (n := 0) (m := k) (xs := []) (cs := numV (l.take k)) rfl rfl (S.own_none 2 1 rfl HB.out.size) (num_take (S.Sg.below HS.out (HB.out.alloc HB.out.size _) hF) k (by omega)) (numV_one _) (by omega) (by omega) (Nat.le_trans HB.out.size (by simp)) ?_
                        intro v2 w2 hown2 hgrow2 _
                        have HB2 := Lib.hid ((HB.out.alloc HB.out.size (.cells #[] 2)).trans (S.below_base (S.own_none 2 1 rfl HB.out.size) (Nat.le_trans HB.out.size (by simp)) hgrow2))
                        have HO2 : Hid (w2.ownsRow w.heap.size 2 1 v2 k (numV (l.take k))) := Lib.hid (by simpa using hown2)
                        clear hown2 hgrow2
                        obtain ⟨A2, c2, rfl⟩ := num_own HO2.out)
                     | (at_builtin; refine S.wpList_append_sg elN rfl _ _ rfl (base := w.heap.size) (n := k) (m := 1) (xs := numV (l.take k)) (cs := [.int .i64 n]) rfl rfl (HO2.out.alloc _) (S.Sg.one w2 2 (.int .i64 n)) (by simp [Value.oneCell']) (by omega) (by omega) (Nat.le_trans HB2.out.size (by simp)) ?_
                        intro v3 w3 hown3 hgrow3 _
                        have HB3 := Lib.hid ((HB2.out.alloc HB2.out.size (.cells #[.int .i64 n] 2)).trans (S.below_base (HO2.out.alloc (.cells #[.int .i64 n] 2)) (Nat.le_trans HB2.out.size (by simp)) hgrow3))
                        have HO3 : Hid (w3.ownsRow w.heap.size 2 1 v3 (k + 1) (numV (l.take k) ++ [.int .i64 n])) := Lib.hid hown3
                        clear hown3 hgrow3
                        obtain ⟨A3, c3, rfl⟩ := num_own HO3.out)
                     | (at_builtin; refine S.wpList_append_sg elN rfl _ _ rfl (base := w.heap.size) (v0 := .slice A3 (k + 1) c3) (n := k + 1) (m := l.length - k) (xs := numV (l.take k) ++ [.int .i64 n]) (cs := numV (l.drop k)) rfl rfl HO3.out (num_drop (S.Sg.below HS.out HB3.out hF) k (by omega)) (by first | exact numV_one _ | simp) (by omega) (by omega) HB3.out.size ?_
                        intro v4 w4 hown4 hgrow4 _
                        have HB4 := Lib.hid (HB3.out.trans (S.below_base HO3.out HB3.out.size hgrow4))
                        have HO4 := Lib.hid (S.Sg.of_own hown4)
                        clear hown4 hgrow4))
          go_ret
          refine ⟨_, rfl, ?_, HB4.out⟩
          rw [HE.out, HT.out.1, HT.out.2]
          have h5 := HO4.out
          rw [show k + 1 + (l.length - k) = (l.take k ++ n :: l.drop k).length by simp <;> omega, show numV (l.take k) ++ [.int .i64 n] ++ numV (l.drop k) = numV (l.take k ++ n :: l.drop k) by simp [numV]] at h5
          exact h5.wider (fun b q => Or.inr q)
        · obtain rfl : k = l.length := by omega
          have hlt' : ¬ (l.length : Int) < (l.length : Int) := by omega
          cases A with
          | none =>
            have hl0 : l = [] := by
              cases l with
              | nil => rfl
              | cons x r => obtain ⟨a, _, e, _⟩ := num_nth HS.out 0 (by simp); cases e
            subst hl0
            have hone : S.Sg ((wr.alloc (.cells #[] 2)).alloc (.cells #[.int .i64 n] 2)) (fun b => b = wr.heap.size + 1) 1 (.slice (some ⟨wr.heap.size + 1, 0, none⟩) 1 1) 1 [.int .i64 n] := by
              have := S.Sg.one (wr.alloc (.cells #[] 2)) 2 (.int .i64 n)
              simpa using this
            have HONE := Lib.hid hone
            clear hone
            go_wp2_with (first
                       | (at_builtin; refine S.wpList_append_sg elN rfl _ _ rfl (base := w.heap.size) (n := 0) (m := 1) (xs := []) (cs := [.int .i64 n]) rfl rfl ((S.own_none 2 1 rfl HB.out.size).alloc _) HONE.out (by simp [Value.oneCell']) (by omega) (by omega) (Nat.le_trans HB.out.size (by simp; omega)) ?_
                          intro v3 w3 hown3 hgrow3 _
                          have HO3 := Lib.hid hown3
                          have HB3 := Lib.hid (((HB.out.alloc HB.out.size (.cells #[] 2)).alloc (Nat.le_trans HB.out.size (by simp)) (.cells #[.int .i64 n] 2)).trans (S.below_base ((S.own_none 2 1 rfl HB.out.size).alloc (.cells #[.int .i64 n] 2)) (Nat.le_trans HB.out.size (by simp; omega)) hgrow3))
                          clear hown3 hgrow3
                          obtain ⟨A3, c3, rfl⟩ := num_own HO3.out)
                       | (at_builtin; refine S.wpList_append_sg elN rfl _ _ rfl (base := w.heap.size) (v0 := .slice A3 (0 + 1) c3) (n := 0 + 1) (m := 0) (xs := [.int .i64 n]) (cs := []) rfl rfl HO3.out (S.Sg.nil _ (fun _ => True) 1 _ _) (by simp) (by omega) (by omega) HB3.out.size ?_
                          intro v4 w4 hown4 hgrow4 _
                          have HB4 := Lib.hid (HB3.out.trans (S.below_base HO3.out HB3.out.size hgrow4))
                          have HO4 := Lib.hid (S.Sg.of_own hown4)
                          clear hown4 hgrow4))
            go_ret
            refine ⟨_, rfl, ?_, HB4.out⟩
            rw [HE.out]
            exact HO4.out.wider (fun b q => Or.inr q)
          | some a =>
            have hk0 : (0 : Int) ≤ (l.length : Int) := by omega
            have hkc : (l.length : Int) ≤ (cap : Int) := by omega
            by_cases hcn : cap = l.length
            · subst hcn
              go_wp2_with (first
                         | (at_builtin; refine S.wpList_append_sg elN rfl _ _ rfl (base := w.heap.size) (n := 0) (m := l.length) (xs := []) (cs := numV (l.take l.length)) rfl rfl (S.own_none 2 1 rfl HB.out.size) (num_take (S.Sg.below HS.out (HB.out.alloc HB.out.size _) hF) l.length (by omega)) (numV_one _) (by omega) (by omega) (Nat.le_trans HB.out.size (by simp)) ?_
                            intro v2 w2 hown2 hgrow2 _
                            have HB2 := Lib.hid ((HB.out.alloc HB.out.size (.cells #[] 2)).trans (S.below_base (S.own_none 2 1 rfl HB.out.size) (Nat.le_trans HB.out.size (by simp)) hgrow2))
                            have HO2 : Hid (w2.ownsRow w.heap.size 2 1 v2 l.length (numV (l.take l.length))) := Lib.hid (by simpa using hown2)
                            clear hown2 hgrow2
                            obtain ⟨A2, c2, rfl⟩ := num_own HO2.out)
                         | (at_builtin; refine S.wpList_append_sg elN rfl _ _ rfl (base := w.heap.size) (n := l.length) (m := 1) (xs := numV (l.take l.length)) (cs := [.int .i64 n]) rfl rfl (HO2.out.alloc _) (S.Sg.one w2 2 (.int .i64 n)) (by simp [Value.oneCell']) (by omega) (by omega) (Nat.le_trans HB2.out.size (by simp)) ?_
                            intro v3 w3 hown3 hgrow3 _
                            have HB3 := Lib.hid ((HB2.out.alloc HB2.out.size (.cells #[.int .i64 n] 2)).trans (S.below_base (HO2.out.alloc (.cells #[.int .i64 n] 2)) (Nat.le_trans HB2.out.size (by simp)) hgrow3))
                            have HO3 : Hid (w3.ownsRow w.heap.size 2 1 v3 (l.length + 1) (numV (l.take l.length) ++ [.int .i64 n])) := Lib.hid hown3
                            clear hown3 hgrow3
                            obtain ⟨A3, c3, rfl⟩ := num_own HO3.out)
                         | (at_builtin; refine S.wpList_append_sg elN rfl _ _ rfl (base := w.heap.size) (v0 := .slice A3 (l.length + 1) c3) (n := l.length + 1) (m := 0) (xs := numV (l.take l.length) ++ [.int .i64 n]) (cs := []) rfl rfl HO3.out (S.Sg.nil _ (fun _ => True) 1 _ _) (by first | exact numV_one _ | simp) (by omega) (by omega) HB3.out.size ?_
                            intro v4 w4 hown4 hgrow4 _
                            have HB4 := Lib.hid (HB3.out.trans (S.below_base HO3.out HB3.out.size hgrow4))
                            have HO4 := Lib.hid (S.Sg.of_own hown4)
                            clear hown4 hgrow4))
              go_ret
              refine ⟨_, rfl, ?_, HB4.out⟩
              rw [HE.out, HT.out.1, HT.out.2]
              have h5 := HO4.out
              rw [show l.length + 1 + (0) = (l.take l.length ++ n :: l.drop l.length).length by simp <;> omega, show numV (l.take l.length) ++ [.int .i64 n] ++ [] = numV (l.take l.length ++ n :: l.drop l.length) by simp [numV]] at h5
              exact h5.wider (fun b q => Or.inr q)
            · have hlc : l.length ≤ cap := hcap
              go_wp2_with (first
                         | (at_builtin; refine S.wpList_append_sg elN rfl _ _ rfl (base := w.heap.size) (n := 0) (m := l.length) (xs := []) (cs := numV (l.take l.length)) rfl rfl (S.own_none 2 1 rfl HB.out.size) (num_take (S.Sg.below HS.out (HB.out.alloc HB.out.size _) hF) l.length (by omega)) (numV_one _) (by omega) (by omega) (Nat.le_trans HB.out.size (by simp)) ?_
                            intro v2 w2 hown2 hgrow2 _
                            have HB2 := Lib.hid ((HB.out.alloc HB.out.size (.cells #[] 2)).trans (S.below_base (S.own_none 2 1 rfl HB.out.size) (Nat.le_trans HB.out.size (by simp)) hgrow2))
                            have HO2 : Hid (w2.ownsRow w.heap.size 2 1 v2 l.length (numV (l.take l.length))) := Lib.hid (by simpa using hown2)
                            clear hown2 hgrow2
                            obtain ⟨A2, c2, rfl⟩ := num_own HO2.out)
                         | (at_builtin; refine S.wpList_append_sg elN rfl _ _ rfl (base := w.heap.size) (n := l.length) (m := 1) (xs := numV (l.take l.length)) (cs := [.int .i64 n]) rfl rfl (HO2.out.alloc _) (S.Sg.one w2 2 (.int .i64 n)) (by simp [Value.oneCell']) (by omega) (by omega) (Nat.le_trans HB2.out.size (by simp)) ?_
                            intro v3 w3 hown3 hgrow3 _
                            have HB3 := Lib.hid ((HB2.out.alloc HB2.out.size (.cells #[.int .i64 n] 2)).trans (S.below_base (HO2.out.alloc (.cells #[.int .i64 n] 2)) (Nat.le_trans HB2.out.size (by simp)) hgrow3))
                            have HO3 : Hid (w3.ownsRow w.heap.size 2 1 v3 (l.length + 1) (numV (l.take l.length) ++ [.int .i64 n])) := Lib.hid hown3
                            clear hown3 hgrow3
                            obtain ⟨A3, c3, rfl⟩ := num_own HO3.out)
                         | (at_builtin; refine S.wpList_append_sg elN rfl _ _ rfl (base := w.heap.size) (v0 := .slice A3 (l.length + 1) c3) (n := l.length + 1) (m := 0) (xs := numV (l.take l.length) ++ [.int .i64 n]) (cs := []) rfl rfl HO3.out (S.Sg.nil _ (fun _ => True) 1 _ _) (by first | exact numV_one _ | simp) (by omega) (by omega) HB3.out.size ?_
                            intro v4 w4 hown4 hgrow4 _
                            have HB4 := Lib.hid (HB3.out.trans (S.below_base HO3.out HB3.out.size hgrow4))
                            have HO4 := Lib.hid (S.Sg.of_own hown4)
                            clear hown4 hgrow4))
              go_ret
              refine ⟨_, rfl, ?_, HB4.out⟩
              rw [HE.out, HT.out.1, HT.out.2]
              have h5 := HO4.out
              rw [show l.length + 1 + (0) = (l.take l.length ++ n :: l.drop l.length).length by simp <;> omega, show numV (l.take l.length) ++ [.int .i64 n] ++ [] = numV (l.take l.length ++ n :: l.drop l.length) by simp [numV]] at h5
              exact h5.wider (fun b q => Or.inr q)
end Go.Proofs.Ythbnbifagenpiaa
