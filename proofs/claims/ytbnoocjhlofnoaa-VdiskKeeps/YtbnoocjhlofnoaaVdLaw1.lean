/-
  Walks of layer vdisk's laws: few deeds; one deed.
-/
import Derived.Test.YtbnoocjhlofnoaaVdAbs
namespace Go.Proofs.Ytbnoocjhlofnoaa
open Go.RowKit

theorem add_pos (a : Addr) (j : Nat) : a.add (j + 1) = ⟨a.block, a.off + (j + 1), none⟩ := by unfold Addr.add; simp

/-- a cell of an element of four cells, as the walk reckons its address -/
theorem cell_in {w : World} {a : Addr} {i j : Nat} {v : Value} (h : w.cell? (a.add (i * 4 + (j + 1))) = some v) : w.cell? ⟨(a.add (i * 4)).block, (a.add (i * 4)).off + (j + 1), none⟩ = some v := by
  rw [← add_pos, S.add_add]; exact h

theorem few_no {l : List Deed} {i : Nat} (h : i < l.length) (hb : 100 < l[i].b.length) : fewM l = false := by
  unfold fewM
  rw [decide_eq_false]
  rintro ⟨_, hx⟩
  have := hx l[i] (List.getElem_mem h)
  omega

theorem few_long {l : List Deed} (h : 60 < l.length) : fewM l = false := by
  unfold fewM
  rw [decide_eq_false]
  rintro ⟨hx, _⟩
  omega

theorem few_yes {l : List Deed} (h : l.length ≤ 60) (hx : ∀ i (h : i < l.length), l[i].b.length ≤ 100) : fewM l = true := by
  unfold fewM
  rw [decide_eq_true]
  refine ⟨h, fun x hm => ?_⟩
  obtain ⟨i, hi, rfl⟩ := List.getElem_of_mem hm
  exact hx i hi

theorem few_of {l : List Deed} (h : fewM l = true) : l.length ≤ 60 ∧ ∀ x ∈ l, x.b.length ≤ 100 := of_decide_eq_true h

set_option maxRecDepth 100000 in
set_option maxHeartbeats 1000000 in
theorem few_any (v : Value) (l : List Deed) (w : World) (G : Nat → Prop) (h : Deeds w G v l) (hl : l.length ≤ 9223372036854775807) :
    Calls Try.prog 11 #[v] w fun e w' => e = .returned (.bool (fewM l)) ∧ w = w' := by
  obtain ⟨A, cap, rfl, hc, ho, hx⟩ := h
  have HO := Lib.hid ho
  have HX := Lib.hid hx
  clear ho hx
  go_enter Try.func11, Try.ntmps11
  go_wp2
  go_loop [3] (fun i => ∃ k : Nat, k ≤ l.length ∧ k ≤ 61 ∧ i = .int .i64 k ∧ Hid (∀ j (hj : j < l.length), j < k → l[j].b.length ≤ 100)) (fun i => 61 - (intOf i).toNat)
  case atStart => exact ⟨0, Nat.zero_le _, by omega, rfl, Lib.hid (fun j hj h => by omega)⟩
  case round =>
    obtain ⟨k, hk, hk2, rfl, HN⟩ := hrel
    by_cases hlt : k < l.length
    · by_cases hlt2 : k < 61
      · obtain ⟨a, rfl, _, hx⟩ := HX.out (fun e => by subst e; simp at hlt)
        obtain ⟨c0, c1, c2, c3, _, _, h2, _, hv⟩ := hx k hlt
        obtain ⟨Ab, capb, rfl, hcb⟩ := Sg_form hv.2.2.1
        have hbl := (HO.out l[k] (List.getElem_mem hlt)).bl
        have h2 := cell_in (j := 1) h2
        clear hx hv
        by_cases hb : 100 < l[k].b.length
        · have HF := Lib.hid (few_no hlt hb)
          obtain ⟨m, hm⟩ : ∃ m, m = l[k].b.length := ⟨_, rfl⟩
          rw [← hm] at h2 hb hbl hcb
          clear hm
          go_wp2
          go_ret
          exact ⟨ret_v (by rw [HF.out]; rfl), rfl⟩
        · have HN2 : Hid (∀ j (hj : j < l.length), j < k + 1 → l[j].b.length ≤ 100) := Lib.hid (fun j hj hjk => by
            by_cases hjm : j = k
            · subst hjm; omega
            · exact HN.out j hj (by omega))
          obtain ⟨m, hm⟩ : ∃ m, m = l[k].b.length := ⟨_, rfl⟩
          rw [← hm] at h2 hb hbl hcb
          clear hm
          go_wp2
          go_round
          case rel => exact ⟨k + 1, by omega, by omega, by go_num, HN2⟩
          case measure => simp [intOf]; omega
      · have HF := Lib.hid (few_long (l := l) (by omega))
        go_wp2
        go_ret
        exact ⟨ret_v (by rw [HF.out]; exact v_bool (decide_eq_false (by omega))), rfl⟩
    · by_cases h60 : l.length ≤ 60
      · have HF := Lib.hid (few_yes h60 (fun i hi => HN.out i hi (by omega)))
        go_wp2
        go_ret
        exact ⟨ret_v (by rw [HF.out]; exact v_bool (decide_eq_true (by omega))), rfl⟩
      · have HF := Lib.hid (few_long (l := l) (by omega))
        go_wp2
        go_ret
        exact ⟨ret_v (by rw [HF.out]; exact v_bool (decide_eq_false (by omega))), rfl⟩

end Go.Proofs.Ytbnoocjhlofnoaa
