/-
  The law PackVery, walked: what is taken has the very bytes; nothing that a text's string begins is one.
-/
import Derived.Test.YtkgdcomaphgjaaaPackTakesW
namespace Go.Proofs.Ytkgdcomaphgjaaa
open Go.RowKit

theorem ba_toList (a : ByteArray) : a = ⟨a.data.toList.toArray⟩ := by
  apply ByteArray.ext; simp

/-- what is taken of a string, put together again -/
theorem tn_back {s : ByteArray} (h : ¬ s.size < 4) : (⟨(M.hiB 4 (M.num (s.data.toList.take 4))).toArray⟩ : ByteArray) ++ s.extract 4 s.size = s := by
  have hl : (s.data.toList.take 4).length = 4 := by simp; omega
  have := M.hiB_num (s.data.toList.take 4)
  rw [hl] at this
  rw [extract_end, ba_append, this, List.take_append_drop, ← ba_toList]

theorem ti_back {s : ByteArray} (h : ¬ s.size < 8) : (⟨(M.hiB 8 (up ((M.num (s.data.toList.take 8) : Nat) - 9223372036854775808))).toArray⟩ : ByteArray) ++ s.extract 8 s.size = s := by
  have hl : (s.data.toList.take 8).length = 8 := by simp; omega
  have := M.hiB_num (s.data.toList.take 8)
  rw [hl] at this
  have e : up ((M.num (s.data.toList.take 8) : Nat) - 9223372036854775808) = M.num (s.data.toList.take 8) := by unfold up; omega
  rw [e, extract_end, ba_append, this, List.take_append_drop, ← ba_toList]

theorem tt_back {s : ByteArray} {g h : List UInt8} (e : M.ttake [] false s.data.toList = some (g, h)) : (⟨(M.text g).toArray⟩ : ByteArray) ++ ⟨h.toArray⟩ = s := by
  rw [ba_append, M.ttake_very e, ← ba_toList]

/-- the three takings, each as a tuple with what is needed of it -/
theorem tn_cases (s : ByteArray) : ∃ (a : Nat) (b : ByteArray) (c : Int), tnV s.data.toList = .tuple #[.int .u32 a, .string b, .int .i64 c] ∧ a < 4294967296 ∧ b.size ≤ s.size ∧ ((c = 2) ∨ (c = 0 ∧ (⟨(M.hiB 4 a).toArray⟩ : ByteArray) ++ b = s)) := by
  by_cases h : s.size < 4
  · exact ⟨0, ⟨#[]⟩, 2, tnV_no h, by decide, Nat.zero_le _, Or.inl rfl⟩
  · exact ⟨_, _, 0, tnV_yes h, num_take4_lt _, by simp, Or.inr ⟨rfl, tn_back h⟩⟩

theorem ti_cases (s : ByteArray) : ∃ (a : Int) (b : ByteArray) (c : Int), tiV s.data.toList = .tuple #[.int .i64 a, .string b, .int .i64 c] ∧ -9223372036854775808 ≤ a ∧ a ≤ 9223372036854775807 ∧ b.size ≤ s.size ∧ ((c = 2) ∨ (c = 0 ∧ (⟨(M.hiB 8 (up a)).toArray⟩ : ByteArray) ++ b = s)) := by
  by_cases h : s.size < 8
  · exact ⟨0, ⟨#[]⟩, 2, tiV_no h, by decide, by decide, Nat.zero_le _, Or.inl rfl⟩
  · have := num_take8_lt s.data.toList
    exact ⟨_, _, 0, tiV_yes h, by omega, by omega, by simp, Or.inr ⟨rfl, ti_back h⟩⟩

theorem tt_cases (s : ByteArray) : ∃ (a b : ByteArray) (c : Int), ttV (M.ttake [] false s.data.toList) = .tuple #[.string a, .string b, .int .i64 c] ∧ a.size ≤ s.size ∧ b.size ≤ s.size ∧ ((c = 2) ∨ (c = 0 ∧ (⟨(M.text a.data.toList).toArray⟩ : ByteArray) ++ b = s)) := by
  cases e : M.ttake [] false s.data.toList with
  | none => exact ⟨⟨#[]⟩, ⟨#[]⟩, 2, rfl, Nat.zero_le _, Nat.zero_le _, Or.inl rfl⟩
  | some r =>
    obtain ⟨g, h⟩ := r
    have hl := M.ttake_len e
    have hz : s.data.toList.length = s.size := by simp
    exact ⟨⟨g.toArray⟩, ⟨h.toArray⟩, 0, rfl, show g.toArray.size ≤ s.size by simp; omega, show h.toArray.size ≤ s.size by simp; omega, Or.inr ⟨rfl, tt_back e⟩⟩

/-- a text's string, and what is cut off it -/
theorem text_cases (t : ByteArray) (ht : t.size ≤ 35184372088832) : ∃ X : ByteArray, 2 ≤ X.size ∧ X.size ≤ 70368744177666 ∧
    (∀ w, Calls Try.prog 14 #[.string t] w fun e w' => e = .returned (.string X) ∧ Below w.heap.size w w') ∧
    ∀ k, k < X.size → ∀ w, Calls Try.prog 20 #[.string (X.extract 0 k)] w fun e w' => e = .returned (.tuple #[.string ⟨#[]⟩, .string ⟨#[]⟩, .int .i64 2]) ∧ Below w.heap.size w w' := by
  have h1 := M.text_len t.data.toList
  have h2 : 2 ≤ (M.text t.data.toList).length := by simp [M.text]
  have h3 : t.data.toList.length = t.size := by simp
  have h4 : (⟨(M.text t.data.toList).toArray⟩ : ByteArray).size = (M.text t.data.toList).length := by
    show (M.text t.data.toList).toArray.size = _
    simp
  refine ⟨⟨(M.text t.data.toList).toArray⟩, by omega, by omega, fun w => text_any t w ht, fun k hk w => ?_⟩
  have h5 : ((⟨(M.text t.data.toList).toArray⟩ : ByteArray).extract 0 k).data.toList = (M.text t.data.toList).take k := by
    rw [Lib.extract_data]; simp
  have h6 : ((⟨(M.text t.data.toList).toArray⟩ : ByteArray).extract 0 k).size ≤ 140737488351232 := by
    have : ((⟨(M.text t.data.toList).toArray⟩ : ByteArray).extract 0 k).data.toList.length = ((⟨(M.text t.data.toList).toArray⟩ : ByteArray).extract 0 k).size := by simp [h4]
    rw [h5, List.length_take] at this
    omega
  have h7 := takeText_any ((⟨(M.text t.data.toList).toArray⟩ : ByteArray).extract 0 k) w h6
  rw [h5, M.text_cut _ _ (by omega)] at h7
  exact h7

set_option maxRecDepth 100000 in
set_option maxHeartbeats 2000000 in
theorem packVery_walk (s t : ByteArray) (c : Nat) (w : World) (hs : s.size ≤ 35184372088832) (ht : t.size ≤ 35184372088832) (hc : c < 256) :
    Calls Try.prog 6 #[.string s, .string t, .int .u8 c] w fun e w' => e = .returned (.bool true) ∧ Below w.heap.size w w' := by
  have hl : s.size ≤ maxLen := by unfold maxLen; omega
  obtain ⟨a, b, c1, hn, an, bn, h1⟩ := tn_cases s
  obtain ⟨a2, b2, c2, hi, ai, ai', bi, h2⟩ := ti_cases s
  obtain ⟨a3, b3, c3, htt, at3, bt3, h3⟩ := tt_cases s
  obtain ⟨X, x2, xm, HX, HC⟩ := text_cases t ht
  have H1 := Lib.hid (fun w => by have := takeNum_any s w hl; rw [hn] at this; exact this)
  have H2 := Lib.hid (fun w => by have := takeInt_any s w hl; rw [hi] at this; exact this)
  have H3 := Lib.hid (fun w => by have := takeText_any s w (by omega); rw [htt] at this; exact this)
  have HX := Lib.hid HX
  have HC := Lib.hid (HC (c % X.size) (Nat.mod_lt _ (by omega)))
  have hlen := M.hiB_len 4 a
  have hlen8 := M.hiB_len 8 (up a2)
  have hlent : (M.text a3.data.toList).length ≤ 2 * a3.size + 2 := by have := M.text_len a3.data.toList; simp at this; exact this
  have hm0 : (0 : Int) ≤ (c : Int) % (X.size : Int) := Int.emod_nonneg _ (by omega)
  have hm1 : (c : Int) % (X.size : Int) ≤ (X.size : Int) := Int.le_of_lt (Int.emod_lt_of_pos _ (by omega))
  clear hn hi htt hl
  rcases h1 with rfl | ⟨rfl, e1⟩ <;> rcases h2 with rfl | ⟨rfl, e2⟩ <;> rcases h3 with rfl | ⟨rfl, e3⟩
  all_goals
    go_enter Try.func6, Try.ntmps6
    go_wp2_with fail
    refine (awake_any w).mono ?_
    rintro e w0 ⟨rfl, hb0⟩
    go_wp2_with fail
    refine (H1.out w0).mono ?_
    rintro e w1 ⟨rfl, hb1⟩
    go_wp2_with fail
    refine (H2.out w1).mono ?_
    rintro e w2 ⟨rfl, hb2⟩
    go_wp2_with fail
    refine (H3.out w2).mono ?_
    rintro e w3 ⟨rfl, hb3⟩
    have hb := below_two (below_two (below_two hb0 hb1) hb2) hb3
    clear hb0 hb1 hb2 hb3
    go_wp2_with (first
      | (go_at_call 10; ((with_reducible refine (num_any a _ an).mono ?_); rintro e w4 ⟨rfl, hbn⟩; have hb := below_two hb hbn))
      | (go_at_call 12; ((with_reducible refine (int_any a2 _ ai ai').mono ?_); rintro e w5 ⟨rfl, hbn⟩; have hb := below_two hb hbn))
      | (go_at_call_of 14 (Value.string a3); ((with_reducible refine (text_any a3 _ (by omega)).mono ?_); rintro e w6 ⟨rfl, hbn⟩; have hb := below_two hb hbn))
      | (go_at_call_of 14 (Value.string t); ((with_reducible refine (HX.out _).mono ?_); rintro e w7 ⟨rfl, hbn⟩; have hb := below_two hb hbn))
      | (go_at_call 20; ((with_reducible refine (HC.out _).mono ?_); rintro e w8 ⟨rfl, hbn⟩; have hb := below_two hb hbn)))
    go_ret
    exact ⟨rfl, hb⟩

end Go.Proofs.Ytkgdcomaphgjaaa
