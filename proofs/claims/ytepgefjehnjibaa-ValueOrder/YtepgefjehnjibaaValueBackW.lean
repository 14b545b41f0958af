/-
  The law ValueBack, walked: what may be is taken as it was put, whatever stands behind; what may not be isn't.
-/
import Derived.Test.YtepgefjehnjibaaValueVeryW
namespace Go.Proofs.Ytepgefjehnjibaa
open Go.RowKit

theorem put_size (t n : Int) (s : ByteArray) : (⟨(V.put t n s.data.toList).toArray⟩ : ByteArray).size ≤ 2 * s.size + 9 := by
  have hl := V.put_len (t := t) (n := n) (s := s.data.toList)
  show (V.put t n s.data.toList).toArray.size ≤ _
  simp at hl ⊢
  omega

theorem put_behind (t n : Int) (s y : ByteArray) : ((⟨(V.put t n s.data.toList).toArray⟩ : ByteArray) ++ y).data.toList = V.put t n s.data.toList ++ y.data.toList := by
  rw [Joins.data_append]

theorem ba_append_size (a b : ByteArray) : (a ++ b).size = a.size + b.size := by simp

set_option maxRecDepth 100000 in
set_option maxHeartbeats 1000000 in
theorem valueBack_walk (t n : Int) (s y : ByteArray) (w : World) (n0 : -9223372036854775808 ≤ n) (n1 : n ≤ 9223372036854775807) (hs : s.size ≤ 1048576) (hy : y.size ≤ 1048576) :
    Calls Try.prog 5 #[.agg #[.int .i64 t, .int .i64 n, .string s], .string y] w fun e w' => e = .returned (.bool true) ∧ Below w.heap.size w w' := by
  have Q := eql_val
  have Q' := neq_val
  have hXs := put_size t n s
  have hXb := put_behind t n s y
  have HP := Lib.hid (fun w => put_any t n s w n0 n1 (by omega))
  have HM := Lib.hid (fun w => may_any t n s w)
  obtain ⟨X, hX⟩ : ∃ X : ByteArray, X = ⟨(V.put t n s.data.toList).toArray⟩ := ⟨_, rfl⟩
  rw [← hX] at HP hXs hXb
  clear hX
  have hz := ba_append_size X y
  have HT := Lib.hid (fun w => take_any (X ++ y) w (by omega))
  rw [hXb] at HT
  have na : ¬ 9223372036854775807 < X.size + y.size := by omega
  have I0 := Kv.start w t n s
  cases hm : V.may t n s.data.toList
  · rw [hm] at HM
    obtain ⟨t', n', g, h, k, hf, hk⟩ := tk_form (V.take (V.put t n s.data.toList ++ y.data.toList))
    rw [hf] at HT
    have hks : k = 2 ∨ (k = 0 ∧ same t' n' g t n s = false) := by
      rcases hk with ⟨rfl, _⟩ | ⟨rfl, ht⟩
      · exact Or.inl rfl
      · refine Or.inr ⟨rfl, same_no ?_⟩
        rintro ⟨rfl, rfl, e⟩
        have := (V.take_may ht).1
        rw [e, hm] at this
        cases this
    clear hk hf hm hXb hz
    rcases hks with rfl | ⟨rfl, hsame⟩
    · go_enter Try.func5, Try.ntmps5
      go_wp2_with fail
      refine (awake_any _).mono ?_
      rintro e w1 ⟨rfl, hb⟩
      have I1 := I0.step hb
      clear I0 hb
      generalize w.heap.size = p at I1
      obtain ⟨_, pl, c0, c1, c2⟩ := id I1
      go_wp2_with fail
      refine (HP.out _).mono ?_
      rintro e w2 ⟨rfl, hb⟩
      have I2 := I1.step hb
      clear I1 hb c0 c1 c2 pl
      go_wp2_with fail
      refine (HT.out _).mono ?_
      rintro e w3 ⟨rfl, hb⟩
      have I3 := I2.step hb
      clear I2 hb
      have I4 := I3.alloc (.cells #[.int .i64 t', .int .i64 n', .string g] 23)
      obtain ⟨_, pl, c0, c1, c2⟩ := id I3
      go_wp2_with fail
      refine (HM.out _).mono ?_
      rintro e w4 ⟨rfl, hb⟩
      have I5 := I4.step hb
      clear I3 I4 hb
      go_wp2_with fail
      go_ret
      exact ⟨rfl, I5.bel⟩
    · go_enter Try.func5, Try.ntmps5
      go_wp2_with fail
      refine (awake_any _).mono ?_
      rintro e w1 ⟨rfl, hb⟩
      have I1 := I0.step hb
      clear I0 hb
      generalize w.heap.size = p at I1
      obtain ⟨_, pl, c0, c1, c2⟩ := id I1
      go_wp2_with fail
      refine (HP.out _).mono ?_
      rintro e w2 ⟨rfl, hb⟩
      have I2 := I1.step hb
      clear I1 hb c0 c1 c2 pl
      go_wp2_with fail
      refine (HT.out _).mono ?_
      rintro e w3 ⟨rfl, hb⟩
      have I3 := I2.step hb
      clear I2 hb
      have I4 := I3.alloc (.cells #[.int .i64 t', .int .i64 n', .string g] 23)
      have J4 := Kv.new I3.bel t' n' g
      obtain ⟨_, pl, c0, c1, c2⟩ := id I3
      go_wp2_with fail
      refine (HM.out _).mono ?_
      rintro e w4 ⟨rfl, hb⟩
      have I5 := I4.step hb
      have J5 := J4.step hb
      clear I3 I4 J4 hb c0 c1 c2 pl
      generalize w3.heap.size = q at J5
      obtain ⟨_, _, c0, c1, c2⟩ := id I5
      obtain ⟨_, _, d0, d1, d2⟩ := id J5
      go_wp2_with fail
      go_ret
      exact ⟨rfl, I5.bel⟩
  · rw [hm] at HM
    rw [V.take_put y.data.toList hm n0 n1, tkV, bytes_eta, bytes_eta] at HT
    clear hm hXb hz
    have hsame := same_self t n s
    go_enter Try.func5, Try.ntmps5
    go_wp2_with fail
    refine (awake_any _).mono ?_
    rintro e w1 ⟨rfl, hb⟩
    have I1 := I0.step hb
    clear I0 hb
    generalize w.heap.size = p at I1
    obtain ⟨_, pl, c0, c1, c2⟩ := id I1
    go_wp2_with fail
    refine (HP.out _).mono ?_
    rintro e w2 ⟨rfl, hb⟩
    have I2 := I1.step hb
    clear I1 hb c0 c1 c2 pl
    go_wp2_with fail
    refine (HT.out _).mono ?_
    rintro e w3 ⟨rfl, hb⟩
    have I3 := I2.step hb
    clear I2 hb
    have I4 := I3.alloc (.cells #[.int .i64 t, .int .i64 n, .string s] 23)
    have J4 := Kv.new I3.bel t n s
    obtain ⟨_, pl, c0, c1, c2⟩ := id I3
    go_wp2_with fail
    refine (HM.out _).mono ?_
    rintro e w4 ⟨rfl, hb⟩
    have I5 := I4.step hb
    have J5 := J4.step hb
    clear I3 I4 J4 hb c0 c1 c2 pl
    generalize w3.heap.size = q at J5
    obtain ⟨_, _, c0, c1, c2⟩ := id I5
    obtain ⟨_, _, d0, d1, d2⟩ := id J5
    go_wp2_with fail
    go_ret
    exact ⟨rfl, I5.bel⟩

end Go.Proofs.Ytepgefjehnjibaa
