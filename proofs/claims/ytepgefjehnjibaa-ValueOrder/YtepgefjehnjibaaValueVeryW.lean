/-
  The law ValueVery, walked: what is taken may be, and has the very bytes.
-/
import Derived.Test.YtepgefjehnjibaaValueTakesW
namespace Go.Proofs.Ytepgefjehnjibaa
open Go.RowKit

theorem ba_eq {a b : ByteArray} (h : a.data.toList = b.data.toList) : a = b := by
  cases a; cases b; simp at h; rw [h]

theorem take_bytes {s : ByteArray} {t n : Int} {g h : ByteArray} (e : V.take s.data.toList = some (t, n, g.data.toList, h.data.toList)) : (⟨(V.put t n g.data.toList).toArray⟩ : ByteArray) ++ h = s := by
  have h1 := V.take_very e
  apply ba_eq
  rw [Joins.data_append]
  exact h1

/-- what is taken is no more than there was -/
theorem take_small {s : ByteArray} {t n : Int} {g h : ByteArray} (e : V.take s.data.toList = some (t, n, g.data.toList, h.data.toList)) : g.size ≤ 16 ∧ h.size ≤ s.size ∧ -9223372036854775808 ≤ n ∧ n ≤ 9223372036854775807 := by
  obtain ⟨hm, hr⟩ := V.take_may e
  have hv := congrArg List.length (V.take_very e)
  simp at hv
  have hg : g.data.toList.length = g.size := by simp
  have hh : h.data.toList.length = h.size := by simp
  have hn : -9223372036854775808 ≤ n ∧ n ≤ 9223372036854775807 := by
    match l : s.data.toList, hr with
    | c :: r, hr =>
      simp only [V.raw] at hr
      by_cases h1 : c = 1 ∨ c = 3
      · rw [if_pos h1] at hr
        split at hr
        · cases hr
        · have := num_take8_lt r
          simp only [Option.some.injEq, Prod.mk.injEq] at hr
          omega
      · rw [if_neg h1] at hr
        split at hr
        · split at hr
          · simp only [Option.some.injEq, Prod.mk.injEq] at hr; omega
          · cases hr
        · simp only [Option.some.injEq, Prod.mk.injEq] at hr; omega
  refine ⟨?_, by omega, hn.1, hn.2⟩
  rcases V.may_form hm with ⟨_, _, h⟩ | ⟨_, h⟩ | ⟨_, _, h⟩ | ⟨_, _, h⟩
  · rw [← hg, h]; decide
  · rw [← hg, h]; decide
  · omega
  · rw [← hg, h]; decide

set_option maxRecDepth 100000 in
set_option maxHeartbeats 1000000 in
theorem valueVery_walk (s : ByteArray) (w : World) (hs : s.size ≤ 140737488351232) :
    Calls Try.prog 8 #[.string s] w fun e w' => e = .returned (.bool true) ∧ Below w.heap.size w w' := by
  obtain ⟨t, n, g, h, k, hf, hk⟩ := tk_form (V.take s.data.toList)
  have H1 := Lib.hid (fun w => by have := take_any s w hs; rw [hf] at this; exact this)
  have Q := eql_val
  rcases hk with ⟨rfl, _, rfl, rfl, rfl, rfl⟩ | ⟨rfl, ht⟩
  · clear hf
    have hsame := same_self 0 0 ⟨#[]⟩
    go_enter Try.func8, Try.ntmps8
    go_wp2_with fail
    refine (awake_any w).mono ?_
    rintro e w1 ⟨rfl, hb1⟩
    go_wp2_with fail
    refine (H1.out w1).mono ?_
    rintro e w2 ⟨rfl, hb⟩
    have A2 := Kv.new (below_two hb1 hb) 0 0 ⟨#[]⟩
    clear hb hb1
    go_wp2_with fail
    go_ret
    exact ⟨rfl, A2.bel⟩
  · obtain ⟨hg, hh, n0, n1⟩ := take_small ht
    have hm := (V.take_may ht).1
    have hbytes := take_bytes ht
    have HM := Lib.hid (fun w => by have := may_any t n g w; rw [hm] at this; exact this)
    have HP := Lib.hid (fun w => put_any t n g w n0 n1 (by omega))
    have hl := V.put_len (t := t) (n := n) (s := g.data.toList)
    have hgl : g.data.toList.length = g.size := by simp
    obtain ⟨X, hX⟩ : ∃ X : ByteArray, X = ⟨(V.put t n g.data.toList).toArray⟩ := ⟨_, rfl⟩
    have hXs : X.size ≤ 41 := by
      rw [hX]
      show (V.put t n g.data.toList).toArray.size ≤ 41
      simp at hl ⊢
      omega
    rw [← hX] at HP hbytes
    clear hX hl hgl hm ht hf hg n0 n1
    have na : ¬ 9223372036854775807 < X.size + h.size := by omega
    go_enter Try.func8, Try.ntmps8
    go_wp2_with fail
    refine (awake_any w).mono ?_
    rintro e w1 ⟨rfl, hb1⟩
    go_wp2_with fail
    refine (H1.out w1).mono ?_
    rintro e w2 ⟨rfl, hb⟩
    have A2 := Kv.new (below_two hb1 hb) t n g
    clear hb hb1
    go_wp2_with fail
    refine (HM.out _).mono ?_
    rintro e w3 ⟨rfl, hb⟩
    have A3 := A2.step hb
    clear A2 hb
    generalize w2.heap.size = p at A3
    obtain ⟨_, pl, c0, c1, c2⟩ := id A3
    go_wp2_with fail
    refine (HP.out _).mono ?_
    rintro e w4 ⟨rfl, hb⟩
    have A4 := A3.step hb
    clear A3 hb
    go_wp2_with fail
    go_ret
    exact ⟨rfl, A4.bel⟩

end Go.Proofs.Ytepgefjehnjibaa
