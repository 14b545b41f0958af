/-
  Walks of layer value: the value with which a string begins, as the document has it: numbers and texts.
-/
import Derived.Test.YtepgefjehnjibaaValWA
namespace Go.Proofs.Ytepgefjehnjibaa
open Go.RowKit

set_option maxRecDepth 100000 in
set_option maxHeartbeats 2000000 in
theorem rtake_one (s : ByteArray) (r : List UInt8) (w : World) (h : s.data.toList = 1 :: r) (hs : s.size ≤ 140737488351232) (a : Int) (b : ByteArray) (k : Int) (hi : tiV r = .tuple #[.int .i64 a, .string b, .int .i64 k]) (hk : k = 2 ∨ k = 0) :
    Calls Try.prog 17 #[.string s] w fun e w' => e = .returned (if k = 2 then tkV none else tkB (V.may 1 a []) 1 a ⟨#[]⟩ b) ∧ Below w.heap.size w w' := by
  have hz := size_of h
  have h0 : 0 < s.size := by omega
  have HI := Lib.hid (fun w => by
    have := rtakeInt_any ⟨r.toArray⟩ w (by unfold maxLen; show r.toArray.size ≤ _; simp; omega)
    rw [show (⟨r.toArray⟩ : ByteArray).data.toList = r from rfl, hi] at this; exact this)
  clear hz hi
  have hf := first_at h h0
  have hx := rest_of h
  have hne : (s.toList == []) = false := by rw [ByteArray.toList_eq, h]; rfl
  have HM := Lib.hid (fun w => rmay_any 1 a ⟨#[]⟩ w)
  rw [show (⟨#[]⟩ : ByteArray).data.toList = [] from rfl] at HM
  have I0 := Tz.start w (.int .i64 1)
  rcases hk with rfl | rfl
  · rw [if_pos rfl]
    go_enter Try.func17, Try.ntmps17
    go_wp2_with fail
    refine (HI.out _).mono ?_
    rintro e w1 ⟨rfl, hb⟩
    have I1 := I0.step hb
    clear I0 hb
    generalize w.heap.size + 1 = q at I1
    generalize w.heap.size = p at I1
    have I2 := I1.set1 (.int .i64 a)
    obtain ⟨⟨_, p0, pl, c0, c1, c2, f0, f1, f2⟩, pq, q0, d0, d1, d2, g0, g1, g2⟩ := id I1
    have npq : ¬ p = q := by omega
    have nqp : ¬ q = p := by omega
    go_wp2_with fail
    obtain ⟨z0, z1, z2, zb⟩ := I2.tp.fin (.int .i64 0) (.int .i64 0) (.string ⟨#[]⟩)
    refine bodyPost_ret (results_val rfl _ _ p (.int .i64 0) (.int .i64 0) (.string ⟨#[]⟩) rfl z0 z1 z2) rfl ?_
    exact ⟨rfl, zb⟩
  · rw [if_neg (by decide)]
    cases hm : V.may 1 a []
    · rw [hm] at HM
      go_enter Try.func17, Try.ntmps17
      go_wp2_with fail
      refine (HI.out _).mono ?_
      rintro e w1 ⟨rfl, hb⟩
      have I1 := I0.step hb
      clear I0 hb
      generalize w.heap.size + 1 = q at I1
      generalize w.heap.size = p at I1
      have I2 := I1.set1 (.int .i64 a)
      obtain ⟨⟨_, p0, pl, c0, c1, c2, f0, f1, f2⟩, pq, q0, d0, d1, d2, g0, g1, g2⟩ := id I1
      have npq : ¬ p = q := by omega
      have nqp : ¬ q = p := by omega
      go_wp2_with fail
      refine (HM.out _).mono ?_
      rintro e w2 ⟨rfl, hb⟩
      have I3 := I2.step hb
      clear I1 I2 hb c0 c1 c2 f0 f1 f2 d0 d1 d2 g0 g1 g2
      obtain ⟨⟨_, _, pl, c0, c1, c2, f0, f1, f2⟩, _, q0, d0, d1, d2, g0, g1, g2⟩ := id I3
      go_wp2_with fail
      obtain ⟨z0, z1, z2, zb⟩ := I3.tp.fin (.int .i64 0) (.int .i64 0) (.string ⟨#[]⟩)
      refine bodyPost_ret (results_val rfl _ _ p (.int .i64 0) (.int .i64 0) (.string ⟨#[]⟩) rfl z0 z1 z2) rfl ?_
      exact ⟨rfl, zb⟩
    · rw [hm] at HM
      go_enter Try.func17, Try.ntmps17
      go_wp2_with fail
      refine (HI.out _).mono ?_
      rintro e w1 ⟨rfl, hb⟩
      have I1 := I0.step hb
      clear I0 hb
      generalize w.heap.size + 1 = q at I1
      generalize w.heap.size = p at I1
      have I2 := I1.set1 (.int .i64 a)
      obtain ⟨⟨_, p0, pl, c0, c1, c2, f0, f1, f2⟩, pq, q0, d0, d1, d2, g0, g1, g2⟩ := id I1
      have npq : ¬ p = q := by omega
      have nqp : ¬ q = p := by omega
      go_wp2_with fail
      refine (HM.out _).mono ?_
      rintro e w2 ⟨rfl, hb⟩
      have I3 := I2.step hb
      clear I1 I2 hb c0 c1 c2 f0 f1 f2 d0 d1 d2 g0 g1 g2
      obtain ⟨⟨_, _, pl, c0, c1, c2, f0, f1, f2⟩, _, q0, d0, d1, d2, g0, g1, g2⟩ := id I3
      go_wp2_with fail
      obtain ⟨z0, z1, z2, zb⟩ := I3.tp.fin (.int .i64 1) (.int .i64 a) (.string ⟨#[]⟩)
      refine bodyPost_ret (results_val rfl _ _ p (.int .i64 1) (.int .i64 a) (.string ⟨#[]⟩) rfl z0 z1 z2) rfl ?_
      exact ⟨rfl, zb⟩

set_option maxRecDepth 100000 in
set_option maxHeartbeats 2000000 in
theorem rtake_three (s : ByteArray) (r : List UInt8) (w : World) (h : s.data.toList = 3 :: r) (hs : s.size ≤ 140737488351232) (a : Int) (b : ByteArray) (k : Int) (hi : tiV r = .tuple #[.int .i64 a, .string b, .int .i64 k]) (hk : k = 2 ∨ k = 0) :
    Calls Try.prog 17 #[.string s] w fun e w' => e = .returned (if k = 2 then tkV none else tkB (V.may 3 a []) 3 a ⟨#[]⟩ b) ∧ Below w.heap.size w w' := by
  have hz := size_of h
  have h0 : 0 < s.size := by omega
  have HI := Lib.hid (fun w => by
    have := rtakeInt_any ⟨r.toArray⟩ w (by unfold maxLen; show r.toArray.size ≤ _; simp; omega)
    rw [show (⟨r.toArray⟩ : ByteArray).data.toList = r from rfl, hi] at this; exact this)
  clear hz hi
  have hf := first_at h h0
  have hx := rest_of h
  have hne : (s.toList == []) = false := by rw [ByteArray.toList_eq, h]; rfl
  have HM := Lib.hid (fun w => rmay_any 3 a ⟨#[]⟩ w)
  rw [show (⟨#[]⟩ : ByteArray).data.toList = [] from rfl] at HM
  have I0 := Tz.start w (.int .i64 3)
  rcases hk with rfl | rfl
  · rw [if_pos rfl]
    go_enter Try.func17, Try.ntmps17
    go_wp2_with fail
    refine (HI.out _).mono ?_
    rintro e w1 ⟨rfl, hb⟩
    have I1 := I0.step hb
    clear I0 hb
    generalize w.heap.size + 1 = q at I1
    generalize w.heap.size = p at I1
    have I2 := I1.set1 (.int .i64 a)
    obtain ⟨⟨_, p0, pl, c0, c1, c2, f0, f1, f2⟩, pq, q0, d0, d1, d2, g0, g1, g2⟩ := id I1
    have npq : ¬ p = q := by omega
    have nqp : ¬ q = p := by omega
    go_wp2_with fail
    obtain ⟨z0, z1, z2, zb⟩ := I2.tp.fin (.int .i64 0) (.int .i64 0) (.string ⟨#[]⟩)
    refine bodyPost_ret (results_val rfl _ _ p (.int .i64 0) (.int .i64 0) (.string ⟨#[]⟩) rfl z0 z1 z2) rfl ?_
    exact ⟨rfl, zb⟩
  · rw [if_neg (by decide)]
    cases hm : V.may 3 a []
    · rw [hm] at HM
      go_enter Try.func17, Try.ntmps17
      go_wp2_with fail
      refine (HI.out _).mono ?_
      rintro e w1 ⟨rfl, hb⟩
      have I1 := I0.step hb
      clear I0 hb
      generalize w.heap.size + 1 = q at I1
      generalize w.heap.size = p at I1
      have I2 := I1.set1 (.int .i64 a)
      obtain ⟨⟨_, p0, pl, c0, c1, c2, f0, f1, f2⟩, pq, q0, d0, d1, d2, g0, g1, g2⟩ := id I1
      have npq : ¬ p = q := by omega
      have nqp : ¬ q = p := by omega
      go_wp2_with fail
      refine (HM.out _).mono ?_
      rintro e w2 ⟨rfl, hb⟩
      have I3 := I2.step hb
      clear I1 I2 hb c0 c1 c2 f0 f1 f2 d0 d1 d2 g0 g1 g2
      obtain ⟨⟨_, _, pl, c0, c1, c2, f0, f1, f2⟩, _, q0, d0, d1, d2, g0, g1, g2⟩ := id I3
      go_wp2_with fail
      obtain ⟨z0, z1, z2, zb⟩ := I3.tp.fin (.int .i64 0) (.int .i64 0) (.string ⟨#[]⟩)
      refine bodyPost_ret (results_val rfl _ _ p (.int .i64 0) (.int .i64 0) (.string ⟨#[]⟩) rfl z0 z1 z2) rfl ?_
      exact ⟨rfl, zb⟩
    · rw [hm] at HM
      go_enter Try.func17, Try.ntmps17
      go_wp2_with fail
      refine (HI.out _).mono ?_
      rintro e w1 ⟨rfl, hb⟩
      have I1 := I0.step hb
      clear I0 hb
      generalize w.heap.size + 1 = q at I1
      generalize w.heap.size = p at I1
      have I2 := I1.set1 (.int .i64 a)
      obtain ⟨⟨_, p0, pl, c0, c1, c2, f0, f1, f2⟩, pq, q0, d0, d1, d2, g0, g1, g2⟩ := id I1
      have npq : ¬ p = q := by omega
      have nqp : ¬ q = p := by omega
      go_wp2_with fail
      refine (HM.out _).mono ?_
      rintro e w2 ⟨rfl, hb⟩
      have I3 := I2.step hb
      clear I1 I2 hb c0 c1 c2 f0 f1 f2 d0 d1 d2 g0 g1 g2
      obtain ⟨⟨_, _, pl, c0, c1, c2, f0, f1, f2⟩, _, q0, d0, d1, d2, g0, g1, g2⟩ := id I3
      go_wp2_with fail
      obtain ⟨z0, z1, z2, zb⟩ := I3.tp.fin (.int .i64 3) (.int .i64 a) (.string ⟨#[]⟩)
      refine bodyPost_ret (results_val rfl _ _ p (.int .i64 3) (.int .i64 a) (.string ⟨#[]⟩) rfl z0 z1 z2) rfl ?_
      exact ⟨rfl, zb⟩

set_option maxRecDepth 100000 in
set_option maxHeartbeats 2000000 in
theorem rtake_two (s : ByteArray) (r : List UInt8) (w : World) (h : s.data.toList = 2 :: r) (hs : s.size ≤ 140737488351232) (a b : ByteArray) (k : Int) (hi : ttV (M.ttake [] false r) = .tuple #[.string a, .string b, .int .i64 k]) (hk : k = 2 ∨ k = 0) :
    Calls Try.prog 17 #[.string s] w fun e w' => e = .returned (if k = 2 then tkV none else tkB (V.may 2 0 a.data.toList) 2 0 a b) ∧ Below w.heap.size w w' := by
  have hz := size_of h
  have h0 : 0 < s.size := by omega
  have HI := Lib.hid (fun w => by
    have := rtakeText_any ⟨r.toArray⟩ w (by show r.toArray.size ≤ _; simp; omega)
    rw [show (⟨r.toArray⟩ : ByteArray).data.toList = r from rfl, hi] at this; exact this)
  clear hz hi
  have hf := first_at h h0
  have hx := rest_of h
  have hne : (s.toList == []) = false := by rw [ByteArray.toList_eq, h]; rfl
  have HM := Lib.hid (fun w => rmay_any 2 0 a w)
  have I0 := Tz.start w (.int .i64 2)
  rcases hk with rfl | rfl
  · rw [if_pos rfl]
    go_enter Try.func17, Try.ntmps17
    go_wp2_with fail
    refine (HI.out _).mono ?_
    rintro e w1 ⟨rfl, hb⟩
    have I1 := I0.step hb
    clear I0 hb
    generalize w.heap.size + 1 = q at I1
    generalize w.heap.size = p at I1
    have I2 := I1.set2 (.string a)
    obtain ⟨⟨_, p0, pl, c0, c1, c2, f0, f1, f2⟩, pq, q0, d0, d1, d2, g0, g1, g2⟩ := id I1
    have npq : ¬ p = q := by omega
    have nqp : ¬ q = p := by omega
    go_wp2_with fail
    obtain ⟨z0, z1, z2, zb⟩ := I2.tp.fin (.int .i64 0) (.int .i64 0) (.string ⟨#[]⟩)
    refine bodyPost_ret (results_val rfl _ _ p (.int .i64 0) (.int .i64 0) (.string ⟨#[]⟩) rfl z0 z1 z2) rfl ?_
    exact ⟨rfl, zb⟩
  · rw [if_neg (by decide)]
    cases hm : V.may 2 0 a.data.toList
    · rw [hm] at HM
      go_enter Try.func17, Try.ntmps17
      go_wp2_with fail
      refine (HI.out _).mono ?_
      rintro e w1 ⟨rfl, hb⟩
      have I1 := I0.step hb
      clear I0 hb
      generalize w.heap.size + 1 = q at I1
      generalize w.heap.size = p at I1
      have I2 := I1.set2 (.string a)
      obtain ⟨⟨_, p0, pl, c0, c1, c2, f0, f1, f2⟩, pq, q0, d0, d1, d2, g0, g1, g2⟩ := id I1
      have npq : ¬ p = q := by omega
      have nqp : ¬ q = p := by omega
      go_wp2_with fail
      refine (HM.out _).mono ?_
      rintro e w2 ⟨rfl, hb⟩
      have I3 := I2.step hb
      clear I1 I2 hb c0 c1 c2 f0 f1 f2 d0 d1 d2 g0 g1 g2
      obtain ⟨⟨_, _, pl, c0, c1, c2, f0, f1, f2⟩, _, q0, d0, d1, d2, g0, g1, g2⟩ := id I3
      go_wp2_with fail
      obtain ⟨z0, z1, z2, zb⟩ := I3.tp.fin (.int .i64 0) (.int .i64 0) (.string ⟨#[]⟩)
      refine bodyPost_ret (results_val rfl _ _ p (.int .i64 0) (.int .i64 0) (.string ⟨#[]⟩) rfl z0 z1 z2) rfl ?_
      exact ⟨rfl, zb⟩
    · rw [hm] at HM
      go_enter Try.func17, Try.ntmps17
      go_wp2_with fail
      refine (HI.out _).mono ?_
      rintro e w1 ⟨rfl, hb⟩
      have I1 := I0.step hb
      clear I0 hb
      generalize w.heap.size + 1 = q at I1
      generalize w.heap.size = p at I1
      have I2 := I1.set2 (.string a)
      obtain ⟨⟨_, p0, pl, c0, c1, c2, f0, f1, f2⟩, pq, q0, d0, d1, d2, g0, g1, g2⟩ := id I1
      have npq : ¬ p = q := by omega
      have nqp : ¬ q = p := by omega
      go_wp2_with fail
      refine (HM.out _).mono ?_
      rintro e w2 ⟨rfl, hb⟩
      have I3 := I2.step hb
      clear I1 I2 hb c0 c1 c2 f0 f1 f2 d0 d1 d2 g0 g1 g2
      obtain ⟨⟨_, _, pl, c0, c1, c2, f0, f1, f2⟩, _, q0, d0, d1, d2, g0, g1, g2⟩ := id I3
      go_wp2_with fail
      obtain ⟨z0, z1, z2, zb⟩ := I3.tp.fin (.int .i64 2) (.int .i64 0) (.string a)
      refine bodyPost_ret (results_val rfl _ _ p (.int .i64 2) (.int .i64 0) (.string a) rfl z0 z1 z2) rfl ?_
      exact ⟨rfl, zb⟩

theorem tkB_take {l : List UInt8} {t n : Int} {g h : ByteArray} (hr : V.raw l = some (t, n, g.data.toList, h.data.toList)) : tkB (V.may t n g.data.toList) t n g h = tkV (V.take l) := by
  rw [tkB]
  cases hm : V.may t n g.data.toList
  · rw [show V.take l = none by simp only [V.take, hr, hm, Bool.false_eq_true, if_false]]
    rfl
  · rw [show V.take l = some (t, n, g.data.toList, h.data.toList) by simp only [V.take, hr, hm, if_true], tkV, bytes_eta, bytes_eta]
    rfl

theorem take_none {l : List UInt8} (hr : V.raw l = none) : V.take l = none := by rw [V.take, hr]

theorem rtake_any (s : ByteArray) (w : World) (hs : s.size ≤ 140737488351232) :
    Calls Try.prog 17 #[.string s] w fun e w' => e = .returned (tkV (V.take s.data.toList)) ∧ Below w.heap.size w w' := by
  rcases head_cases s with rfl | ⟨c, r, hc⟩
  · exact rtake_nil w
  · by_cases h1 : c.toNat = 1
    · obtain rfl : c = 1 := UInt8.toNat_inj.1 h1
      obtain ⟨a, b, k, hi, hk⟩ := ti_form r
      have H := rtake_one s r w hc hs a b k hi (by omega)
      rcases hk with ⟨rfl, hl⟩ | ⟨rfl, hl, ha, hb⟩
      · have hr : V.raw s.data.toList = none := by rw [hc, V.raw, if_pos (Or.inl rfl), if_pos hl]
        rw [take_none hr]
        exact H
      · have hr : V.raw s.data.toList = some (1, a, (⟨#[]⟩ : ByteArray).data.toList, b.data.toList) := by rw [hc, V.raw, if_pos (Or.inl rfl), if_neg hl, hb, ha]; rfl
        rw [← tkB_take hr]
        exact H
    · by_cases h3 : c.toNat = 3
      · obtain rfl : c = 3 := UInt8.toNat_inj.1 h3
        obtain ⟨a, b, k, hi, hk⟩ := ti_form r
        have H := rtake_three s r w hc hs a b k hi (by omega)
        rcases hk with ⟨rfl, hl⟩ | ⟨rfl, hl, ha, hb⟩
        · have hr : V.raw s.data.toList = none := by rw [hc, V.raw, if_pos (Or.inr rfl), if_pos hl]
          rw [take_none hr]
          exact H
        · have hr : V.raw s.data.toList = some (3, a, (⟨#[]⟩ : ByteArray).data.toList, b.data.toList) := by rw [hc, V.raw, if_pos (Or.inr rfl), if_neg hl, hb, ha]; rfl
          rw [← tkB_take hr]
          exact H
      · have hn : ¬ (c = 1 ∨ c = 3) := by
          rintro (e | e)
          · exact h1 (by rw [e]; rfl)
          · exact h3 (by rw [e]; rfl)
        by_cases h2 : c.toNat = 2
        · obtain rfl : c = 2 := UInt8.toNat_inj.1 h2
          obtain ⟨a, b, k, hi, hk⟩ := tt_form (M.ttake [] false r)
          have H := rtake_two s r w hc hs a b k hi (by omega)
          rcases hk with ⟨rfl, hl⟩ | ⟨rfl, hl⟩
          · have hr : V.raw s.data.toList = none := by rw [hc, V.raw, if_neg hn, if_pos rfl, hl]
            rw [take_none hr]
            exact H
          · have hr : V.raw s.data.toList = some (2, 0, a.data.toList, b.data.toList) := by rw [hc, V.raw, if_neg hn, if_pos rfl, hl]
            rw [← tkB_take hr]
            exact H
        · have H := rtake_other s c r w hc hs h1 h2 h3
          have hr : V.raw s.data.toList = some ((c.toNat : Int), 0, (⟨#[]⟩ : ByteArray).data.toList, (⟨r.toArray⟩ : ByteArray).data.toList) := by
            rw [hc, V.raw, if_neg hn, if_neg (fun e => h2 (by rw [e]; rfl))]
          rw [← tkB_take hr]
          exact H

end Go.Proofs.Ytepgefjehnjibaa
