/-
  Walks of layer chain's laws' helpers: the document's example, do.
-/
import Derived.Test.YtgbicdaljnegfaaChLaw1
namespace Go.Proofs.Ytgbicdaljnegfaa.Cn
theorem read_len_le (c : Ch) (ts : Int) : (readC c ts).length = c.length := read_len c ts
theorem write_len_le (c : Ch) (ts : Int) (val : ByteArray) : (writeC c ts val).length ≤ c.length + 1 := by
  unfold writeC
  split
  · omega
  · split
    · omega
    · split
      · rw [List.length_set]; omega
      · simp only [List.length_append, List.length_take, List.length_cons, List.length_drop]
        omega
theorem abort_len_le (c : Ch) (ts : Int) : (abortC c ts).length ≤ c.length := by
  unfold abortC
  split
  · exact List.length_filter_le ..
  · omega
theorem deed_len_le (c : Ch) (kind ts : Int) (val : ByteArray) : (deed c kind ts val).length ≤ c.length + 1 := by
  unfold deed
  split
  · rw [read_len]; omega
  · split
    · exact write_len_le c ts val
    · split
      · rw [commit_len]; omega
      · split
        · have := abort_len_le c ts; omega
        · omega
end Go.Proofs.Ytgbicdaljnegfaa.Cn

namespace Go.Proofs.Ytgbicdaljnegfaa
open Go.RowKit

/-- a chain in memory, wherever -/
def Lc (w : World) (v : Value) (c : Cn.Ch) : Prop := ∃ F, SlC w F v c ∧ ∀ b, F b → b < w.heap.size

section
variable {w w' : World} {v : Value} {c : Cn.Ch}
theorem Lc.below (h : Lc w v c) (hb : Below w.heap.size w w') : Lc w' v c := by
  obtain ⟨F, hs, hF⟩ := h
  exact ⟨F, hs.below hb hF, fun b q => Nat.lt_of_lt_of_le (hF b q) hb.size⟩
theorem Lc.form (h : Lc w v c) : ∃ A cap, v = .slice A c.length cap ∧ c.length ≤ cap := by
  obtain ⟨F, hs, _⟩ := h
  exact SlC.form hs
theorem Lc.nth (h : Lc w v c) (i : Nat) (hi : i < c.length) : ∃ a cap, v = .slice (some a) c.length cap ∧ c.length ≤ cap ∧ a.block < w.heap.size ∧
    w.cell? (a.add (i * 4)) = some (.int .i64 c[i].ts) ∧ w.cell? ⟨(a.add (i * 4)).block, (a.add (i * 4)).off + 1, none⟩ = some (.int .i64 c[i].rd) ∧ w.cell? ⟨(a.add (i * 4)).block, (a.add (i * 4)).off + 2, none⟩ = some (.string c[i].val) ∧ w.cell? ⟨(a.add (i * 4)).block, (a.add (i * 4)).off + 3, none⟩ = some (.bool c[i].done) := by
  obtain ⟨F, hs, hF⟩ := h
  obtain ⟨a, cap, e, hc, hFa, x⟩ := SlC.nth hs i hi
  exact ⟨a, cap, e, hc, hF _ hFa, x⟩
theorem Lc.of_new (h : SlC w' (S.New w w') v c) : Lc w' v c := ⟨_, h, fun _ q => q.2⟩

theorem ChainOk.freshL (K : ChainOk) (w : World) : Calls Try.prog 25 #[] w fun e w' => ∃ v', e = .returned v' ∧ Lc w' v' Cn.fresh ∧ Below w.heap.size w w' :=
  (K.fresh w).mono (fun _ _ hh => by obtain ⟨v', e, hs, hb⟩ := hh; exact ⟨v', e, Lc.of_new hs, hb⟩)
theorem ChainOk.mayL (K : ChainOk) (h : Lc w v c) (hl : c.length ≤ 1000) : Calls Try.prog 15 #[v] w fun e w' => e = .returned (.bool (Cn.mayB c)) ∧ Below w.heap.size w w' := by
  obtain ⟨F, hs, hF⟩ := h
  exact K.may hs hF hl
theorem ChainOk.lookL (K : ChainOk) (h : Lc w v c) (hl : c.length ≤ 1000) (ts : Int) (t0 : -9223372036854775808 ≤ ts) (t1 : ts ≤ 9223372036854775807) : Calls Try.prog 17 #[v, .int .i64 ts] w fun e w' => e = .returned (.int .i64 (Cn.look c ts)) ∧ Below w.heap.size w w' := by
  obtain ⟨F, hs, hF⟩ := h
  exact K.look hs hF hl ts t0 t1
theorem lc_or {w w' : World} {F : Nat → Prop} {v : Value} {c : Cn.Ch} (h : SlC w' (fun b => F b ∨ S.New w w' b) v c) (hF : ∀ b, F b → b < w.heap.size) (hb : Below w.heap.size w w') : Lc w' v c :=
  ⟨_, h, fun b q => q.elim (fun q => Nat.lt_of_lt_of_le (hF b q) hb.size) (fun q => q.2)⟩
theorem ChainOk.readL (K : ChainOk) (h : Lc w v c) (hl : c.length ≤ 1000) (ts : Int) (t0 : -9223372036854775808 ≤ ts) (t1 : ts ≤ 9223372036854775807) : Calls Try.prog 11 #[v, .int .i64 ts] w fun e w' => ∃ v', e = .returned (.tuple #[v', verA (Cn.readV c ts)]) ∧ Lc w' v' (Cn.readC c ts) ∧ Below w.heap.size w w' := by
  obtain ⟨F, hs, hF⟩ := h
  exact (K.read hs hF hl ts t0 t1).mono (fun _ _ hh => by obtain ⟨v', e, hs, hb⟩ := hh; exact ⟨v', e, lc_or hs hF hb, hb⟩)
theorem ChainOk.writeL (K : ChainOk) (h : Lc w v c) (hl : c.length ≤ 1000) (ts : Int) (val : ByteArray) (t0 : -9223372036854775808 ≤ ts) (t1 : ts ≤ 9223372036854775807) : Calls Try.prog 13 #[v, .int .i64 ts, .string val] w fun e w' => ∃ v', e = .returned (.tuple #[v', .int .i64 (Cn.writeE c ts)]) ∧ Lc w' v' (Cn.writeC c ts val) ∧ Below w.heap.size w w' := by
  obtain ⟨F, hs, hF⟩ := h
  exact (K.write hs hF hl ts val t0 t1).mono (fun _ _ hh => by obtain ⟨v', e, hs, hb⟩ := hh; exact ⟨v', e, lc_or hs hF hb, hb⟩)
theorem ChainOk.commitL (K : ChainOk) (h : Lc w v c) (hl : c.length ≤ 1000) (ts : Int) (t0 : -9223372036854775808 ≤ ts) (t1 : ts ≤ 9223372036854775807) : Calls Try.prog 21 #[v, .int .i64 ts] w fun e w' => ∃ v', e = .returned v' ∧ Lc w' v' (Cn.commitC c ts) ∧ Below w.heap.size w w' := by
  obtain ⟨F, hs, hF⟩ := h
  exact (K.commit hs hF hl ts t0 t1).mono (fun _ _ hh => by obtain ⟨v', e, hs, hb⟩ := hh; exact ⟨v', e, lc_or hs hF hb, hb⟩)
theorem ChainOk.abortL (K : ChainOk) (h : Lc w v c) (hl : c.length ≤ 1000) (ts : Int) (t0 : -9223372036854775808 ≤ ts) (t1 : ts ≤ 9223372036854775807) : Calls Try.prog 23 #[v, .int .i64 ts] w fun e w' => ∃ v', e = .returned v' ∧ Lc w' v' (Cn.abortC c ts) ∧ Below w.heap.size w w' := by
  obtain ⟨F, hs, hF⟩ := h
  exact (K.abort hs hF hl ts t0 t1).mono (fun _ _ hh => by obtain ⟨v', e, hs, hb⟩ := hh; exact ⟨v', e, lc_or hs hF hb, hb⟩)
theorem realL (h : Lc w v c) (hl : c.length ≤ 1000000) : Calls Try.prog 20 #[v] w fun e w' => ∃ v', e = .returned v' ∧ Lc w' v' c ∧ Below w.heap.size w w' := by
  obtain ⟨F, hs, hF⟩ := h
  exact (real10_any hs hF hl).mono (fun _ _ hh => by obtain ⟨v', e, hs, hb⟩ := hh; exact ⟨v', e, Lc.of_new hs, hb⟩)
theorem sameL {va vb : Value} (ha : Lc w va c) (hb : Lc w vb c) (hl : c.length ≤ 1000000) : Calls Try.prog 19 #[va, vb] w fun e w' => e = .returned (.bool true) ∧ Below w.heap.size w w' := by
  obtain ⟨F, hs, hF⟩ := ha
  obtain ⟨G, hs', hG⟩ := hb
  exact (rsame10_any hs hs' hl).mono (fun _ _ hh => ⟨hh.1, hh.2.low⟩)
end

/-! ### the document's example -/

def ex1 : Cn.Ch := Cn.readC Cn.fresh 9
def ex2 : Cn.Ch := Cn.writeC ex1 12 ⟨#[121]⟩
theorem ex_facts : verA (Cn.readV Cn.fresh 9) = .agg #[.int .i64 0, .int .i64 9, .string ⟨#[]⟩, .bool true] ∧ ex1.length = 1 ∧ Cn.writeE ex1 5 = 8 ∧ Cn.writeE ex1 12 = 0 ∧ ex2.length = 2 ∧ Cn.look ex2 11 = 0 ∧ Cn.look ex2 12 = 1 ∧ Cn.mayB ex2 = true := by
  refine ⟨rfl, rfl, rfl, rfl, rfl, rfl, rfl, rfl⟩

set_option maxRecDepth 100000 in
set_option maxHeartbeats 4000000 in
theorem awake10_any (K : ChainOk) (w : World) : Calls Try.prog 9 #[] w fun e w' => e = .returned (.bool true) ∧ Below w.heap.size w w' := by
  obtain ⟨x1, x2, x3, x4, x5, x6, x7, x8⟩ := ex_facts
  have H0 := Lib.hid (K.freshL w)
  have H1 : Hid (∀ W v, Lc W v Cn.fresh → Calls Try.prog 11 #[v, .int .i64 9] W fun e w' => ∃ v', e = .returned (.tuple #[v', .agg #[.int .i64 0, .int .i64 9, .string ⟨#[]⟩, .bool true]]) ∧ Lc w' v' ex1 ∧ Below W.heap.size W w') := Lib.hid (fun W v h => by
    have := K.readL h (by decide) 9 (by decide) (by decide)
    rw [x1] at this
    exact this)
  have H2 : Hid (∀ W v, Lc W v ex1 → Calls Try.prog 13 #[v, .int .i64 5, .string ⟨#[120]⟩] W fun e w' => ∃ v', e = .returned (.tuple #[v', .int .i64 8]) ∧ Below W.heap.size W w') := Lib.hid (fun W v h => by
    have := K.writeL h (by rw [x2]; decide) 5 ⟨#[120]⟩ (by decide) (by decide)
    rw [x3] at this
    exact this.mono (fun _ _ hh => by obtain ⟨v', e, _, hb⟩ := hh; exact ⟨v', e, hb⟩))
  have H3 : Hid (∀ W v, Lc W v ex1 → Calls Try.prog 13 #[v, .int .i64 12, .string ⟨#[121]⟩] W fun e w' => ∃ A cap, e = .returned (.tuple #[.slice A 2 cap, .int .i64 0]) ∧ Lc w' (.slice A 2 cap) ex2 ∧ Below W.heap.size W w') := Lib.hid (fun W v h => by
    have := K.writeL h (by rw [x2]; decide) 12 ⟨#[121]⟩ (by decide) (by decide)
    rw [x4] at this
    exact this.mono (fun _ _ hh => by
      obtain ⟨v', e, hs, hb⟩ := hh
      obtain ⟨A, cap, rfl, _⟩ := Lc.form (c := ex2) hs
      rw [x5] at e hs
      exact ⟨A, cap, e, hs, hb⟩))
  have H4 : Hid (∀ W v, Lc W v ex2 → Calls Try.prog 17 #[v, .int .i64 11] W fun e w' => e = .returned (.int .i64 0) ∧ Below W.heap.size W w') := Lib.hid (fun W v h => by
    have := K.lookL h (by rw [x5]; decide) 11 (by decide) (by decide)
    rw [x6] at this
    exact this)
  have H5 : Hid (∀ W v, Lc W v ex2 → Calls Try.prog 17 #[v, .int .i64 12] W fun e w' => e = .returned (.int .i64 1) ∧ Below W.heap.size W w') := Lib.hid (fun W v h => by
    have := K.lookL h (by rw [x5]; decide) 12 (by decide) (by decide)
    rw [x7] at this
    exact this)
  have H6 : Hid (∀ W v, Lc W v ex2 → Calls Try.prog 15 #[v] W fun e w' => e = .returned (.bool true) ∧ Below W.heap.size W w') := Lib.hid (fun W v h => by
    have := K.mayL h (by rw [x5]; decide)
    rw [x8] at this
    exact this)
  clear x1 x2 x3 x4 x5 x6 x7 x8
  go_enter Try.func9, Try.ntmps9
  go_wp2_with (first
    | (go_at_call 25; refine H0.out.mono ?_; rintro e w1 ⟨v1, rfl, hs1, b1⟩; have L1 := Lib.hid hs1; have B1 := Lib.hid b1; clear hs1 b1)
    | (go_at_call 11; refine (H1.out _ _ L1.out).mono ?_; rintro e w2 ⟨v2, rfl, hs2, b2⟩; have L2 := Lib.hid (hs2.below ((Below.refl w2.heap.size w2).alloc (Nat.le_refl _) (.cells #[.int .i64 0, .int .i64 9, .string ⟨#[]⟩, .bool true] 27))); have X2 := Lib.hid (Bk.new w2 [.int .i64 0, .int .i64 9, .string ⟨#[]⟩, .bool true] 27 rfl); have B2 := Lib.hid ((below_two B1.out b2).alloc (below_two B1.out b2).size (.cells #[.int .i64 0, .int .i64 9, .string ⟨#[]⟩, .bool true] 27)); clear hs2 b2)
    | (go_at_call 13; with_reducible refine (H2.out _ _ L2.out).mono ?_; rintro e w3 ⟨v3, rfl, b3⟩; have L3 := Lib.hid (L2.out.below b3); have X3 := Lib.hid (X2.out.step b3); have B3 := Lib.hid (below_two B2.out b3); clear b3)
    | (go_at_call 13; with_reducible refine (H3.out _ _ L3.out).mono ?_; rintro e w4 ⟨A4, c4, rfl, hs4, b4⟩; have L4 := Lib.hid hs4; have X4 := Lib.hid (X3.out.step b4); have x3 := X4.out.cell 3 _ rfl; have x2 := X4.out.cell 2 _ rfl; have B4 := Lib.hid (below_two B3.out b4); clear b4 hs4)
    | (go_at_call 17; with_reducible refine (H4.out _ _ L4.out).mono ?_; rintro e w5 ⟨rfl, b5⟩; have L5 := Lib.hid (L4.out.below b5); have B5 := Lib.hid (below_two B4.out b5); clear b5)
    | (go_at_call 17; with_reducible refine (H5.out _ _ L5.out).mono ?_; rintro e w6 ⟨rfl, b6⟩; have L6 := Lib.hid (L5.out.below b6); have B6 := Lib.hid (below_two B5.out b6); clear b6)
    | (go_at_call 15; refine (H6.out _ _ L6.out).mono ?_; rintro e w7 ⟨rfl, b7⟩; have B7 := Lib.hid (below_two B6.out b7); clear b7))
  go_ret
  exact ⟨rfl, B7.out⟩

/-! ### do -/

set_option maxRecDepth 100000 in
set_option maxHeartbeats 4000000 in
theorem do10_any (K : ChainOk) {w : World} {v : Value} {c : Cn.Ch} (h : Lc w v c) (hl : c.length ≤ 1000) (kind ts : Int) (val : ByteArray) (t0 : -9223372036854775808 ≤ ts) (t1 : ts ≤ 9223372036854775807) :
    Calls Try.prog 26 #[v, .agg #[.int .i64 kind, .int .i64 ts, .string val]] w fun e w' => ∃ v', e = .returned v' ∧ Lc w' v' (Cn.deed c kind ts val) ∧ Below w.heap.size w w' := by
  obtain ⟨A, cap, rfl, hcap⟩ := Lc.form h
  have hb1 : Below w.heap.size w (w.alloc (.cells #[.int .i64 kind, .int .i64 ts, .string val] 51)) := (Below.refl _ _).alloc (Nat.le_refl _) _
  have HB1 := Lib.hid hb1
  have HL1 := Lib.hid (h.below hb1)
  clear h hb1
  by_cases e1 : kind = 1
  · subst e1
    have HD : Hid (Cn.deed c 1 ts val = Cn.readC c ts) := Lib.hid (by unfold Cn.deed; rw [if_pos rfl])
    have H1 := Lib.hid (K.readL HL1.out hl ts t0 t1)
    unfold verA at H1
    go_enter Try.func26, Try.ntmps26
    go_wp2_with (first
      | (go_at_call 11; refine H1.out.mono ?_; rintro e w2 ⟨v2, rfl, hs2, b2⟩))
    go_ret
    have hb : Below w2.heap.size w2 (w2.alloc (.cells #[.int .i64 (Cn.readV c ts).ts, .int .i64 (Cn.readV c ts).rd, .string (Cn.readV c ts).val, .bool (Cn.readV c ts).done] 27)) := (Below.refl _ _).alloc (Nat.le_refl _) _
    exact ⟨_, rfl, by rw [HD.out]; exact hs2.below hb, below_two (below_two HB1.out b2) hb⟩
  · have f1 : (kind == 1) = false := by simpa using e1
    by_cases e2 : kind = 2
    · subst e2
      have HD : Hid (Cn.deed c 2 ts val = Cn.writeC c ts val) := Lib.hid (by unfold Cn.deed; rw [if_neg (by decide), if_pos rfl])
      have H1 := Lib.hid (K.writeL HL1.out hl ts val t0 t1)
      clear e1 f1
      go_enter Try.func26, Try.ntmps26
      go_wp2_with (first
        | (go_at_call 13; refine H1.out.mono ?_; rintro e w2 ⟨v2, rfl, hs2, b2⟩))
      go_ret
      exact ⟨_, rfl, by rw [HD.out]; exact hs2, below_two HB1.out b2⟩
    · have f2 : (kind == 2) = false := by simpa using e2
      by_cases e3 : kind = 3
      · subst e3
        have HD : Hid (Cn.deed c 3 ts val = Cn.commitC c ts) := Lib.hid (by unfold Cn.deed; rw [if_neg (by decide), if_neg (by decide), if_pos rfl])
        have H1 := Lib.hid (K.commitL HL1.out hl ts t0 t1)
        clear e1 f1 e2 f2
        go_enter Try.func26, Try.ntmps26
        go_wp2_with (first
          | (go_at_call 21; refine H1.out.mono ?_; rintro e w2 ⟨v2, rfl, hs2, b2⟩))
        go_ret
        exact ⟨_, rfl, by rw [HD.out]; exact hs2, below_two HB1.out b2⟩
      · have f3 : (kind == 3) = false := by simpa using e3
        by_cases e4 : kind = 4
        · subst e4
          have HD : Hid (Cn.deed c 4 ts val = Cn.abortC c ts) := Lib.hid (by unfold Cn.deed; rw [if_neg (by decide), if_neg (by decide), if_neg (by decide), if_pos rfl])
          have H1 := Lib.hid (K.abortL HL1.out hl ts t0 t1)
          clear e1 f1 e2 f2 e3 f3
          go_enter Try.func26, Try.ntmps26
          go_wp2_with (first
            | (go_at_call 23; refine H1.out.mono ?_; rintro e w2 ⟨v2, rfl, hs2, b2⟩))
          go_ret
          exact ⟨_, rfl, by rw [HD.out]; exact hs2, below_two HB1.out b2⟩
        · have f4 : (kind == 4) = false := by simpa using e4
          have HD : Hid (Cn.deed c kind ts val = c) := Lib.hid (by unfold Cn.deed; rw [if_neg e1, if_neg e2, if_neg e3, if_neg e4])
          clear e1 e2 e3 e4
          go_enter Try.func26, Try.ntmps26
          go_wp2
          go_ret
          exact ⟨_, rfl, by rw [HD.out]; exact HL1.out, HB1.out⟩

end Go.Proofs.Ytgbicdaljnegfaa
