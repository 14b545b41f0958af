/-
  The law PackTakes, walked: whatever the string, the program takes what the document takes.
-/
import Derived.Test.YtkgdcomaphgjaaaPackW8
namespace Go.Proofs.Ytkgdcomaphgjaaa
open Go.RowKit

theorem tnV_form (l : List UInt8) : ∃ (a : Int) (b : ByteArray) (c : Int), tnV l = .tuple #[.int .u32 a, .string b, .int .i64 c] := by
  unfold tnV; split <;> exact ⟨_, _, _, rfl⟩
theorem tiV_form (l : List UInt8) : ∃ (a : Int) (b : ByteArray) (c : Int), tiV l = .tuple #[.int .i64 a, .string b, .int .i64 c] := by
  unfold tiV; split <;> exact ⟨_, _, _, rfl⟩
theorem ttV_form (o : Option (List UInt8 × List UInt8)) : ∃ (a : ByteArray) (b : ByteArray) (c : Int), ttV o = .tuple #[.string a, .string b, .int .i64 c] := by
  unfold ttV; split <;> exact ⟨_, _, _, rfl⟩

set_option maxRecDepth 100000 in
set_option maxHeartbeats 1000000 in
theorem packTakes_walk (s : ByteArray) (w : World) (hs : s.size ≤ 140737488351232) :
    Calls Try.prog 4 #[.string s] w fun e w' => e = .returned (.bool true) ∧ Below w.heap.size w w' := by
  have hl : s.size ≤ maxLen := by unfold maxLen; omega
  obtain ⟨a, b, c, hn⟩ := tnV_form s.data.toList
  obtain ⟨a2, b2, c2, hi⟩ := tiV_form s.data.toList
  obtain ⟨a3, b3, c3, ht⟩ := ttV_form (M.ttake [] false s.data.toList)
  have H1 := Lib.hid (fun w => by have := takeNum_any s w hl; rw [hn] at this; exact this)
  have H2 := Lib.hid (fun w => by have := rtakeNum_any s w hl; rw [hn] at this; exact this)
  have H3 := Lib.hid (fun w => by have := takeInt_any s w hl; rw [hi] at this; exact this)
  have H4 := Lib.hid (fun w => by have := rtakeInt_any s w hl; rw [hi] at this; exact this)
  have H5 := Lib.hid (fun w => by have := takeText_any s w hs; rw [ht] at this; exact this)
  have H6 := Lib.hid (fun w => by have := rtakeText_any s w hs; rw [ht] at this; exact this)
  clear hn hi ht hl hs
  go_enter Try.func4, Try.ntmps4
  go_wp2_with fail
  refine (awake_any w).mono ?_
  rintro e w0 ⟨rfl, hb0⟩
  go_wp2_with fail
  refine (H1.out w0).mono ?_
  rintro e w1 ⟨rfl, hb1⟩
  go_wp2_with fail
  refine (H2.out w1).mono ?_
  rintro e w2 ⟨rfl, hb2⟩
  go_wp2_with fail
  refine (H3.out w2).mono ?_
  rintro e w3 ⟨rfl, hb3⟩
  go_wp2_with fail
  refine (H4.out w3).mono ?_
  rintro e w4 ⟨rfl, hb4⟩
  go_wp2_with fail
  refine (H5.out w4).mono ?_
  rintro e w5 ⟨rfl, hb5⟩
  go_wp2_with fail
  refine (H6.out w5).mono ?_
  rintro e w6 ⟨rfl, hb6⟩
  go_wp2_with fail
  go_ret
  exact ⟨rfl, below_two (below_two (below_two (below_two (below_two (below_two hb0 hb1) hb2) hb3) hb4) hb5) hb6⟩

end Go.Proofs.Ytkgdcomaphgjaaa
