/-
  Walks of the document's ring: may there be such a ring?
-/
import Derived.Test.YtfpojbnidoeohaaRgRef1
namespace Go.Proofs.Ytfpojbnidoeohaa
open Go.RowKit

/-- may there be a ring of these numbers, on a disk of n sectors? -/
def mayB (n : Nat) (first many : Int) (low next : Nat) : Bool := decide (0 ≤ first ∧ 1 ≤ many ∧ first + many ≤ n ∧ low ≤ next ∧ (next : Int) ≤ low + many ∧ next ≤ 1073741824)

theorem mayB_of {n : Nat} {first many : Int} {low next : Nat} (h : mayB n first many low next = true) : 0 ≤ first ∧ 1 ≤ many ∧ first + many ≤ n ∧ low ≤ next ∧ (next : Int) ≤ low + many ∧ next ≤ 1073741824 := of_decide_eq_true h

set_option maxRecDepth 100000 in
set_option maxHeartbeats 2000000 in
theorem rmay_any (w : World) (A B C : Option Addr) (n a m b k c : Nat) (first many : Int) (epoch low next : Nat) (hn : n ≤ 1024)
    (hf0 : -9223372036854775808 ≤ first) (hf1 : first ≤ 9223372036854775807) (hm0 : -9223372036854775808 ≤ many) (hm1 : many ≤ 9223372036854775807) (hl : low < 4294967296) (hx : next < 4294967296) :
    Calls Try.prog 13 #[.agg #[.slice A n a, .slice B m b, .slice C k c, .int .i64 first, .int .i64 many, .int .u32 (epoch : Int), .int .u32 (low : Int), .int .u32 (next : Int)]] w fun e w' => e = .returned (.bool (mayB n first many low next)) ∧ Below w.heap.size w w' := by
  have hb : Below w.heap.size w (w.alloc (.cells #[.slice A n a, .slice B m b, .slice C k c, .int .i64 first, .int .i64 many, .int .u32 (epoch : Int), .int .u32 (low : Int), .int .u32 (next : Int)] 39)) := (Below.refl _ _).alloc (Nat.le_refl _) _
  have hc : first < 0 ∨ (¬ first < 0 ∧ many < 1) ∨ (¬ first < 0 ∧ ¬ many < 1 ∧ 1024 < many) ∨ (¬ first < 0 ∧ ¬ many < 1 ∧ ¬ 1024 < many ∧ 1024 < first) ∨ (¬ first < 0 ∧ ¬ many < 1 ∧ ¬ 1024 < many ∧ ¬ 1024 < first ∧ (n : Int) < first + many) ∨ (¬ first < 0 ∧ ¬ many < 1 ∧ ¬ 1024 < many ∧ ¬ 1024 < first ∧ ¬ (n : Int) < first + many) := by omega
  rcases hc with h1 | ⟨h1, h2⟩ | ⟨h1, h2, h3⟩ | ⟨h1, h2, h3, h4⟩ | ⟨h1, h2, h3, h4, h5⟩ | ⟨h1, h2, h3, h4, h5⟩
  · have HR := Lib.hid (show mayB n first many low next = false from decide_eq_false (by omega))
    go_enter Try.func13, Try.ntmps13
    go_wp2
    go_ret
    exact ⟨ret_v (by rw [HR.out]; rfl), hb⟩
  · have HR := Lib.hid (show mayB n first many low next = false from decide_eq_false (by omega))
    go_enter Try.func13, Try.ntmps13
    go_wp2
    go_ret
    exact ⟨ret_v (by rw [HR.out]; rfl), hb⟩
  · have HR := Lib.hid (show mayB n first many low next = false from decide_eq_false (by omega))
    go_enter Try.func13, Try.ntmps13
    go_wp2
    go_ret
    exact ⟨ret_v (by rw [HR.out]; rfl), hb⟩
  · have HR := Lib.hid (show mayB n first many low next = false from decide_eq_false (by omega))
    go_enter Try.func13, Try.ntmps13
    go_wp2
    go_ret
    exact ⟨ret_v (by rw [HR.out]; rfl), hb⟩
  · have HR := Lib.hid (show mayB n first many low next = false from decide_eq_false (by omega))
    go_enter Try.func13, Try.ntmps13
    go_wp2
    go_ret
    exact ⟨ret_v (by rw [HR.out]; rfl), hb⟩
  · by_cases h6 : low ≤ next
    · have h6' : (low : Int) ≤ (next : Int) := by omega
      by_cases h7 : (next : Int) - (low : Int) ≤ many
      · have HR := Lib.hid (show mayB n first many low next = decide ((next : Int) ≤ 1073741824) by unfold mayB; rw [decide_eq_decide]; omega)
        go_enter Try.func13, Try.ntmps13
        go_wp2
        go_ret
        exact ⟨ret_v (by rw [HR.out]; rfl), hb⟩
      · have HR := Lib.hid (show mayB n first many low next = false from decide_eq_false (by omega))
        go_enter Try.func13, Try.ntmps13
        go_wp2
        go_ret
        exact ⟨ret_v (by rw [HR.out]; rfl), hb⟩
    · have h6' : ¬ (low : Int) ≤ (next : Int) := by omega
      have HR := Lib.hid (show mayB n first many low next = false from decide_eq_false (by omega))
      go_enter Try.func13, Try.ntmps13
      go_wp2
      go_ret
      exact ⟨ret_v (by rw [HR.out]; rfl), hb⟩

end Go.Proofs.Ytfpojbnidoeohaa
