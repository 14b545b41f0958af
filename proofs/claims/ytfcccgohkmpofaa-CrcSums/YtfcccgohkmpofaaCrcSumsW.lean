/-
  The law CrcSums, walked: any bytes' sum, and more behind any sum; any number of the table.
-/
import Derived.Test.YtfcccgohkmpofaaCrcW4
import Derived.Deep.RegionHeld3
namespace Go.Proofs.Ytfcccgohkmpofaa
open Go.RowKit

set_option maxRecDepth 1000000 in
set_option maxHeartbeats 1000000 in
theorem crcSums_walk (v : Value) (l : List UInt8) (c n : Nat) (w : World) (h : Sl w w.heap.size v l) (hl : l.length ≤ maxLen) (hc : c < 4294967296) (hn : n < 256) :
    Calls Try.prog 3 #[v, .int .u32 c, .int .u8 n] w fun e w' => e = .returned (.bool true) ∧ Below w.heap.size w w' := by
  have HS := Lib.hid h
  have HL := Lib.hid hl
  unfold maxLen at hl
  obtain ⟨A, cap, rfl, hcap, _⟩ := h
  have hix := index_tab .u8 n hn
  have hnw : IntKind.i64.wrap (n : Int) = n := IntWalk.i64_in _ (by omega)
  by_cases hlen : 20000 < l.length
  · go_enter Try.func3, Try.ntmps3
    go_wp2_with fail
    refine (awake_any _).mono ?_
    rintro e w1 ⟨rfl, hb1⟩
    go_wp2
    go_ret
    exact ⟨rfl, hb1⟩
  · have hld : decide ((20000 : Int) < (l.length : Int)) = false := decide_eq_false (by omega)
    go_enter Try.func3, Try.ntmps3
    go_wp2_with fail
    refine (awake_any _).mono ?_
    rintro e w1 ⟨rfl, hb1⟩
    go_wp2_with fail
    go_region_held3 (fun _ => True) (go_keep)
      (first | (go_at_call 10; refine (of_any _ l _ w.heap.size hb1.drew.size (HS.out.below hb1.drew) HL.out).mono ?_; rintro e w2 ⟨rfl, hbn⟩; have hb2 := hb1.drew.trans (hbn.mono hb1.drew.size))
             | (go_at_call 11; refine (refOf_any _ l _ w.heap.size (HS.out.below hb2) HL.out).mono ?_; rintro e w3 ⟨rfl, rfl⟩)
             | (go_at_call 12; refine (more_any c _ l _ w.heap.size hb2.size (HS.out.below hb2) hc HL.out).mono ?_; rintro e w4 ⟨rfl, hbn⟩; have hb4 := hb2.trans (hbn.mono hb2.size))
             | (go_at_call 13; refine (refMore_any c _ l _ w.heap.size (HS.out.below hb4) hc HL.out).mono ?_; rintro e w5 ⟨rfl, rfl⟩)
             | (go_at_call 14; refine (table_any _).mono ?_; rintro e w6 ⟨rfl, hbn⟩; have hb6 := hb4.trans (hbn.mono hb4.size))
             | (go_at_call 15; refine (refEntry_any n _ hn).mono ?_; rintro e w7 ⟨rfl, rfl⟩))
    all_goals (try go_wp2)
    all_goals go_ret
    all_goals exact ⟨rfl, hb6⟩

end Go.Proofs.Ytfcccgohkmpofaa
