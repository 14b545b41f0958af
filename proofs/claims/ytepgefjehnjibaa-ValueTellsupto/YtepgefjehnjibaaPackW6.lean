/-
  Walks of layer pack: the text with which a string begins, as the document takes it.
-/
import Derived.Test.YtepgefjehnjibaaPackW5
namespace Go.Proofs.Ytepgefjehnjibaa
open Go.RowKit

theorem neq_bool {c : UInt8} (n : Nat) (h : ((c.toNat : Int) == n) = true) : ((c.toNat : Int) != n) = false := by rw [bne, h]; rfl
theorem neq_bool' {c : UInt8} (n : Nat) (h : ((c.toNat : Int) == n) = false) : ((c.toNat : Int) != n) = true := by rw [bne, h]; rfl

set_option maxHeartbeats 1000000 in
theorem rtakeText_any (s : ByteArray) (w : World) (hs : s.size ≤ 140737488351232) :
    Calls Try.prog 30 #[.string s] w fun e w' => e = .returned (ttV (M.ttake [] false s.data.toList)) ∧ Below w.heap.size w w' := by
  obtain ⟨i0, hi, hz0, hz1, hz2⟩ := info_parts Try.info5
  obtain ⟨R, hR⟩ : ∃ R, R = M.ttake [] false s.data.toList := ⟨_, rfl⟩
  rw [← hR]
  have HR := Lib.hid hR
  clear hR
  go_enter Try.func30, Try.ntmps30
  go_wp2_with fail
  go_loopw [5, 6] (fun v i wr => ∃ (k : Nat) (acc : List UInt8), k ≤ s.size ∧ i = .int .i64 k ∧ acc.length ≤ k ∧ R = M.ttake acc false (s.data.toList.drop k) ∧ wr.ownsRow w.heap.size 5 1 v acc.length (bytesV acc) ∧ Below w.heap.size w wr) (fun _ i _ => s.size - (intOf i).toNat)
  case atStart => exact ⟨0, [], Nat.zero_le _, rfl, Nat.le_refl _, HR.out, World.ownsRow_nil _ _ _ _, Below.refl _ _⟩
  case round =>
    obtain ⟨k, acc, hk, rfl, hal, hT, hown, hb⟩ := hrel
    have HT := Lib.hid hT
    clear hT
    have hsz := hb.size
    by_cases hlt : k < s.size
    · have hdr := drop_cons s k hlt
      have HD := Lib.hid hdr
      clear hdr
      by_cases h1 : s[k].toNat = 0
      · have hcb : ((s[k].toNat : Int) == 0) = true := byte_bool 0 h1
        have hcn : ((s[k].toNat : Int) != 0) = false := neq_bool 0 hcb
        have hT1 : R = M.ttake acc true (s.data.toList.drop (k + 1)) := by rw [HT.out, HD.out, tt_mark h1]
        have HT1 := Lib.hid hT1
        clear hT1 h1
        by_cases hlt2 : k + 1 < s.size
        · have hdr2 := drop_cons s (k + 1) hlt2
          have HD2 := Lib.hid hdr2
          clear hdr2
          by_cases h2 : s[k + 1].toNat = 1
          · have hcb1 : ((s[k + 1].toNat : Int) == 1) = true := byte_bool 1 h2
            have hT2 : R = some (acc, s.data.toList.drop (k + 2)) := by rw [HT1.out, HD2.out, tt_over h2]
            have HT2 := Lib.hid hT2
            have hcv := conv_own hown.drew
            clear hT2 h2
            go_wp2_with fail
            have ew : IntKind.i64.wrap ((k : Int) + 2) = (k : Int) + 2 := IntWalk.i64_in _ (by omega)
            have e0 : (0 : Int) ≤ (k : Int) + 2 := by omega
            have e1 : (k : Int) + 2 ≤ (s.size : Int) := by omega
            have e2 : ((k : Int) + 2).toNat = k + 2 := by omega
            go_region
            all_goals (try go_wp2)
            all_goals go_ret3
            all_goals (refine ⟨?_, hb.drew⟩; rw [HT2.out, ttV, ← extract_end]; rfl)
          · have hcb1 : ((s[k + 1].toNat : Int) == 1) = false := byte_bool' 1 h2
            by_cases h3 : s[k + 1].toNat = 255
            · have hcb2 : ((s[k + 1].toNat : Int) == 255) = true := byte_bool 255 h3
              have hcn2 : ((s[k + 1].toNat : Int) != 255) = false := neq_bool 255 hcb2
              have hT2 : R = M.ttake (acc ++ [0]) false (s.data.toList.drop (k + 2)) := by rw [HT1.out, HD2.out, tt_zero h3]
              have HT2 := Lib.hid hT2
              clear hT2 h2 h3
              go_wp2_with (at_builtin; refine wpList_append_own _ rfl _ _ 40 rfl w.heap.size 5 i0 (.int .u8 0) 1 1 Try.underlying40 hi hz0 hz1 hz2 rfl (by decide) _ _ _ rfl (hown.alloc _) ⟨wr.heap.size, 0, none⟩ 1 1 [.int .u8 ((0 : UInt8).toNat : Int)] rfl rfl cell_new1 (by simp [Value.oneCell']) ?e3 ?e4 ?e5 ?_)
              case e3 => unfold maxLen; omega
              case e4 => omega
              case e5 => simp; omega
              intro v' w2 hown' hgrow' _
              have HN := Lib.hid (own_snoc (c := 0) hown')
              have HB := Lib.hid (below_grown hb (Nat.le_refl _) hown hgrow')
              clear hown' hgrow' hown hb
              go_wp2
              go_roundw
              case rel => exact ⟨k + 2, acc ++ [0], by omega, by go_num, by simp; omega, HT2.out, HN.out, HB.out⟩
              case measure => simp [intOf]; omega
            · have hcb2 : ((s[k + 1].toNat : Int) == 255) = false := byte_bool' 255 h3
              have hcn2 : ((s[k + 1].toNat : Int) != 255) = true := neq_bool' 255 hcb2
              have hT2 : R = none := by rw [HT1.out, HD2.out, tt_bad h2 h3]
              have HT2 := Lib.hid hT2
              clear hT2 h2 h3
              go_wp2
              go_ret3
              exact ⟨by rw [HT2.out]; rfl, hb⟩
        · have hT2 : R = none := by rw [HT1.out, tt_end hlt2]
          have HT2 := Lib.hid hT2
          clear hT2
          go_wp2
          go_ret3
          exact ⟨by rw [HT2.out]; rfl, hb⟩
      · have hcb : ((s[k].toNat : Int) == 0) = false := byte_bool' 0 h1
        have hcn : ((s[k].toNat : Int) != 0) = true := neq_bool' 0 hcb
        have hT2 : R = M.ttake (acc ++ [s[k]]) false (s.data.toList.drop (k + 1)) := by rw [HT.out, HD.out, tt_byte h1]
        have HT2 := Lib.hid hT2
        clear hT2 h1
        go_wp2_with (at_builtin; refine wpList_append_own _ rfl _ _ 40 rfl w.heap.size 5 i0 (.int .u8 0) 1 1 Try.underlying40 hi hz0 hz1 hz2 rfl (by decide) _ _ _ rfl (hown.alloc _) ⟨wr.heap.size, 0, none⟩ 1 1 [.int .u8 (s[k].toNat : Int)] rfl rfl cell_new1 (by simp [Value.oneCell']) ?c3 ?c4 ?c5 ?_)
        case c3 => unfold maxLen; omega
        case c4 => omega
        case c5 => simp; omega
        intro v' w2 hown' hgrow' _
        have HN := Lib.hid (own_snoc hown')
        have HB := Lib.hid (below_grown hb (Nat.le_refl _) hown hgrow')
        clear hown' hgrow' hown hb
        go_wp2
        go_roundw
        case rel => exact ⟨k + 1, acc ++ [s[k]], by omega, by go_num, by simp; omega, HT2.out, HN.out, HB.out⟩
        case measure => simp [intOf]; omega
    · have hRn : R = none := by rw [HT.out, tt_end hlt]
      have HRn := Lib.hid hRn
      clear hRn
      go_wp2
      go_ret3
      exact ⟨by rw [HRn.out]; rfl, hb⟩

end Go.Proofs.Ytepgefjehnjibaa
