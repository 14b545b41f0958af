/-
  Numbers as four bytes, as the program has them: told and taken.
-/
import Derived.Test.YtfpojbnidoeohaaPkRef
import Derived.OwnWalk
namespace Go.Proofs.Ytfpojbnidoeohaa
open Go.RowKit

theorem or8 (n c : Nat) (hn : n < 72057594037927936) (hc : c < 256) : bits .or .u64 ((n : Int) * 256) (c : Int) = ((256 * n + c : Nat) : Int) := by
  rw [show ((n : Int) * 256) = ((n * 256 : Nat) : Int) by simp, u64_or_nat _ _ (by omega) (by omega), nat_join 8 (n * 256) c (by omega) (by omega), Nat.mul_comm]

theorem takeHF_no (s : ByteArray) (m : Nat) (w : World) (_hm : m ≤ 8) (hs : s.size < m) :
    Calls Try.prog 50 #[.string s, .int .i64 m] w fun e w' => e = .returned (.tuple #[.int .u64 0, .string ⟨#[]⟩, .int .i64 2]) ∧ w = w' := by
  go_enter Try.func50, Try.ntmps50
  go_wp2
  go_ret3
  exact ⟨rfl, rfl⟩

set_option maxHeartbeats 400000 in
theorem takeHF_yes (s : ByteArray) (m : Nat) (w : World) (hm : m ≤ 8) (hs : m ≤ s.size) (hl : s.size ≤ maxLen) :
    Calls Try.prog 50 #[.string s, .int .i64 m] w fun e w' => e = .returned (.tuple #[.int .u64 (M.num (s.data.toList.take m) : Nat), .string (s.extract m s.size), .int .i64 0]) ∧ Below w.heap.size w w' := by
  unfold maxLen at hl
  go_enter Try.func50, Try.ntmps50
  go_wp2
  go_loop [7, 14] (fun n i => ∃ k : Nat, k ≤ m ∧ i = .int .i64 k ∧ n = .int .u64 (M.num (s.data.toList.take k) : Nat)) (fun _ i => m - (intOf i).toNat)
  case atStart => exact ⟨0, Nat.zero_le _, rfl, rfl⟩
  case round =>
    obtain ⟨k, hk, rfl, rfl⟩ := hrel
    by_cases hlt : k < m
    · have hks : k < s.size := by omega
      have hb := num_take_lt s k (by omega)
      have hc := s[k].toNat_lt
      have HS := Lib.hid (num_take_succ s k hks)
      have ho := or8 _ _ hb hc
      go_wp2
      go_round
      case rel => exact ⟨k + 1, by omega, by go_num, by rw [HS.out]; go_num⟩
      case measure => simp [intOf]; omega
    · obtain rfl : k = m := by omega
      go_wp2
      go_region
      all_goals (try go_wp2)
      all_goals go_ret3
      all_goals exact ⟨rfl, (Below.refl _ _).drew⟩

theorem Try.info5 : (Try.prog.info? 5).map (fun i => (i.zero, i.size, i.bytes)) = some (some (.int .u8 0), 1, 1) := by kernel_rfl

/-- what the slice holds behind k rounds -/
def hfAt (m n k : Nat) : List UInt8 := List.replicate (m - k) 0 ++ M.hiB k n

theorem hfAt_length {m n k : Nat} (h : k ≤ m) : (hfAt m n k).length = m := by simp [hfAt, M.hiB_len]; omega

theorem hfAt_set {m n k : Nat} (h : k < m) : (hfAt m n k).set (m - 1 - k) (UInt8.ofNat (n / 256 ^ k % 256)) = hfAt m n (k + 1) := by
  obtain ⟨d, rfl⟩ : ∃ d, m = k + 1 + d := ⟨m - (k + 1), by omega⟩
  have e1 : k + 1 + d - 1 - k = d := by omega
  have e2 : k + 1 + d - k = d + 1 := by omega
  have e3 : k + 1 + d - (k + 1) = d := by omega
  rw [hfAt, hfAt, e1, e2, e3, M.hiB_cons, List.set_append_left _ _ (by simp), List.replicate_succ', List.set_append_right _ _ (by simp)]
  simp

theorem hf_step {w : World} {B m n k q : Nat} {v : Value} (h : k < m) (hq : q = n / 256 ^ k)
    (hown : w.ownsRow B 5 1 v m ((bytesV (hfAt m n k)).set (m - 1 - k) (.int .u8 ((q : Int) % 256)))) :
    w.ownsRow B 5 1 v m (bytesV (hfAt m n (k + 1))) := by
  rw [← hfAt_set h]
  have e : bytesV ((hfAt m n k).set (m - 1 - k) (UInt8.ofNat (n / 256 ^ k % 256))) = (bytesV (hfAt m n k)).set (m - 1 - k) (.int .u8 ((q : Int) % 256)) := by
    rw [bytesV, List.map_set]
    subst hq
    congr 1
    simp
  rw [e]; exact hown

set_option maxHeartbeats 400000 in
theorem highestFirst_any (n m : Nat) (w : World) (_hn : n < 18446744073709551616) (hm : m ≤ 8) :
    Calls Try.prog 56 #[.int .u64 n, .int .i64 m] w fun e w' => e = .returned (.string ⟨(M.hiB m n).toArray⟩) ∧ Below w.heap.size w w' := by
  obtain ⟨i0, hi, hz0, hz1, hz2⟩ := info_parts Try.info5
  go_enter Try.func56, Try.ntmps56
  go_wp2_with (at_make; refine wpList_make_full _ rfl _ _ 44 rfl w.heap.size 5 i0 (.int .u8 0) 1 Try.underlying44 hi hz0 hz1 _ _ _ _ m rfl rfl (by omega) (by omega) ?b1 ?b2 ?b3 ?_)
  case b1 => rw [hz2]; omega
  case b2 => unfold maxLen; omega
  case b3 => exact Nat.le_refl _
  intro w1 hown0 hgrow0
  have hown1 : w1.ownsRow w.heap.size 5 1 (.slice (some ⟨w.heap.size, 0, none⟩) m m) m (bytesV (hfAt m n 0)) := by
    have e : (madeCells #[Value.int .u8 0] m).toList = bytesV (hfAt m n 0) := by
      rw [toList_madeCells_one]
      simp [hfAt, bytesV, M.hiB]
    rw [← e]; exact hown0
  have hb1 : Below w.heap.size w w1 := (Below.refl _ _).grown hgrow0 (Nat.le_refl _) (fun k hk => by cases hk)
  clear hown0 hgrow0
  go_wp2_with fail
  go_loopw [0, 10] (fun v i wr => ∃ k q : Nat, k ≤ m ∧ i = .int .i64 k ∧ v = .int .u64 q ∧ q = n / 256 ^ k ∧ wr.ownsRow w.heap.size 5 1 (.slice (some ⟨w.heap.size, 0, none⟩) m m) m (bytesV (hfAt m n k)) ∧ Below w.heap.size w wr) (fun _ i _ => m - (intOf i).toNat)
  case atStart => exact ⟨0, n, Nat.zero_le _, rfl, rfl, by simp, hown1, hb1⟩
  case round =>
    clear hown1 hb1
    obtain ⟨k, q, hk, rfl, rfl, hq, hown, hb⟩ := hrel
    have hqn : q ≤ n := by rw [hq]; exact Nat.div_le_self _ _
    have HQ := Lib.hid hq
    clear hq
    by_cases hlt : k < m
    · have hf := hown.frozenAt (m - 1 - k)
      obtain ⟨u, hu⟩ : ∃ u, wr.cell? ⟨w.heap.size, m - 1 - k, none⟩ = some (.int .u8 u) := by
        rw [hown.cellAt (m - 1 - k) (by omega)]
        exact ⟨_, bytesV_at _ _ (by rw [hfAt_length hk]; omega)⟩
      have hst := hown.stored (m - 1 - k) (.int .u8 ((q : Int) % 256))
      have HN := Lib.hid (hf_step hlt HQ.out hst.1)
      have HB := Lib.hid (hb.grown hst.2 hb.size (fun j hj => by cases hj; exact Nat.le_refl _))
      clear hst hown hb
      go_wp2
      go_roundw
      case rel => exact ⟨k + 1, q / 256, by omega, by go_num, by go_num, by rw [HQ.out, Nat.pow_succ, Nat.div_div_eq_div_mul], HN.out, HB.out⟩
      case measure => simp [intOf]; omega
    · obtain rfl : k = m := by omega
      have hcv := conv_own (B := w.heap.size) (l := M.hiB k n) (v := .slice (some ⟨w.heap.size, 0, none⟩) k k) (w := wr) (by
        have e : hfAt k n k = M.hiB k n := by simp [hfAt]
        rw [← e, hfAt_length (Nat.le_refl _)]; exact hown)
      go_wp2
      go_ret
      exact ⟨rfl, hb⟩

theorem hf4 (n : Nat) (w : World) (h : n < 18446744073709551616) :
    Calls Try.prog 56 #[.int .u64 n, .int .i64 4] w fun e w' => e = .returned (.string ⟨(M.hiB 4 n).toArray⟩) ∧ Below w.heap.size w w' := highestFirst_any n 4 w h (by decide)

theorem num_any (n : Nat) (w : World) (h : n < 4294967296) :
    Calls Try.prog 51 #[.int .u32 n] w fun e w' => e = .returned (.string ⟨(M.hiB 4 n).toArray⟩) ∧ Below w.heap.size w w' := by
  go_enter Try.func51, Try.ntmps51
  go_wp2_with fail
  refine (hf4 n w (by omega)).mono ?_
  rintro e w' ⟨rfl, hb⟩
  go_wp2
  go_ret
  exact ⟨rfl, hb⟩

theorem thf4_no (s : ByteArray) (w : World) (hs : s.size < 4) :
    Calls Try.prog 50 #[.string s, .int .i64 4] w fun e w' => e = .returned (.tuple #[.int .u64 0, .string ⟨#[]⟩, .int .i64 2]) ∧ w = w' := takeHF_no s 4 w (by decide) hs

theorem thf4_yes (s : ByteArray) (w : World) (hs : 4 ≤ s.size) (hl : s.size ≤ maxLen) :
    Calls Try.prog 50 #[.string s, .int .i64 4] w fun e w' => e = .returned (.tuple #[.int .u64 (M.num (s.data.toList.take 4) : Nat), .string (s.extract 4 s.size), .int .i64 0]) ∧ Below w.heap.size w w' := takeHF_yes s 4 w (by decide) hs hl

theorem takeNum_any (s : ByteArray) (w : World) (hl : s.size ≤ maxLen) :
    Calls Try.prog 39 #[.string s] w fun e w' => e = .returned (tnV s.data.toList) ∧ Below w.heap.size w w' := by
  by_cases h : s.size < 4
  · rw [tnV_no h]
    go_enter Try.func39, Try.ntmps39
    go_wp2_with fail
    refine (thf4_no s w h).mono ?_
    rintro e w' ⟨rfl, rfl⟩
    go_wp2
    go_ret3
    exact ⟨rfl, Below.refl _ _⟩
  · rw [tnV_yes h]
    have hn := num_take4_lt s.data.toList
    go_enter Try.func39, Try.ntmps39
    go_wp2_with fail
    refine (thf4_yes s w (by omega) hl).mono ?_
    rintro e w' ⟨rfl, hb⟩
    go_wp2
    go_ret3
    exact ⟨rfl, hb⟩

end Go.Proofs.Ytfpojbnidoeohaa
