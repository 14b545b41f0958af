/-
  Walks of layer pack: a number's bytes, as the program makes them.
-/
import Derived.Test.YtepgefjehnjibaaPackW1
namespace Go.Proofs.Ytepgefjehnjibaa
open Go.RowKit

def bytesV (l : List UInt8) : List Value := l.map fun c => .int .u8 (c.toNat : Int)

theorem bytesV_length (l : List UInt8) : (bytesV l).length = l.length := by simp [bytesV]
theorem bytesV_append (a b : List UInt8) : bytesV (a ++ b) = bytesV a ++ bytesV b := by simp [bytesV]

theorem bytesV_at (l : List UInt8) (j : Nat) (h : j < l.length) : (bytesV l)[j]? = some (.int .u8 (l[j].toNat : Int)) := by simp [bytesV, h]

theorem Try.info5 : (Try.prog.info? 5).map (fun i => (i.zero, i.size, i.bytes)) = some (some (.int .u8 0), 1, 1) := by kernel_rfl

/-- 'string(b)' of what the call owns -/
theorem conv_own {w : World} {B : Nat} {v : Value} {l : List UInt8} (h : w.ownsRow B 5 1 v l.length (bytesV l)) :
    (convert 40 9 v).run Try.prog w = .ok (.string ⟨l.toArray⟩) w := by
  have h0 := h
  rcases h.2 with ⟨rfl, h1⟩ | ⟨g, cap, cur, rfl, _⟩
  · obtain rfl : l = [] := List.length_eq_zero_iff.1 h1
    exact run_convert_bytes_nil (P := Try.prog) w 40 5 Try.underlying40 Try.underlying5 0 0 9 Try.underlying9
  · refine run_convert_bytes_back (P := Try.prog) w 40 9 5 ⟨g, 0, none⟩ cap l Try.underlying40 Try.underlying5 Try.underlying9 fun j hj => ?_
    rw [Addr.add_lit, Nat.zero_add, h0.cellAt j (by omega)]
    simp [bytesV, hj]

/-- what the slice holds behind k rounds -/
def hfAt (m n k : Nat) : List UInt8 := List.replicate (m - k) 0 ++ M.hiB k n

theorem hfAt_length {m n k : Nat} (h : k ≤ m) : (hfAt m n k).length = m := by simp [hfAt, M.hiB_len]; omega

theorem hfAt_set {m n k : Nat} (h : k < m) : (hfAt m n k).set (m - 1 - k) (UInt8.ofNat (n / 256 ^ k % 256)) = hfAt m n (k + 1) := by
  obtain ⟨d, rfl⟩ : ∃ d, m = k + 1 + d := ⟨m - (k + 1), by omega⟩
  have e1 : k + 1 + d - 1 - k = d := by omega
  have e2 : k + 1 + d - k = d + 1 := by omega
  have e3 : k + 1 + d - (k + 1) = d := by omega
  rw [hfAt, hfAt, e1, e2, e3, M.hiB_cons, List.set_append_left _ _ (by simp), List.replicate_succ', List.set_append_right _ _ (by simp)]
  simp

theorem hf_step {w : World} {B m n k q : Nat} {v : Value} (h : k < m) (hq : q = n / 256 ^ k)
    (hown : w.ownsRow B 5 1 v m ((bytesV (hfAt m n k)).set (m - 1 - k) (.int .u8 ((q : Int) % 256)))) :
    w.ownsRow B 5 1 v m (bytesV (hfAt m n (k + 1))) := by
  rw [← hfAt_set h]
  have e : bytesV ((hfAt m n k).set (m - 1 - k) (UInt8.ofNat (n / 256 ^ k % 256))) = (bytesV (hfAt m n k)).set (m - 1 - k) (.int .u8 ((q : Int) % 256)) := by
    rw [bytesV, List.map_set]
    subst hq
    congr 1
    simp
  rw [e]; exact hown

set_option maxHeartbeats 400000 in
theorem highestFirst_any (n m : Nat) (w : World) (_hn : n < 18446744073709551616) (hm : m ≤ 8) :
    Calls Try.prog 31 #[.int .u64 n, .int .i64 m] w fun e w' => e = .returned (.string ⟨(M.hiB m n).toArray⟩) ∧ Below w.heap.size w w' := by
  obtain ⟨i0, hi, hz0, hz1, hz2⟩ := info_parts Try.info5
  go_enter Try.func31, Try.ntmps31
  go_wp2_with (at_make; refine wpList_make_full _ rfl _ _ 40 rfl w.heap.size 5 i0 (.int .u8 0) 1 Try.underlying40 hi hz0 hz1 _ _ _ _ m rfl rfl (by omega) (by omega) ?b1 ?b2 ?b3 ?_)
  case b1 => rw [hz2]; omega
  case b2 => unfold maxLen; omega
  case b3 => exact Nat.le_refl _
  intro w1 hown0 hgrow0
  have hown1 : w1.ownsRow w.heap.size 5 1 (.slice (some ⟨w.heap.size, 0, none⟩) m m) m (bytesV (hfAt m n 0)) := by
    have e : (madeCells #[Value.int .u8 0] m).toList = bytesV (hfAt m n 0) := by
      rw [toList_madeCells_one]
      simp [hfAt, bytesV, M.hiB]
    rw [← e]; exact hown0
  have hb1 : Below w.heap.size w w1 := (Below.refl _ _).grown hgrow0 (Nat.le_refl _) (fun k hk => by cases hk)
  clear hown0 hgrow0
  go_wp2_with fail
  go_loopw [0, 10] (fun v i wr => ∃ k q : Nat, k ≤ m ∧ i = .int .i64 k ∧ v = .int .u64 q ∧ q = n / 256 ^ k ∧ wr.ownsRow w.heap.size 5 1 (.slice (some ⟨w.heap.size, 0, none⟩) m m) m (bytesV (hfAt m n k)) ∧ Below w.heap.size w wr) (fun _ i _ => m - (intOf i).toNat)
  case atStart => exact ⟨0, n, Nat.zero_le _, rfl, rfl, by simp, hown1, hb1⟩
  case round =>
    clear hown1 hb1
    obtain ⟨k, q, hk, rfl, rfl, hq, hown, hb⟩ := hrel
    have hqn : q ≤ n := by rw [hq]; exact Nat.div_le_self _ _
    have HQ := Lib.hid hq
    clear hq
    by_cases hlt : k < m
    · have hf := hown.frozenAt (m - 1 - k)
      obtain ⟨u, hu⟩ : ∃ u, wr.cell? ⟨w.heap.size, m - 1 - k, none⟩ = some (.int .u8 u) := by
        rw [hown.cellAt (m - 1 - k) (by omega)]
        exact ⟨_, bytesV_at _ _ (by rw [hfAt_length hk]; omega)⟩
      have hst := hown.stored (m - 1 - k) (.int .u8 ((q : Int) % 256))
      have HN := Lib.hid (hf_step hlt HQ.out hst.1)
      have HB := Lib.hid (hb.grown hst.2 hb.size (fun j hj => by cases hj; exact Nat.le_refl _))
      clear hst hown hb
      go_wp2
      go_roundw
      case rel => exact ⟨k + 1, q / 256, by omega, by go_num, by go_num, by rw [HQ.out, Nat.pow_succ, Nat.div_div_eq_div_mul], HN.out, HB.out⟩
      case measure => simp [intOf]; omega
    · obtain rfl : k = m := by omega
      have hcv := conv_own (B := w.heap.size) (l := M.hiB k n) (v := .slice (some ⟨w.heap.size, 0, none⟩) k k) (w := wr) (by
        have e : hfAt k n k = M.hiB k n := by simp [hfAt]
        rw [← e, hfAt_length (Nat.le_refl _)]; exact hown)
      go_wp2
      go_ret
      exact ⟨rfl, hb⟩

end Go.Proofs.Ytepgefjehnjibaa
