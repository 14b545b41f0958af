/-
  The law CrcJoins, walked: the sum of two parts is that of the second one more, wherever they are cut.
-/
import Derived.Test.YtfcccgohkmpofaaCrcW4
import Derived.Deep.RegionHeld3
namespace Go.Proofs.Ytfcccgohkmpofaa
open Go.RowKit

theorem Sl.take {w : World} {B cap k : Nat} {A : Option Addr} {l : List UInt8} (h : Sl w B (.slice A l.length cap) l) (hk : k ≤ l.length) : Sl w B (.slice A k cap) (l.take k) := by
  obtain ⟨A', cap', e, hc, hx⟩ := h
  injection e with e1 _ e3
  subst e1; subst e3
  have hl : (l.take k).length = k := by simp; omega
  refine ⟨A, cap, by rw [hl], by omega, fun hn => ?_⟩
  obtain ⟨a, e2, hb, hx2⟩ := hx (fun e => hn (by rw [e]; simp))
  exact ⟨a, e2, hb, fun j hj => by rw [hx2 j (by omega)]; simp⟩

theorem Sl.drop {w : World} {B cap k : Nat} {A : Option Addr} {l : List UInt8} (h : Sl w B (.slice A l.length cap) l) (hk : k ≤ l.length) :
    Sl w B (.slice (if cap = k then A else A.map (·.add k)) (l.length - k) (cap - k)) (l.drop k) := by
  obtain ⟨A', cap', e, hc, hx⟩ := h
  injection e with e1 _ e3
  subst e1; subst e3
  have hl : (l.drop k).length = l.length - k := by simp
  refine ⟨_, _, by rw [hl], by omega, fun hn => ?_⟩
  have hlt : k < l.length := by
    rcases Nat.lt_or_ge k l.length with h | h
    · exact h
    · exact absurd (List.drop_eq_nil_of_le h) hn
  obtain ⟨a, rfl, hb, hx2⟩ := hx (fun e => by subst e; simp at hlt)
  rw [if_neg (by omega)]
  exact ⟨a.add k, rfl, by rw [add_block]; exact hb, fun j hj => by rw [add_add, hx2 (k + j) (by simp at hj; omega)]; simp⟩

theorem Try.sizeU8 (w : World) : (sizeOf 5).run Try.prog w = .ok 1 w := by
  have h : (Try.prog.info? 5).map (·.size) = some 1 := by kernel_rfl
  cases hq : Try.prog.info? 5 with
  | none => simp [hq] at h
  | some i =>
    have hz : i.size = 1 := by simpa [hq] using h
    simp [sizeOf, typeInfo, hq, hz]
theorem Try.elemB : Try.prog.elem 22 = 5 := by kernel_rfl

theorem slice_to (A : Option Addr) (n cap k : Nat) (hk : k ≤ cap) (w : World) : (Instr.slice 22 (.slice A n cap) none (some (.int .i64 (k : Int))) none).run Try.prog w = .ok (.slice A k cap) w := by
  rw [run_slice_h w 22 A n cap (by rw [Try.elemB]; exact Try.underlying22) .i64 k (by omega) (by omega), Try.elemB, Try.sizeU8]
  cases A <;> simp [sliced, Result.andThen, Addr.add]
theorem slice_from (A : Option Addr) (n cap k : Nat) (hk : k ≤ n) (w : World) : (Instr.slice 22 (.slice A n cap) (some (.int .i64 (k : Int))) none none).run Try.prog w = .ok (.slice (if cap = k then A else A.map (·.add k)) (n - k) (cap - k)) w := by
  rw [run_slice_l w 22 A n cap (by rw [Try.elemB]; exact Try.underlying22) .i64 k (by omega) (by omega), Try.elemB, Try.sizeU8]
  simp [sliced, Result.andThen]

set_option maxRecDepth 1000000 in
set_option maxHeartbeats 1000000 in
theorem crcJoins_walk (v : Value) (l : List UInt8) (c : Nat) (w : World) (h : Sl w w.heap.size v l) (hl : l.length ≤ maxLen) (hc : c < 65536) :
    Calls Try.prog 4 #[v, .int .u16 c] w fun e w' => e = .returned (.bool true) ∧ Below w.heap.size w w' := by
  have HS := Lib.hid h
  have HL := Lib.hid hl
  unfold maxLen at hl
  obtain ⟨A, cap, rfl, hcap, _⟩ := h
  by_cases hlen : 20000 < l.length
  · go_enter Try.func4, Try.ntmps4
    go_wp2_with fail
    refine (awake_any _).mono ?_
    rintro e w1 ⟨rfl, hb1⟩
    go_wp2
    go_ret
    exact ⟨rfl, hb1⟩
  · have hld : decide ((20000 : Int) < (l.length : Int)) = false := decide_eq_false (by omega)
    go_enter Try.func4, Try.ntmps4
    go_wp2_with fail
    refine (awake_any _).mono ?_
    rintro e w1 ⟨rfl, hb1⟩
    go_wp2_with fail
    obtain ⟨k, hk, hkl⟩ : ∃ k : Nat, (c : Int) % ((l.length : Int) + 1) = k ∧ k ≤ l.length := ⟨c % (l.length + 1), by simp, Nat.le_of_lt_succ (Nat.mod_lt c (by omega))⟩
    rw [hk]
    clear hk
    have hs1 := slice_to A l.length cap k (by omega)
    have hs2 := slice_from A l.length cap k hkl
    have HT := Lib.hid (HS.out.take hkl)
    have HD := Lib.hid (HS.out.drop hkl)
    obtain ⟨A2, hA2⟩ : ∃ A2, A2 = (if cap = k then A else A.map (·.add k)) := ⟨_, rfl⟩
    rw [← hA2] at HD hs2
    clear hA2
    have htl : (l.take k).length ≤ maxLen := by unfold maxLen; simp; omega
    have hdl : (l.drop k).length ≤ maxLen := by unfold maxLen; simp; omega
    have hj : C.more (C.sum (l.take k)) (l.drop k) = C.sum l := by rw [C.more_join, List.take_append_drop]
    have hnil := C.more_nil (C.sum l)
    have hst := C.sum_lt (l.take k)
    have hsl := C.sum_lt l
    have hb := hb1.drew
    clear hb1
    go_region_held3 (fun _ => True) (go_keep)
      (first | (go_at_call_of 10 (Value.slice A k cap); refine (of_any _ (l.take k) _ w.heap.size hb.size (HT.out.below hb) htl).mono ?_; rintro e w2 ⟨rfl, hbn⟩; replace hb := hb.trans (hbn.mono hb.size); clear hbn)
             | (go_at_call_of 10 (Value.slice A l.length cap); refine (of_any _ l _ w.heap.size hb.size (HS.out.below hb) HL.out).mono ?_; rintro e w2 ⟨rfl, hbn⟩; replace hb := hb.trans (hbn.mono hb.size); clear hbn)
             | (go_at_call_of 12 (Value.slice A2 (l.length - k) (cap - k)); refine (more_any (C.sum (l.take k)) _ (l.drop k) _ w.heap.size hb.size (HD.out.below hb) hst hdl).mono ?_; rw [hj]; rintro e w2 ⟨rfl, hbn⟩; replace hb := hb.trans (hbn.mono hb.size); clear hbn)
             | (go_at_call_of 12 (Value.slice none 0 0); refine (more_any (C.sum l) _ [] _ w.heap.size hb.size (Sl.nil _ _ _ _) hsl (Nat.zero_le _)).mono ?_; rw [hnil]; rintro e w2 ⟨rfl, hbn⟩; replace hb := hb.trans (hbn.mono hb.size); clear hbn))
    all_goals (try go_wp2)
    all_goals go_ret
    all_goals exact ⟨rfl, hb⟩

end Go.Proofs.Ytfcccgohkmpofaa
