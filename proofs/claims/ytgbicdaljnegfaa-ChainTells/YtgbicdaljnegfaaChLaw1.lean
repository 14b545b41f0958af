/-
  Layer chain's calls as contracts (ChainOk); walks of its laws' helpers: real, made.
-/
import Derived.Test.YtgbicdaljnegfaaChRef7
import Derived.Test.YtgbicdaljnegfaaChMath2
namespace Go.Proofs.Ytgbicdaljnegfaa
open Go.RowKit

/-- the calls of package chain, over chains in memory -/
structure ChainOk : Prop where
  fresh : ∀ w : World, Calls Try.prog 25 #[] w fun e w' => ∃ v', e = .returned v' ∧ SlC w' (S.New w w') v' Cn.fresh ∧ Below w.heap.size w w'
  may : ∀ {w : World} {F : Nat → Prop} {v : Value} {c : Cn.Ch}, SlC w F v c → (∀ b, F b → b < w.heap.size) → c.length ≤ 1000 →
    Calls Try.prog 15 #[v] w fun e w' => e = .returned (.bool (Cn.mayB c)) ∧ Below w.heap.size w w'
  look : ∀ {w : World} {F : Nat → Prop} {v : Value} {c : Cn.Ch}, SlC w F v c → (∀ b, F b → b < w.heap.size) → c.length ≤ 1000 → ∀ ts : Int, -9223372036854775808 ≤ ts → ts ≤ 9223372036854775807 →
    Calls Try.prog 17 #[v, .int .i64 ts] w fun e w' => e = .returned (.int .i64 (Cn.look c ts)) ∧ Below w.heap.size w w'
  read : ∀ {w : World} {F : Nat → Prop} {v : Value} {c : Cn.Ch}, SlC w F v c → (∀ b, F b → b < w.heap.size) → c.length ≤ 1000 → ∀ ts : Int, -9223372036854775808 ≤ ts → ts ≤ 9223372036854775807 →
    Calls Try.prog 11 #[v, .int .i64 ts] w fun e w' => ∃ v', e = .returned (.tuple #[v', verA (Cn.readV c ts)]) ∧ SlC w' (fun b => F b ∨ S.New w w' b) v' (Cn.readC c ts) ∧ Below w.heap.size w w'
  write : ∀ {w : World} {F : Nat → Prop} {v : Value} {c : Cn.Ch}, SlC w F v c → (∀ b, F b → b < w.heap.size) → c.length ≤ 1000 → ∀ (ts : Int) (val : ByteArray), -9223372036854775808 ≤ ts → ts ≤ 9223372036854775807 →
    Calls Try.prog 13 #[v, .int .i64 ts, .string val] w fun e w' => ∃ v', e = .returned (.tuple #[v', .int .i64 (Cn.writeE c ts)]) ∧ SlC w' (fun b => F b ∨ S.New w w' b) v' (Cn.writeC c ts val) ∧ Below w.heap.size w w'
  commit : ∀ {w : World} {F : Nat → Prop} {v : Value} {c : Cn.Ch}, SlC w F v c → (∀ b, F b → b < w.heap.size) → c.length ≤ 1000 → ∀ ts : Int, -9223372036854775808 ≤ ts → ts ≤ 9223372036854775807 →
    Calls Try.prog 21 #[v, .int .i64 ts] w fun e w' => ∃ v', e = .returned v' ∧ SlC w' (fun b => F b ∨ S.New w w' b) v' (Cn.commitC c ts) ∧ Below w.heap.size w w'
  abort : ∀ {w : World} {F : Nat → Prop} {v : Value} {c : Cn.Ch}, SlC w F v c → (∀ b, F b → b < w.heap.size) → c.length ≤ 1000 → ∀ ts : Int, -9223372036854775808 ≤ ts → ts ≤ 9223372036854775807 →
    Calls Try.prog 23 #[v, .int .i64 ts] w fun e w' => ∃ v', e = .returned v' ∧ SlC w' (fun b => F b ∨ S.New w w' b) v' (Cn.abortC c ts) ∧ Below w.heap.size w w'

theorem elCv : S.El Try.prog 24 27 4 40 := by
  obtain ⟨i0, hi, hz0, hz1, hz2⟩ := info_parts (show (Try.prog.info? 27).map (fun i => (i.zero, i.size, i.bytes)) = some (some (.agg #[.int .i64 0, .int .i64 0, .string ⟨#[]⟩, .bool false]), 4, 40) by kernel_rfl)
  exact ⟨Try.underlying24, ⟨i0, _, hi, hz0, hz1, hz2, rfl⟩, by decide⟩

set_option maxRecDepth 100000 in
set_option maxHeartbeats 4000000 in
theorem real10_any {w : World} {F : Nat → Prop} {v : Value} {c : Cn.Ch} (h : SlC w F v c) (hF : ∀ b, F b → b < w.heap.size) (hl : c.length ≤ 1000000) :
    Calls Try.prog 20 #[v] w fun e w' => ∃ v', e = .returned v' ∧ SlC w' (S.New w w') v' c ∧ Below w.heap.size w w' := by
  have HS := Lib.hid h
  obtain ⟨A, cap, rfl, hcap⟩ := SlC.form h
  clear h
  go_enter Try.func20, Try.ntmps20
  go_wp2
  go_loopw [3, 4] (fun r i wr => ∃ k : Nat, k ≤ c.length ∧ i = .int .i64 (k : Int) ∧ wr.ownsRow w.heap.size 30 4 r k (verV (c.take k)) ∧ Below w.heap.size w wr) (fun _ i _ => c.length - (intOf i).toNat)
  case atStart => exact ⟨0, Nat.zero_le _, rfl, S.own_nil .., Below.refl _ _⟩
  case round =>
    obtain ⟨k, hk, rfl, hown, hbr⟩ := hrel
    have HB := Lib.hid hbr
    have HO := Lib.hid hown
    obtain ⟨Ar, cr, rfl⟩ := own_slice hown
    clear hbr hown
    by_cases hlt : k < c.length
    · have hlt' : (k : Int) < (c.length : Int) := by omega
      have hk0 : (0 : Int) ≤ (k : Int) := by omega
      obtain ⟨a, _, ea, _, _, y0, y1, y2, y3⟩ := SlC.nth (HS.out.below HB.out hF) k hlt
      cases ea
      have HT : Hid (c.take (k + 1) = c.take k ++ [c[k]]) := Lib.hid (List.take_succ_eq_append_getElem hlt)
      generalize c[k] = u at *
      go_wp2_with (at_builtin; refine S.wpList_append_sg elVr rfl _ _ rfl (base := w.heap.size) (n := k) (m := 1) (xs := verV (c.take k)) (cs := verC u) rfl rfl (HO.out.alloc _) (sg_row4 wr 30 #[.int .i64 u.ts, .int .i64 u.rd, .string u.val, .bool u.done] rfl) (verC_one u) (by omega) (by omega) (Nat.le_trans HB.out.size (by simp)) ?_)
      intro v5 w5 hown5 hgrow5 _
      have hb5 := HB.out.trans (((Below.refl wr.heap.size wr).alloc (Nat.le_refl _) (.cells #[.int .i64 u.ts, .int .i64 u.rd, .string u.val, .bool u.done] 30)).mono HB.out.size)
      have hb5 := hb5.trans (S.below_base (HO.out.alloc _) hb5.size hgrow5)
      have HB5 := Lib.hid hb5
      have HO5 : Hid (w5.ownsRow w.heap.size 30 4 v5 (k + 1) (verV (c.take (k + 1)))) := Lib.hid (by
        rw [HT.out, verV_snoc]
        exact hown5)
      clear hown5 hgrow5 hb5
      go_wp2_with fail
      go_roundw
      case rel => exact ⟨k + 1, by omega, by go_num, HO5.out, HB5.out⟩
      case measure => simp [intOf]; omega
    · obtain rfl : k = c.length := by omega
      have hlt' : ¬ (c.length : Int) < (c.length : Int) := by omega
      go_wp2
      go_ret
      refine ⟨_, rfl, ?_, HB.out⟩
      have h9 := S.Sg.of_own HO.out
      rw [List.take_length] at h9
      exact h9.wider (fun b q => q)

set_option maxRecDepth 100000 in
set_option maxHeartbeats 4000000 in
theorem made10_any {w : World} {F : Nat → Prop} {v : Value} {c : Cn.Ch} (h : SlC w F v c) (hF : ∀ b, F b → b < w.heap.size) (hl : c.length ≤ 1000000) :
    Calls Try.prog 10 #[v] w fun e w' => ∃ v', e = .returned v' ∧ SlC w' (S.New w w') v' c ∧ Below w.heap.size w w' := by
  have HS := Lib.hid h
  obtain ⟨A, cap, rfl, hcap⟩ := SlC.form h
  clear h
  go_enter Try.func10, Try.ntmps10
  go_wp2
  go_loopw [3, 4] (fun r i wr => ∃ k : Nat, k ≤ c.length ∧ i = .int .i64 (k : Int) ∧ wr.ownsRow w.heap.size 27 4 r k (verV (c.take k)) ∧ Below w.heap.size w wr) (fun _ i _ => c.length - (intOf i).toNat)
  case atStart => exact ⟨0, Nat.zero_le _, rfl, S.own_nil .., Below.refl _ _⟩
  case round =>
    obtain ⟨k, hk, rfl, hown, hbr⟩ := hrel
    have HB := Lib.hid hbr
    have HO := Lib.hid hown
    obtain ⟨Ar, cr, rfl⟩ := own_slice hown
    clear hbr hown
    by_cases hlt : k < c.length
    · have hlt' : (k : Int) < (c.length : Int) := by omega
      have hk0 : (0 : Int) ≤ (k : Int) := by omega
      obtain ⟨a, _, ea, _, _, y0, y1, y2, y3⟩ := SlC.nth (HS.out.below HB.out hF) k hlt
      cases ea
      have HT : Hid (c.take (k + 1) = c.take k ++ [c[k]]) := Lib.hid (List.take_succ_eq_append_getElem hlt)
      generalize c[k] = u at *
      go_wp2_with (at_builtin; refine S.wpList_append_sg elCv rfl _ _ rfl (base := w.heap.size) (n := k) (m := 1) (xs := verV (c.take k)) (cs := verC u) rfl rfl (HO.out.alloc _) (sg_row4 wr 27 #[.int .i64 u.ts, .int .i64 u.rd, .string u.val, .bool u.done] rfl) (verC_one u) (by omega) (by omega) (Nat.le_trans HB.out.size (by simp)) ?_)
      intro v5 w5 hown5 hgrow5 _
      have hb5 := HB.out.trans (((Below.refl wr.heap.size wr).alloc (Nat.le_refl _) (.cells #[.int .i64 u.ts, .int .i64 u.rd, .string u.val, .bool u.done] 27)).mono HB.out.size)
      have hb5 := hb5.trans (S.below_base (HO.out.alloc _) hb5.size hgrow5)
      have HB5 := Lib.hid hb5
      have HO5 : Hid (w5.ownsRow w.heap.size 27 4 v5 (k + 1) (verV (c.take (k + 1)))) := Lib.hid (by
        rw [HT.out, verV_snoc]
        exact hown5)
      clear hown5 hgrow5 hb5
      go_wp2_with fail
      go_roundw
      case rel => exact ⟨k + 1, by omega, by go_num, HO5.out, HB5.out⟩
      case measure => simp [intOf]; omega
    · obtain rfl : k = c.length := by omega
      have hlt' : ¬ (c.length : Int) < (c.length : Int) := by omega
      go_wp2
      go_ret
      refine ⟨_, rfl, ?_, HB.out⟩
      have h9 := S.Sg.of_own HO.out
      rw [List.take_length] at h9
      exact h9.wider (fun b q => q)

end Go.Proofs.Ytgbicdaljnegfaa
