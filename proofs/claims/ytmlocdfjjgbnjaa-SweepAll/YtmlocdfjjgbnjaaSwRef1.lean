/-
  Walks of the document's sweep: last, counts, Bools; slices of bools in memory.
-/
import Derived.Test.YtmlocdfjjgbnjaaJS
import Derived.Test.YtmlocdfjjgbnjaaJQ
import Derived.Test.YtmlocdfjjgbnjaaJU
namespace Go.Proofs.Ytmlocdfjjgbnjaa
open Go.RowKit

/-! ### slices of bools -/
def booV (l : List Bool) : List Value := l.map .bool
theorem booV_length (l : List Bool) : (booV l).length = l.length := by simp [booV]
theorem booV_append (a b : List Bool) : booV (a ++ b) = booV a ++ booV b := by simp [booV]
theorem booV_one (l : List Bool) : ∀ u ∈ booV l, u.oneCell' = true := by
  intro u hu; simp [booV] at hu; rcases hu with ⟨_, rfl⟩ | ⟨_, rfl⟩ <;> rfl
theorem booV_at (l : List Bool) (j : Nat) (h : j < l.length) : (booV l)[j]? = some (.bool l[j]) := by simp [booV, h]
abbrev SlO (w : World) (F : Nat → Prop) (v : Value) (l : List Bool) : Prop := S.Sg w F 1 v l.length (booV l)
theorem elBo : S.El Try.prog 28 4 1 1 := info_el (z := .bool false) Try.underlying28 (by kernel_rfl) rfl
theorem boo_nth {w : World} {F : Nat → Prop} {v : Value} {l : List Bool} (h : SlO w F v l) (i : Nat) (hi : i < l.length) : ∃ a cap, v = .slice (some a) l.length cap ∧ l.length ≤ cap ∧ F a.block ∧ w.cell? (a.add i) = some (.bool l[i]) := by
  obtain ⟨_, A, cap, e, hc, hx⟩ := h
  obtain ⟨a, rfl, hF, hx⟩ := hx (by omega)
  exact ⟨a, cap, e, hc, hF, hx i _ (booV_at l i hi)⟩
theorem own_boo {w : World} {base : Nat} {v : Value} {a b : List Bool} (h : w.ownsRow base 4 1 v (a.length + b.length) (booV a ++ booV b)) : w.ownsRow base 4 1 v (a ++ b).length (booV (a ++ b)) := by
  rw [booV_append, List.length_append]; exact h
theorem boo_form {w : World} {F : Nat → Prop} {v : Value} {l : List Bool} (h : SlO w F v l) : ∃ A cap, v = .slice A l.length cap ∧ l.length ≤ cap := by
  obtain ⟨_, A, cap, e, hc, _⟩ := h
  exact ⟨A, cap, e, hc⟩

/-! ### last -/
set_option maxRecDepth 100000 in
set_option maxHeartbeats 4000000 in
theorem rlast13_any {w : World} {F : Nat → Prop} {v : Value} {c : Cn.Ch} (h : SlC w F v c) (hl : c.length ≤ 1000000) (ts : Int) : Calls Try.prog 37 #[v, .int .i64 ts] w fun e w' => e = .returned (.int .i64 (Sw.lastI c ts c.length)) ∧ Still w w' := by
  have HS := Lib.hid h
  obtain ⟨A, cap, rfl, hcap⟩ := SlC.form h
  clear h
  go_enter Try.func37, Try.ntmps37
  go_wp2
  go_loopw [5, 6] (fun va i wr => ∃ (k : Nat) (z : Int), k ≤ c.length ∧ i = .int .i64 (k : Int) ∧ va = .int .i64 z ∧ Hid (Still w wr) ∧ Hid (Sw.lastI c ts k = z)) (fun _ i _ => c.length - (intOf i).toNat)
  case atStart => exact ⟨0, -1, Nat.zero_le _, rfl, rfl, Lib.hid (Still.refl _), Lib.hid rfl⟩
  case round =>
    obtain ⟨k, z, hk, rfl, rfl, HW, HI⟩ := hrel
    by_cases hlt : k < c.length
    · have hlt' : (k : Int) < (c.length : Int) := by omega
      have hk0 : (0 : Int) ≤ (k : Int) := by omega
      obtain ⟨a, _, ea, _, _, x⟩ := HS.out.nth k hlt
      cases ea
      obtain ⟨x0, _, _, x3⟩ := four_same HW.out.cell x
      clear x
      have HN : Hid (Sw.lastI c ts (k + 1) = if c[k].done = true ∧ c[k].ts ≤ ts then (k : Int) else z) := Lib.hid (by rw [← HI.out, ← Sw.getV_at hlt]; rfl)
      generalize c[k].ts = u at *
      cases hd : c[k].done with
      | false =>
        rw [hd] at x3
        have HN2 : Hid (Sw.lastI c ts (k + 1) = z) := Lib.hid (by rw [HN.out, if_neg (by rw [hd]; simp)])
        clear hd HN
        go_wp2
        go_roundw
        case rel => exact ⟨k + 1, z, by omega, by go_num, rfl, HW, HN2⟩
        case measure => simp [intOf]; omega
      | true =>
        rw [hd] at x3
        by_cases hc : u ≤ ts
        · have HN2 : Hid (Sw.lastI c ts (k + 1) = (k : Int)) := Lib.hid (by rw [HN.out, if_pos ⟨hd, hc⟩])
          have hc1 : decide (u ≤ ts) = true := decide_eq_true hc
          clear hd HN
          go_wp2
          go_roundw
          case rel => exact ⟨k + 1, (k : Int), by omega, by go_num, rfl, HW, HN2⟩
          case measure => simp [intOf]; omega
        · have HN2 : Hid (Sw.lastI c ts (k + 1) = z) := Lib.hid (by rw [HN.out, if_neg (fun q => hc q.2)])
          have hc1 : decide (u ≤ ts) = false := decide_eq_false hc
          clear hd HN
          go_wp2
          go_roundw
          case rel => exact ⟨k + 1, z, by omega, by go_num, rfl, HW, HN2⟩
          case measure => simp [intOf]; omega
    · obtain rfl : k = c.length := by omega
      have hlt' : ¬ (c.length : Int) < (c.length : Int) := by omega
      go_wp2
      go_ret
      exact ⟨ret_v (by rw [HI.out]; rfl), HW.out⟩

/-! ### counts -/
theorem counts_len (c : Cn.Ch) (act : List Int) : (Sw.counts c act).length ≤ act.length + c.length := by
  unfold Sw.counts
  have := List.length_filter_le (fun v : Cn.Vr => !v.done) c
  simp
  omega

set_option maxRecDepth 100000 in
set_option maxHeartbeats 4000000 in
theorem rcounts13_any {w : World} {F G : Nat → Prop} {v va : Value} {c : Cn.Ch} {act : List Int} (h : SlC w F v c) (hF : ∀ b, F b → b < w.heap.size) (hl : c.length ≤ 1000000) (ha : SlN w G va act) (hG : ∀ b, G b → b < w.heap.size) (hla : act.length ≤ 1000000) :
    Calls Try.prog 36 #[v, va] w fun e w' => ∃ v', e = .returned v' ∧ SlN w' (S.New w w') v' (Sw.counts c act) ∧ Below w.heap.size w w' := by
  have HS := Lib.hid h
  have HA := Lib.hid ha
  obtain ⟨A, cap, rfl, hcap⟩ := SlC.form h
  obtain ⟨B, capb, rfl, hcapb⟩ := num_form ha
  have HB := Lib.hid (Below.refl w.heap.size w)
  clear h ha
  go_enter Try.func36, Try.ntmps36
  go_wp2_with (at_builtin; refine S.wpList_append_sg elN rfl _ _ rfl (base := w.heap.size) (n := 0) (m := act.length) (xs := []) (cs := numV act) rfl rfl (S.own_none 2 1 rfl (Nat.le_refl _)) (S.Sg.below HA.out (HB.out.alloc HB.out.size _) hG) (numV_one _) (by omega) (by omega) (Nat.le_trans HB.out.size (by simp)) ?_)
  intro v2 w2 hown2 hgrow2 _
  have HB2 : Hid (Below w.heap.size w w2) := Lib.hid ((HB.out.alloc HB.out.size (.cells #[] 2)).trans (S.below_base (S.own_none 2 1 rfl (Nat.le_refl _)) (Nat.le_trans HB.out.size (by simp)) hgrow2))
  have HO2 : Hid (w2.ownsRow w.heap.size 2 1 v2 act.length (numV act)) := Lib.hid (by simpa using hown2)
  clear hown2 hgrow2
  go_wp2_with fail
  go_loopw [5, 6] (fun r i wr => ∃ (k : Nat) (L : List Int), k ≤ c.length ∧ L.length ≤ act.length + k ∧ i = .int .i64 (k : Int) ∧ Hid (Sw.counts (c.take k) act = L) ∧ Hid (wr.ownsRow w.heap.size 2 1 r L.length (numV L)) ∧ Hid (Below w.heap.size w wr)) (fun _ i _ => c.length - (intOf i).toNat)
  case atStart => exact ⟨0, act, Nat.zero_le _, by omega, rfl, Lib.hid (by simp [Sw.counts]), HO2, HB2⟩
  case round =>
    clear HO2 HB2
    obtain ⟨k, L, hk, hL, rfl, HI, HO, HB⟩ := hrel
    obtain ⟨Ar, cr, rfl⟩ := own_slice HO.out
    by_cases hlt : k < c.length
    · have hlt' : (k : Int) < (c.length : Int) := by omega
      have hk0 : (0 : Int) ≤ (k : Int) := by omega
      obtain ⟨a, _, ea, _, _, x0, _, _, x3⟩ := SlC.nth (HS.out.below HB.out hF) k hlt
      cases ea
      have HN : Hid (Sw.counts (c.take (k + 1)) act = if c[k].done = true then L else L ++ [c[k].ts]) := Lib.hid (by
        rw [← HI.out, List.take_succ_eq_append_getElem hlt]
        unfold Sw.counts
        rw [List.filter_append, List.map_append]
        cases hd : c[k].done <;> simp [hd])
      generalize c[k].ts = u at *
      cases hd : c[k].done with
      | true =>
        rw [hd] at x3
        have HN2 : Hid (Sw.counts (c.take (k + 1)) act = L) := Lib.hid (by rw [HN.out, if_pos hd])
        clear hd HN
        go_wp2
        go_roundw
        case rel => exact ⟨k + 1, L, by omega, by omega, by go_num, HN2, HO, HB⟩
        case measure => simp [intOf]; omega
      | false =>
        rw [hd] at x3
        have HN2 : Hid (Sw.counts (c.take (k + 1)) act = L ++ [u]) := Lib.hid (by rw [HN.out, if_neg (by rw [hd]; simp)])
        clear hd HN
        go_wp2_with (at_builtin; refine S.wpList_append_sg elN rfl _ _ rfl (base := w.heap.size) (n := L.length) (m := 1) (xs := numV L) (cs := numV [u]) rfl rfl (HO.out.alloc _) (S.Sg.one wr 2 (.int .i64 u)) (numV_one _) (by omega) (by omega) (Nat.le_trans HB.out.size (by simp)) ?_)
        intro v5 w5 hown5 hgrow5 _
        have HB5 : Hid (Below w.heap.size w w5) := Lib.hid ((HB.out.alloc HB.out.size (.cells #[.int .i64 u] 2)).trans (S.below_base (HO.out.alloc _) (Nat.le_trans HB.out.size (by simp)) hgrow5))
        have HO5 : Hid (w5.ownsRow w.heap.size 2 1 v5 (L ++ [u]).length (numV (L ++ [u]))) := Lib.hid (own_num hown5)
        clear hown5 hgrow5
        go_wp2_with fail
        go_roundw
        case rel => exact ⟨k + 1, L ++ [u], by omega, by simp; omega, by go_num, HN2, HO5, HB5⟩
        case measure => simp [intOf]; omega
    · obtain rfl : k = c.length := by omega
      have hlt' : ¬ (c.length : Int) < (c.length : Int) := by omega
      go_wp2
      go_ret
      refine ⟨_, rfl, ?_, HB.out⟩
      have e := HI.out
      rw [List.take_length] at e
      rw [e]
      exact (S.Sg.of_own HO.out).wider (fun b q => q)

/-! ### Bools -/
set_option maxRecDepth 100000 in
set_option maxHeartbeats 4000000 in
theorem rbools13_any {w : World} {F G : Nat → Prop} {va vb : Value} {l : List Bool} (ha : SlO w F va l) (hb : SlO w G vb l) (hl : l.length ≤ 1000000) : Calls Try.prog 11 #[va, vb] w fun e w' => e = .returned (.bool true) ∧ Still w w' := by
  have HA := Lib.hid ha
  have HB := Lib.hid hb
  obtain ⟨A, capa, rfl, hca⟩ := boo_form ha
  obtain ⟨B, capb, rfl, hcb⟩ := boo_form hb
  clear ha hb
  go_enter Try.func11, Try.ntmps11
  go_wp2
  go_loopw [5] (fun i wr => ∃ k : Nat, k ≤ l.length ∧ i = .int .i64 (k : Int) ∧ Hid (Still w wr)) (fun i _ => l.length - (intOf i).toNat)
  case atStart => exact ⟨0, Nat.zero_le _, rfl, Lib.hid (Still.refl _)⟩
  case round =>
    obtain ⟨k, hk, rfl, HW⟩ := hrel
    by_cases hlt : k < l.length
    · have hlt' : (k : Int) < (l.length : Int) := by omega
      have hk0 : (0 : Int) ≤ (k : Int) := by omega
      obtain ⟨a, _, ea, _, _, x⟩ := boo_nth HA.out k hlt
      obtain ⟨b, _, eb, _, _, y⟩ := boo_nth HB.out k hlt
      cases ea
      cases eb
      have x0 := (HW.out.cell _).trans x
      have y0 := (HW.out.cell _).trans y
      clear x y
      generalize l[k] = u at *
      go_wp2_with fail
      go_quiet (fail)
      rename_i nq
      go_wp2_with fail
      go_roundw
      case rel => exact ⟨k + 1, by omega, by go_num, Lib.hid (HW.out.drewN nq)⟩
      case measure => simp [intOf]; omega
    · have hlt' : ¬ (k : Int) < (l.length : Int) := by omega
      go_wp2
      go_ret
      exact ⟨rfl, HW.out⟩
end Go.Proofs.Ytmlocdfjjgbnjaa
