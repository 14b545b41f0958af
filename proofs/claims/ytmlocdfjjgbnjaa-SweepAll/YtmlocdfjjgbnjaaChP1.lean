/-
  The landed chain: what its calls do (Clone, Fresh, May, Look, late, own).
-/
import Derived.Test.YtmlocdfjjgbnjaaChLaw1
import Derived.Lib.SliceRun
namespace Go.Proofs.Ytmlocdfjjgbnjaa.Cn

/-- what stands below a place: -1, or the Ts of the version ahead of it -/
def Bel (c : Ch) (k : Nat) (b : Int) : Prop := (k = 0 ∧ b = -1) ∨ ∃ j, ∃ hj : j < c.length, k = j + 1 ∧ b = c[j].ts
/-- the first k are in order -/
def Up (c : Ch) (k : Nat) : Prop := (∀ j (hj : j < c.length), j < k → 0 ≤ c[j].ts ∧ c[j].ts ≤ c[j].rd) ∧ ∀ j (hj : j + 1 < c.length), j + 1 < k → c[j].ts < c[j + 1].ts

theorem Up.bad {c : Ch} {k : Nat} {b : Int} (hb : Bel c k b) (hk : k < c.length) (h : c[k].ts ≤ b) : mayB c = false := by
  rcases hb with ⟨rfl, rfl⟩ | ⟨j, hj, rfl, rfl⟩
  · exact may_bad1 hk (Or.inl (by omega))
  · exact may_bad2 hk h
theorem Up.more {c : Ch} {k : Nat} {b : Int} (hu : Up c k) (hb : Bel c k b) (hk : k < c.length) (h1 : ¬ c[k].ts ≤ b) (h2 : ¬ c[k].rd < c[k].ts) : Up c (k + 1) ∧ Bel c (k + 1) c[k].ts := by
  have h0 : 0 ≤ c[k].ts := by
    rcases hb with ⟨rfl, rfl⟩ | ⟨j, hj, rfl, rfl⟩
    · omega
    · have := (hu.1 j hj (by omega)).1; omega
  refine ⟨⟨fun j hj hjk => ?_, fun j hj hjk => ?_⟩, Or.inr ⟨k, hk, rfl, rfl⟩⟩
  · by_cases e : j = k
    · subst e; omega
    · exact hu.1 j hj (by omega)
  · by_cases e : j + 1 = k
    · subst e
      rcases hb with ⟨e, _⟩ | ⟨i, hi, e, rfl⟩
      · omega
      · obtain rfl : j = i := by omega
        omega
    · exact hu.2 j hj (by omega)
theorem Up.done {c : Ch} (hu : Up c c.length) (h0 : 0 < c.length) : mayB c = c[0].done := may_good (fun k hk => hu.1 k hk hk) (fun j hj => hu.2 j hj hj) h0
theorem look_end {c : Ch} {ts : Int} (hm : May c) {k : Nat} (hk : k ≤ c.length) (hi : ∀ j (hj : j < c.length), k ≤ j → ts < c[j].ts) (hl : ∀ j (hj : j < c.length), j + 1 = k → c[j].ts ≤ ts) : look c ts = (k : Int) - 1 := by
  rw [look_is hm]
  have e : lo c ts = k := by
    have := lo_of (a := c.take k) (b := c.drop k) (ts := ts) (fun x hx => ?_) (fun x hx => ?_)
    · rw [List.take_append_drop, List.length_take] at this
      omega
    · obtain ⟨i, hi', rfl⟩ := List.getElem_of_mem hx
      rw [List.length_take] at hi'
      rw [List.getElem_take]
      by_cases e : i + 1 = k
      · exact hl i (by omega) e
      · have h1 := hl (k - 1) (by omega) (by omega)
        have h2 := List.pairwise_iff_getElem.1 hm.up i (k - 1) (by omega) (by omega) (by omega)
        omega
    · obtain ⟨i, hi', rfl⟩ := List.getElem_of_mem hx
      rw [List.getElem_drop]
      exact hi _ _ (by omega)
  rw [e]
/-- the place of one's own version -/
def ownI (c : Ch) (ts : Int) : Int := match at? c ts with
  | none => -1
  | some k => if (getV c k).ts = ts then (k : Int) else -1
end Go.Proofs.Ytmlocdfjjgbnjaa.Cn

namespace Go.Proofs.Ytmlocdfjjgbnjaa
open Go.RowKit

theorem infoCv : (Try.prog.info? 40).map (·.size) = some 4 := by kernel_rfl

set_option maxRecDepth 100000 in
set_option maxHeartbeats 2000000 in
theorem clone10 {w : World} {F : Nat → Prop} {v : Value} {c : Cn.Ch} (h : SlC w F v c) (hF : ∀ b, F b → b < w.heap.size) (hl : c.length ≤ 1000000) :
    Calls Try.prog 40 #[v] w fun e w' => ∃ v', e = .returned v' ∧ w'.ownsRow w.heap.size 40 4 v' c.length (verV c) ∧ Below w.heap.size w w' := by
  have hb0 : Below w.heap.size w (w.alloc (.cells #[] 40)) := (Below.refl _ _).alloc (Nat.le_refl _) _
  have HS := Lib.hid (h.below hb0 hF)
  obtain ⟨_, A, cp, rfl, hc, hx⟩ := h
  cases A with
  | none =>
    have hl0 : c = [] := by
      cases c with
      | nil => rfl
      | cons x r => obtain ⟨a, e, _⟩ := hx (by simp); cases e
    subst hl0
    have heq := Lib.run_eql_slice_nil (P := Try.prog) w 25 40 none 0 cp 0 0 Try.underlying25
    clear HS hx
    go_enter Try.func40, Try.ntmps40
    go_wp2
    go_ret
    exact ⟨_, rfl, S.own_nil _ _ _ _, Below.refl _ _⟩
  | some a =>
    have heq := Lib.run_eql_slice_nil (P := Try.prog) w 25 40 (some a) c.length cp 0 0 Try.underlying25
    clear hx
    go_enter Try.func40, Try.ntmps40
    go_wp2_with (at_builtin; refine S.wpList_append_sg elCv rfl _ _ rfl (base := w.heap.size) (n := 0) (m := c.length) (xs := []) (cs := verV c) rfl rfl (S.own_none 40 4 rfl (Nat.le_refl _)) HS.out (verV_one c) (by omega) (by omega) (by simp) ?_)
    intro v1 w1 hown hgrow _
    have hb1 : Below w.heap.size w w1 := hb0.grown hgrow hb0.size (fun j hj => by simp [Value.ownBlock] at hj; omega)
    have HO := Lib.hid (show w1.ownsRow w.heap.size 40 4 v1 c.length (verV c) by simpa using hown)
    clear hown hgrow
    go_wp2
    go_ret
    exact ⟨_, rfl, HO.out, hb1⟩

set_option maxRecDepth 100000 in
set_option maxHeartbeats 2000000 in
theorem fresh10 (w : World) : Calls Try.prog 39 #[] w fun e w' => ∃ v', e = .returned v' ∧ SlC w' (S.New w w') v' Cn.fresh ∧ Below w.heap.size w w' := by
  have HS := Lib.hid (sg_row4 w 40 #[.int .i64 0, .int .i64 0, .string ByteArray.empty, .bool true] rfl)
  have HB : Hid (Below w.heap.size w (w.alloc (.cells #[.int .i64 0, .int .i64 0, .string ByteArray.empty, .bool true] 40))) := Lib.hid ((Below.refl _ _).alloc (Nat.le_refl _) _)
  go_enter Try.func39, Try.ntmps39
  go_wp2
  go_ret
  exact ⟨_, rfl, HS.out.wider (fun b hb => by subst hb; exact ⟨Nat.le_refl _, by simp⟩), HB.out⟩

set_option maxRecDepth 100000 in
set_option maxHeartbeats 4000000 in
theorem may10 {w : World} {F : Nat → Prop} {v : Value} {c : Cn.Ch} (h : SlC w F v c) (hF : ∀ b, F b → b < w.heap.size) (hl : c.length ≤ 1000) :
    Calls Try.prog 23 #[v] w fun e w' => e = .returned (.bool (Cn.mayB c)) ∧ Below w.heap.size w w' := by
  have HS := Lib.hid h
  obtain ⟨A, cap, rfl, hcap⟩ := SlC.form h
  clear h
  go_enter Try.func23, Try.ntmps23
  go_wp2
  go_loopw [3, 8] (fun b i wr => ∃ (k : Nat) (bb : Int), k ≤ c.length ∧ b = .int .i64 bb ∧ i = .int .i64 (k : Int) ∧ Hid (Below w.heap.size w wr) ∧ Hid (Cn.Bel c k bb) ∧ Hid (Cn.Up c k)) (fun _ i _ => c.length - (intOf i).toNat)
  case atStart => exact ⟨0, -1, Nat.zero_le _, rfl, rfl, Lib.hid (Below.refl _ _), Lib.hid (Or.inl ⟨rfl, rfl⟩), Lib.hid ⟨fun j _ h => absurd h (Nat.not_lt_zero _), fun j _ h => absurd h (Nat.not_lt_zero _)⟩⟩
  case round =>
    obtain ⟨k, bb, hk, rfl, rfl, HB, HE, HU⟩ := hrel
    by_cases hlt : k < c.length
    · have hlt' : (k : Int) < (c.length : Int) := by omega
      have hk0 : (0 : Int) ≤ (k : Int) := by omega
      obtain ⟨a, _, ea, _, _, y0, y1, y2, y3⟩ := SlC.nth (HS.out.below HB.out hF) k hlt
      cases ea
      have HBW : Hid (∀ o, Below w.heap.size w (wr.alloc o)) := Lib.hid (fun o => HB.out.alloc HB.out.size o)
      by_cases h1 : c[k].ts ≤ bb
      · have HV := Lib.hid (Cn.Up.bad HE.out hlt h1)
        generalize c[k] = u at *
        go_wp2
        go_ret
        exact ⟨ret_v (by rw [HV.out]; rfl), HBW.out _⟩
      · by_cases h2 : c[k].rd < c[k].ts
        · have HV := Lib.hid (Cn.may_bad1 hlt (Or.inr h2))
          generalize c[k] = u at *
          go_wp2
          go_ret
          exact ⟨ret_v (by rw [HV.out]; rfl), HBW.out _⟩
        · have HN := Lib.hid (Cn.Up.more HU.out HE.out hlt h1 h2)
          clear HE HU
          obtain ⟨u, hu⟩ : ∃ u, u = c[k] := ⟨_, rfl⟩
          have HUE := Lib.hid hu
          rw [← hu] at y0 y1 y2 y3 h1 h2
          clear hu
          go_wp2
          go_roundw
          case rel => exact ⟨k + 1, u.ts, by omega, rfl, by go_num, Lib.hid (HBW.out _), Lib.hid (by rw [HUE.out]; exact HN.out.2), Lib.hid HN.out.1⟩
          case measure => simp [intOf]; omega
    · obtain rfl : k = c.length := by omega
      have hlt' : ¬ (c.length : Int) < (c.length : Int) := by omega
      by_cases h0 : 0 < c.length
      · have h0' : (c.length : Int) > 0 := by omega
        have h0'' : (0 : Int) < (c.length : Int) := by omega
        obtain ⟨a, _, ea, _, _, x0, x1, x2, x3⟩ := SlC.nth (HS.out.below HB.out hF) 0 h0
        cases ea
        have x3 : wr.cell? ⟨a.block, a.off + 3, none⟩ = some (.bool c[0].done) := by simpa [Addr.add] using x3
        have HV := Lib.hid (Cn.Up.done HU.out h0)
        clear x0 x1 x2 HE HU
        generalize c[0].done = b at *
        go_wp2
        go_ret
        exact ⟨ret_v (by rw [HV.out]; rfl), HB.out⟩
      · have hz : c = [] := List.length_eq_zero_iff.1 (by omega)
        subst hz
        go_wp2
        go_ret
        exact ⟨rfl, HB.out⟩

set_option maxRecDepth 100000 in
set_option maxHeartbeats 4000000 in
theorem look10 {w : World} {F : Nat → Prop} {v : Value} {c : Cn.Ch} (h : SlC w F v c) (hF : ∀ b, F b → b < w.heap.size) (hl : c.length ≤ 1000) (ts : Int) :
    Calls Try.prog 20 #[v, .int .i64 ts] w fun e w' => e = .returned (.int .i64 (Cn.look c ts)) ∧ Below w.heap.size w w' := by
  have HS := Lib.hid h
  have HM := Lib.hid (may10 h hF hl)
  obtain ⟨A, cap, rfl, hcap⟩ := SlC.form h
  clear h
  cases hb : Cn.mayB c with
  | true =>
    rw [hb] at HM
    have HMay := Lib.hid ((Cn.mayB_iff c).1 hb)
    clear hb
    go_enter Try.func20, Try.ntmps20
    go_wp2_with (first
      | (go_at_call 23; refine HM.out.mono ?_; rintro e w1 ⟨rfl, hb1⟩; have HB1 := Lib.hid hb1; clear hb1))
    go_loopw [5] (fun va wr => ∃ k : Nat, k ≤ c.length ∧ va = .int .i64 ((k : Int) - 1) ∧ Hid (Below w.heap.size w wr) ∧ Hid (∀ j (hj : j < c.length), k ≤ j → ts < c[j].ts)) (fun va _ => (intOf va + 1).toNat)
    case atStart => exact ⟨c.length, Nat.le_refl _, by first | rfl | go_num, HB1, Lib.hid (fun j hj h => absurd hj (by omega))⟩
    case round =>
      obtain ⟨k, hk, rfl, HB, HI⟩ := hrel
      obtain ⟨z, hz⟩ : ∃ z : Int, z = (k : Int) - 1 := ⟨_, rfl⟩
      rw [← hz]
      cases k with
      | zero =>
        obtain rfl : z = -1 := hz
        have HV := Lib.hid (Cn.look_end HMay.out (Nat.zero_le _) HI.out (fun j _ h => absurd h (by omega)))
        go_wp2
        go_ret
        exact ⟨ret_v (by rw [HV.out]; rfl), HB.out⟩
      | succ j =>
        obtain rfl : z = (j : Int) := by omega
        clear hz
        have hj : j < c.length := by omega
        have hj0 : (0 : Int) ≤ (j : Int) := by omega
        have hj1 : (j : Int) < (c.length : Int) := by omega
        obtain ⟨a, _, ea, _, _, y0, _, _, _⟩ := SlC.nth (HS.out.below HB.out hF) j hj
        cases ea
        by_cases hc : ts < c[j].ts
        · have HN : Hid (∀ i (hi : i < c.length), j ≤ i → ts < c[i].ts) := Lib.hid (fun i hi hji => by
            by_cases e : i = j
            · subst e; exact hc
            · exact HI.out i hi (by omega))
          have hc' : c[j].ts > ts := hc
          generalize c[j].ts = u at *
          go_wp2
          go_roundw
          case rel => exact ⟨j, by omega, by go_num, HB, HN⟩
          case measure => simp [intOf]
        · have HV : Hid (Cn.look c ts = (j : Int)) := Lib.hid (by
            have := Cn.look_end HMay.out hk HI.out (fun i hi e => by obtain rfl : i = j := by omega
                                                                     omega)
            rw [this]; omega)
          have hc' : ¬ c[j].ts > ts := hc
          generalize c[j].ts = u at *
          go_wp2
          go_ret
          exact ⟨ret_v (by rw [HV.out]; rfl), HB.out⟩
  | false =>
    rw [hb] at HM
    have HV := Lib.hid (Cn.look_no (c := c) (fun h => by rw [(Cn.mayB_iff c).2 h] at hb; cases hb) ts)
    clear hb
    go_enter Try.func20, Try.ntmps20
    go_wp2_with (first
      | (go_at_call 23; refine HM.out.mono ?_; rintro e w1 ⟨rfl, hb1⟩; have HB1 := Lib.hid hb1; clear hb1))
    go_ret
    exact ⟨ret_v (by rw [HV.out]; rfl), HB1.out⟩

set_option maxRecDepth 100000 in
set_option maxHeartbeats 4000000 in
theorem late10 (u : Cn.Vr) (ts : Int) (w : World) : Calls Try.prog 41 #[verA u, .int .i64 ts] w fun e w' => e = .returned (.bool (Cn.lateV u ts)) ∧ Below w.heap.size w w' := by
  obtain ⟨uts, urd, uv, ud⟩ := u
  have HB : Hid (∀ o, Below w.heap.size w (w.alloc o)) := Lib.hid (fun o => (Below.refl _ _).alloc (Nat.le_refl _) o)
  unfold verA
  by_cases h1 : ts < urd
  · have HV : Hid (Cn.lateV ⟨uts, urd, uv, ud⟩ ts = true) := Lib.hid (by unfold Cn.lateV; simp [h1])
    have h1' : urd > ts := h1
    go_enter Try.func41, Try.ntmps41
    go_wp2
    go_ret
    exact ⟨ret_v (by rw [HV.out]; rfl), HB.out _⟩
  · have h1' : ¬ urd > ts := h1
    cases ud with
    | false =>
      have HV : Hid (Cn.lateV ⟨uts, urd, uv, false⟩ ts = false) := Lib.hid (by unfold Cn.lateV; simp [h1])
      go_enter Try.func41, Try.ntmps41
      go_wp2
      go_ret
      exact ⟨ret_v (by rw [HV.out]; rfl), HB.out _⟩
    | true =>
      by_cases h2 : uts = ts
      · have HV : Hid (Cn.lateV ⟨uts, urd, uv, true⟩ ts = true) := Lib.hid (by unfold Cn.lateV; simp [h2])
        have h2' : (uts == ts) = true := by simpa using h2
        clear h2
        go_enter Try.func41, Try.ntmps41
        go_wp2
        go_ret
        exact ⟨ret_v (by rw [HV.out]; rfl), HB.out _⟩
      · have HV : Hid (Cn.lateV ⟨uts, urd, uv, true⟩ ts = false) := Lib.hid (by unfold Cn.lateV; simp [h1, h2])
        have h2' : (uts == ts) = false := by simpa using h2
        clear h2
        go_enter Try.func41, Try.ntmps41
        go_wp2
        go_ret
        exact ⟨ret_v (by rw [HV.out]; rfl), HB.out _⟩

end Go.Proofs.Ytmlocdfjjgbnjaa
