/-
  Walks of the document's chain: Look, Same, with.
-/
import Derived.Test.YtpppjipelcfnkaaChRef
namespace Go.Proofs.Ytpppjipelcfnkaa
open Go.RowKit

theorem Still.trans {w w1 w2 : World} (h : Still w w1) (k : Still w1 w2) : Still w w2 := ⟨h.low.trans (k.low.mono h.low.size), fun p => (k.cell p).trans (h.cell p)⟩

set_option maxRecDepth 100000 in
set_option maxHeartbeats 4000000 in
theorem rlook10_any {w : World} {F : Nat → Prop} {v : Value} {c : Cn.Ch} (h : SlC w F v c) (hl : c.length ≤ 1000000) (ts : Int) : Calls Try.prog 62 #[v, .int .i64 ts] w fun e w' => e = .returned (.int .i64 (Cn.look c ts)) ∧ Still w w' := by
  have HS := Lib.hid h
  obtain ⟨A, cap, rfl, hcap⟩ := SlC.form h
  clear h
  have HM : Hid (∀ W, Still w W → Calls Try.prog 49 #[.slice A c.length cap] W fun e w' => e = .returned (.bool (Cn.mayB c)) ∧ Still w w') := Lib.hid (fun W hW => (rmay10_any (HS.out.keep (fun p _ => hW.cell p)) hl).mono (fun _ _ hh => ⟨hh.1, hW.trans hh.2⟩))
  cases hb : Cn.mayB c with
  | true =>
    rw [hb] at HM
    have HMay := Lib.hid ((Cn.mayB_iff c).1 hb)
    clear hb
    go_enter Try.func62, Try.ntmps62
    go_wp2
    go_loopw [5, 6] (fun va i wr => ∃ (k n : Nat), k ≤ c.length ∧ n ≤ k ∧ i = .int .i64 (k : Int) ∧ va = .int .i64 ((n : Int) - 1) ∧ Hid (Still w wr) ∧ Hid (Cn.lo (c.take k) ts = n)) (fun _ i _ => c.length - (intOf i).toNat)
    case atStart => exact ⟨0, 0, Nat.zero_le _, Nat.le_refl _, rfl, rfl, Lib.hid (Still.refl _), Lib.hid (by simp [Cn.lo])⟩
    case round =>
      obtain ⟨k, n, hk, hn, rfl, rfl, HW, HI⟩ := hrel
      by_cases hlt : k < c.length
      · have hlt' : (k : Int) < (c.length : Int) := by omega
        have hk0 : (0 : Int) ≤ (k : Int) := by omega
        obtain ⟨a, _, ea, _, _, x0, _, _, _⟩ := HS.out.nth k hlt
        cases ea
        have X0 := Lib.hid x0
        have HT := Lib.hid (Cn.lo_take HMay.out ts hlt)
        clear x0
        by_cases hc : c[k].ts ≤ ts
        · have HN : Hid (Cn.lo (c.take (k + 1)) ts = k + 1) := Lib.hid (by rw [HT.out, if_pos hc])
          generalize c[k].ts = u at *
          clear HT
          go_wp2_with (first
            | (go_at_call 49; refine (HM.out _ HW.out).mono ?_; rintro e w1 ⟨rfl, hs⟩; have x0 := (hs.cell _).trans X0.out; have HW1 := Lib.hid hs; clear hs))
          go_roundw
          case rel => exact ⟨k + 1, k + 1, by omega, by omega, by go_num, by go_num, HW1, HN⟩
          case measure => simp [intOf]; omega
        · have HN : Hid (Cn.lo (c.take (k + 1)) ts = n) := Lib.hid (by rw [HT.out, if_neg hc]; exact HI.out)
          generalize c[k].ts = u at *
          clear HT
          go_wp2_with (first
            | (go_at_call 49; refine (HM.out _ HW.out).mono ?_; rintro e w1 ⟨rfl, hs⟩; have x0 := (hs.cell _).trans X0.out; have HW1 := Lib.hid hs; clear hs))
          go_roundw
          case rel => exact ⟨k + 1, n, by omega, by omega, by go_num, rfl, HW1, HN⟩
          case measure => simp [intOf]; omega
      · obtain rfl : k = c.length := by omega
        have hlt' : ¬ (c.length : Int) < (c.length : Int) := by omega
        have HV : Hid (Cn.look c ts = (n : Int) - 1) := Lib.hid (by rw [Cn.look_is HMay.out, ← HI.out, List.take_length])
        go_wp2
        go_ret
        exact ⟨ret_v (by rw [HV.out]; rfl), HW.out⟩
  | false =>
    rw [hb] at HM
    have HV := Lib.hid (Cn.look_no (c := c) (fun h => by rw [(Cn.mayB_iff c).2 h] at hb; cases hb) ts)
    clear hb
    go_enter Try.func62, Try.ntmps62
    go_wp2
    go_loopw [5, 6] (fun va i wr => va = .int .i64 (-1) ∧ i = .int .i64 0 ∧ Hid (Still w wr)) (fun _ _ _ => 0)
    case atStart => exact ⟨rfl, rfl, Lib.hid (Still.refl _)⟩
    case round =>
      obtain ⟨rfl, rfl, HW⟩ := hrel
      by_cases h0 : 0 < c.length
      · have h1 : (0 : Int) < (c.length : Int) := by omega
        go_wp2_with (first
          | (go_at_call 49; refine (HM.out _ HW.out).mono ?_; rintro e w1 ⟨rfl, hs⟩))
        go_ret
        exact ⟨ret_v (by rw [HV.out]; rfl), hs⟩
      · have h1 : ¬ (0 : Int) < (c.length : Int) := by omega
        go_wp2
        go_ret
        exact ⟨ret_v (by rw [HV.out]; rfl), HW.out⟩

/-- a version written over in a row of one's own -/
theorem sg_set4 {w : World} {F : Nat → Prop} {g n cap : Nat} {xs : List Value} (h : S.Sg w F 4 (.slice (some ⟨g, 0, none⟩) n cap) n xs) {o : Nat} (vs : List Value) (ho : o + vs.length ≤ n * 4) : S.Sg (w.setCells g o vs) F 4 (.slice (some ⟨g, 0, none⟩) n cap) n (splice xs o vs) := by
  obtain ⟨hlen, A, cap', e, hc, hx⟩ := h
  cases e
  refine ⟨by rw [length_splice _ _ _ (by omega)]; exact hlen, _, cap, rfl, hc, fun hn => ?_⟩
  obtain ⟨a, e, hF, hx⟩ := hx hn
  cases e
  refine ⟨_, rfl, hF, fun j u hj => ?_⟩
  have hadd : ∀ j, (⟨g, 0, none⟩ : Addr).add j = ⟨g, j, none⟩ := fun j => by cases j <;> simp [Addr.add]
  rw [hadd]
  have hjl := (List.getElem?_eq_some_iff.1 hj).1
  rw [length_splice _ _ _ (by omega)] at hjl
  have hxs : ∀ i, i < xs.length → w.cell? ⟨g, i, none⟩ = xs[i]? := fun i hi => by
    have := hx i _ (List.getElem?_eq_getElem hi)
    rw [hadd] at this
    rw [this]
    exact (List.getElem?_eq_getElem hi).symm
  unfold splice at hj
  by_cases h1 : j < o
  · rw [World.cell?_setCells_out g vs o w ⟨g, j, none⟩ (fun _ _ => Or.inl h1), hxs j hjl, ← hj, List.getElem?_append_left (by simp; omega), List.getElem?_take_of_lt h1]
  · by_cases h2 : j < o + vs.length
    · have hj2 : j - o < vs.length := by omega
      have h3 := World.cell?_setCells_in g vs o w (fun i hi => by rw [hxs (o + i) (by omega), List.getElem?_eq_getElem (by omega)]; rfl) (j - o) hj2
      rw [show o + (j - o) = j by omega] at h3
      rw [List.getElem?_append_right (by simp; omega), List.getElem?_append_left (by simp; omega)] at hj
      rw [h3, ← hj]
      have e4 : j - (List.take o xs).length = j - o := by simp; omega
      rw [e4]
      exact (List.getElem?_eq_getElem hj2).symm
    · rw [World.cell?_setCells_out g vs o w ⟨g, j, none⟩ (fun _ _ => Or.inr (by show _ ≤ j; omega)), hxs j hjl, ← hj, List.getElem?_append_right (by simp; omega), List.getElem?_append_right (by simp; omega), List.getElem?_drop]
      congr 1
      simp
      omega
theorem SlC.set {w : World} {F : Nat → Prop} {g cap : Nat} {c : Cn.Ch} (h : SlC w F (.slice (some ⟨g, 0, none⟩) c.length cap) c) {k : Nat} (hk : k < c.length) (x : Cn.Vr) : SlC (w.setCells g (k * 4) (verC x)) F (.slice (some ⟨g, 0, none⟩) c.length cap) (c.set k x) := by
  have := sg_set4 h (o := k * 4) (verC x) (by show k * 4 + 4 ≤ _; omega)
  show S.Sg _ F 4 _ (c.set k x).length (verV (c.set k x))
  rw [List.length_set, verV, V.flat_set (f := verC) (m := 4) c (fun _ _ => rfl) k hk x rfl]
  exact this

end Go.Proofs.Ytpppjipelcfnkaa
