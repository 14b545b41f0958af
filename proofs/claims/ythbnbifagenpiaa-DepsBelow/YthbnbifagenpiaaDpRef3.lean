/-
  Walks of the document's deps: Drop, Same.
-/
import Derived.Test.YthbnbifagenpiaaDpRef2
namespace Go.Proofs.Ythbnbifagenpiaa.Dp
open T (Rises)
theorem rounds_len (d : List Wt) (ts : Int) (k : Nat) : (rounds d k [ts]).length ≤ d.length + 1 := by
  have hr : Rises [ts] := List.pairwise_singleton _ _
  have h := nodup_le (rounds d k [ts]) (ts :: d.map Prod.fst) (rounds_rises (d := d) k hr).nodup (fun x hx => rounds_only (C := fun x => x ∈ ts :: d.map Prod.fst) (fun q hq _ => List.mem_cons_of_mem _ (List.mem_map_of_mem hq)) k (fun x hx => by rw [List.mem_singleton] at hx; subst hx; simp) x hx)
  simpa using h
end Go.Proofs.Ythbnbifagenpiaa.Dp

namespace Go.Proofs.Ythbnbifagenpiaa
open Go.RowKit

theorem put_beside {w wq : World} {v : Value} {Y : List Int} (h : SlN wq (S.New w wq) v Y) (hl : Y.length ≤ 1000000) (n : Int) (W : World) (hb : Below wq.heap.size wq W) :
    Calls Try.prog 26 #[v, .int .i64 n] W fun e w' => ∃ v', e = .returned v' ∧ SlN w' (fun b => S.New w W b ∨ S.New W w' b) v' (Dp.put Y n) ∧ Below W.heap.size W w' :=
  rput12_any ((S.Sg.below h hb (fun _ q => q.2)).wider (fun _ q => ⟨q.1, Nat.lt_of_lt_of_le q.2 hb.size⟩)) (fun _ q => q.2) hl n
theorem without_beside {w wq : World} {F : Nat → Prop} {v vl : Value} {d : List Dp.Wt} {X : List Int} (h : SlW w F v d) (hF : ∀ b, F b → b < w.heap.size) (hb : Below w.heap.size w wq) (hx : SlN wq (S.New w wq) vl X) (hl : d.length ≤ 100000) (hxl : X.length ≤ 1000000) :
    Calls Try.prog 24 #[v, vl] wq fun e w' => ∃ v', e = .returned v' ∧ SlW w' (S.New wq w') v' (Dp.without d X) ∧ Below wq.heap.size wq w' :=
  rwithout12_any ((S.Sg.below h hb hF).wider (G := fun b => F b ∨ S.New w wq b) (fun _ q => Or.inl q)) (hx.wider (fun _ q => Or.inr q)) (fun b q => q.elim (fun q => Nat.lt_of_lt_of_le (hF b q) hb.size) (fun q => q.2)) hl hxl

set_option maxRecDepth 100000 in
set_option maxHeartbeats 4000000 in
theorem rdrop12_any {w : World} {F : Nat → Prop} {v : Value} {d : List Dp.Wt} (h : SlW w F v d) (hF : ∀ b, F b → b < w.heap.size) (hl : d.length ≤ 10000) (ts : Int) :
    Calls Try.prog 25 #[v, .int .i64 ts] w fun e w' => ∃ v' vl, e = .returned (.tuple #[v', vl]) ∧ SlW w' (fun b => F b ∨ S.New w w' b) v' (Dp.dropD d ts) ∧ SlN w' (S.New w w') vl (Dp.dropL d ts) ∧ Below w.heap.size w w' := by
  have HS := Lib.hid h
  obtain ⟨A, cap, rfl, hcap⟩ := wt_form h
  clear h
  by_cases ht : ts < 1
  · have HE : Hid (Dp.dropD d ts = d ∧ Dp.dropL d ts = []) := Lib.hid ⟨by unfold Dp.dropD; rw [if_pos ht], by unfold Dp.dropL; rw [if_pos ht]⟩
    go_enter Try.func25, Try.ntmps25
    go_wp2
    refine bodyPost_ret (results_tmp2 rfl _ _ _) rfl ?_
    refine ⟨_, _, rfl, ?_, ?_, Below.refl _ _⟩
    · rw [HE.out.1]; exact HS.out.wider (fun b q => Or.inl q)
    · rw [HE.out.2]; exact S.Sg.nil _ _ _ _ _
  · have HE : Hid (Dp.dropD d ts = Dp.without d (Dp.dropL d ts) ∧ Dp.dropL d ts = Dp.rounds d d.length [ts]) := Lib.hid ⟨by unfold Dp.dropD; rw [if_neg ht], by unfold Dp.dropL; rw [if_neg ht]⟩
    have HRl := Lib.hid (Dp.rounds_len d ts)
    have HRs := Lib.hid (fun k => Dp.rounds_succ d k [ts])
    have H0 : Hid (Dp.rounds d 0 [ts] = [ts]) := Lib.hid rfl
    have hb1 : Below w.heap.size w (w.alloc (.cells #[.int .i64 ts] 2)) := (Below.refl _ _).alloc (Nat.le_refl _) _
    have HB1 := Lib.hid hb1
    have HO1 : Hid (SlN (w.alloc (.cells #[.int .i64 ts] 2)) (S.New w (w.alloc (.cells #[.int .i64 ts] 2))) (.slice (some ⟨w.heap.size, 0, none⟩) 1 1) [ts]) := Lib.hid ((S.Sg.one w 2 (.int .i64 ts)).wider (fun b q => by subst q; exact ⟨Nat.le_refl _, by simp⟩))
    clear hb1
    go_enter Try.func25, Try.ntmps25
    go_wp2
    go_loopw [6, 7] (fun r i wr => ∃ (t : Nat) (X : List Int), t ≤ d.length ∧ X.length ≤ d.length + 1 ∧ i = .int .i64 (t : Int) ∧ Hid (Dp.rounds d t [ts] = X) ∧ Hid (SlN wr (S.New w wr) r X) ∧ Hid (Below w.heap.size w wr)) (fun _ i _ => d.length - (intOf i).toNat)
    case atStart => exact ⟨0, [ts], Nat.zero_le _, by simp, rfl, H0, HO1, HB1⟩
    case round =>
      obtain ⟨t, X, htl, hX, rfl, HX, HO, HB⟩ := hrel
      obtain ⟨Ar, cr, rfl, _⟩ := num_form HO.out
      by_cases hlt : t < d.length
      · have hlt' : (t : Int) < (d.length : Int) := by omega
        have ht0 : (0 : Int) ≤ (t : Int) := by omega
        have HN := Lib.hid (HRs.out t)
        have HXl := Lib.hid (HRl.out (t + 1))
        have HSu := Lib.hid (fun k (hk : k < d.length) => Dp.round_succ (l := X) hk)
        go_wp2_with fail
        go_loopw [6, 8] (fun r i wq => ∃ (k : Nat) (Y : List Int), k ≤ d.length ∧ Y.length ≤ d.length + 1 + k ∧ i = .int .i64 (k : Int) ∧ Hid (Dp.round (d.take k) X = Y) ∧ Hid (SlN wq (S.New w wq) r Y) ∧ Hid (Below w.heap.size w wq)) (fun _ i _ => d.length - (intOf i).toNat)
        case atStart => exact ⟨0, X, Nat.zero_le _, by omega, rfl, Lib.hid rfl, HO, HB⟩
        case round =>
          clear HO HB
          obtain ⟨k, Y, hk, hY, rfl, HY, HO, HB⟩ := hrel
          obtain ⟨Ay, cy, rfl, _⟩ := num_form HO.out
          by_cases hkt : k < d.length
          · have hkt' : (k : Int) < (d.length : Int) := by omega
            have hk0 : (0 : Int) ≤ (k : Int) := by omega
            obtain ⟨a, rfl, hFa, x0, x1⟩ := wt_nth (S.Sg.below HS.out HB.out hF) k hkt
            have HAd : Hid (∀ W, Below w.heap.size w W → W.cell? (a.add (k * 2)) = some (.int .i64 d[k].1) ∧ W.cell? ⟨(a.add (k * 2)).block, (a.add (k * 2)).off + 1, none⟩ = some (.int .i64 d[k].2)) := Lib.hid (fun W hb => by
              obtain ⟨a', e, _, y0, y1⟩ := wt_nth (S.Sg.below HS.out hb hF) k hkt
              cases e
              exact ⟨y0, y1⟩)
            have H1 := Lib.hid (HSu.out k hkt)
            generalize d[k] = u at *
            obtain ⟨u1, u2⟩ := u
            dsimp only at *
            have HI := Lib.hid (rin12_any HO.out (fun b q => q.2) (by omega) u2)
            by_cases hm : u2 ∈ Y
            · have HNy : Hid (Dp.round (d.take (k + 1)) X = Dp.put Y u1) := Lib.hid (by rw [H1.out, HY.out, if_pos hm])
              rw [show Dp.has Y u2 = true from decide_eq_true hm] at HI
              have HP := Lib.hid (put_beside HO.out (by omega) u1)
              have HLn : Hid ((Dp.put Y u1).length ≤ Y.length + 1) := Lib.hid Dp.put_len
              clear hm
              generalize Dp.put Y u1 = Z at *
              go_wp2_with (first
                | (go_at_call 32; refine HI.out.mono ?_; rintro e w2 ⟨rfl, hb2⟩; have HB2 := Lib.hid (HB.out.trans (hb2.mono HB.out.size)); have HB2' := Lib.hid hb2; clear hb2 x0 x1; obtain ⟨x0, x1⟩ := HAd.out _ HB2.out)
                | (go_at_call 26; refine (HP.out _ HB2'.out).mono ?_; rintro e w3 ⟨v3, rfl, h3, hb3⟩; have HB3 := Lib.hid (HB2.out.trans (hb3.mono HB2.out.size)); have HO3 : Hid (SlN w3 (S.New w w3) v3 Z) := Lib.hid (h3.wider (fun b q => q.elim (fun q => ⟨q.1, Nat.lt_of_lt_of_le q.2 hb3.size⟩) (fun q => ⟨Nat.le_trans HB2.out.size q.1, q.2⟩))); obtain ⟨A3, c3, rfl, _⟩ := num_form h3; clear h3 hb3))
              go_roundw
              case rel => exact ⟨k + 1, Z, by omega, by have := HLn.out; omega, by go_num, HNy, HO3, HB3⟩
              case measure => simp [intOf]; omega
            · have HNy : Hid (Dp.round (d.take (k + 1)) X = Y) := Lib.hid (by rw [H1.out, HY.out, if_neg hm])
              rw [show Dp.has Y u2 = false from decide_eq_false hm] at HI
              clear hm
              go_wp2_with (go_at_call 32; refine HI.out.mono ?_; rintro e w2 ⟨rfl, hb2⟩; have HB2 := Lib.hid (HB.out.trans (hb2.mono HB.out.size)); have HO2 : Hid (SlN w2 (S.New w w2) (.slice Ay Y.length cy) Y) := Lib.hid ((S.Sg.below HO.out hb2 (fun b q => q.2)).wider (fun b q => ⟨q.1, Nat.lt_of_lt_of_le q.2 hb2.size⟩)); clear hb2)
              go_roundw
              case rel => exact ⟨k + 1, Y, by omega, by omega, by go_num, HNy, HO2, HB2⟩
              case measure => simp [intOf]; omega
          · obtain rfl : k = d.length := by omega
            have hkt' : ¬ (d.length : Int) < (d.length : Int) := by omega
            have HN2 : Hid (Dp.rounds d (t + 1) [ts] = Y) := Lib.hid (by
              have hy := HY.out
              rw [List.take_length] at hy
              rw [HN.out, HX.out, hy])
            go_wp2_with fail
            go_roundw
            case rel => exact ⟨t + 1, Y, by omega, by have := HXl.out; rw [HN2.out] at this; exact this, by go_num, HN2, HO, HB⟩
            case measure => simp [intOf]; omega
      · obtain rfl : t = d.length := by omega
        have hlt' : ¬ (d.length : Int) < (d.length : Int) := by omega
        have HW := Lib.hid (without_beside HS.out hF HB.out HO.out (by omega) (by omega))
        go_wp2_with (go_at_call 24; refine HW.out.mono ?_; rintro e w2 ⟨v2, rfl, h2, hb2⟩; have HB2 := Lib.hid (HB.out.trans (hb2.mono HB.out.size)); have H2 := Lib.hid h2; have HO2 : Hid (SlN w2 (S.New w w2) (.slice Ar X.length cr) X) := Lib.hid ((S.Sg.below HO.out hb2 (fun b q => q.2)).wider (fun b q => ⟨q.1, Nat.lt_of_lt_of_le q.2 hb2.size⟩)); obtain ⟨A2, c2, rfl, _⟩ := wt_form h2; clear h2 hb2)
        refine bodyPost_ret (results_tmp2 rfl _ _ _) rfl ?_
        refine ⟨_, _, rfl, ?_, ?_, HB2.out⟩
        · rw [HE.out.1, HE.out.2, HX.out]
          exact H2.out.wider (fun b q => Or.inr ⟨Nat.le_trans HB.out.size q.1, q.2⟩)
        · rw [HE.out.2, HX.out]
          exact HO2.out

set_option maxRecDepth 100000 in
theorem rsame12_any {w : World} {F : Nat → Prop} {va vb : Value} {l m : List Int} (ha : SlN w F va l) (hb : SlN w F vb m) (hl : l.length ≤ 1000000) (hm : m.length ≤ 1000000) : Calls Try.prog 13 #[va, vb] w fun e w' => e = .returned (.bool (decide (l = m))) ∧ Below w.heap.size w w' := by
  have HC := Lib.hid (csame_any ha hb hl hm)
  obtain ⟨A, capa, rfl, _⟩ := num_form ha
  obtain ⟨B, capb, rfl, _⟩ := num_form hb
  clear ha hb
  go_enter Try.func13, Try.ntmps13
  go_wp2_with (go_at_call 27; refine HC.out.mono ?_; rintro e w2 ⟨rfl, hb2⟩)
  go_ret
  exact ⟨rfl, hb2⟩
end Go.Proofs.Ythbnbifagenpiaa
