/-
  Walks of the document's clock: Issue, Done.
-/
import Derived.Test.YtcndghkeondbpaaStRef
namespace Go.Proofs.Ytcndghkeondbpaa
open Go.RowKit

theorem results_bk_2 {P : Program} {fn : Func} {r s t : Tmp} {ty : TypeId} {d : TypeDesc} {w : World} {p : Nat} {vs : List Value} (hr : fn.results = #[.cell r ty, .tmp s, .tmp t]) (tmps : Array Value) (hp : tmps.getD r undef = .pointer (some ⟨p, 0, none⟩)) (h : Bk w p vs)
    (hu : P.underlying ty = some d) (hd : d.isRow = true) (hi : (P.info? ty).map (·.size) = some vs.length) : (results fn tmps).run P w = .ok (.tuple #[.agg vs.toArray, tmps.getD s undef, tmps.getD t undef]) w := by
  have hl := load_bk h hu hd hi
  have hp' : tmps[r]?.getD undef = .pointer (some ⟨p, 0, none⟩) := by simpa using hp
  simp [results, hr, hp', asAddr, hl]
theorem Bk.two {w : World} {p : Nat} {a b : Value} (h : Bk w p [a, b]) (a' b' : Value) : Bk ((w.setCell ⟨p, 0, none⟩ a').setCell ⟨p, 1, none⟩ b') p [a', b'] :=
  (h.set 0 (by simp) a').set 1 (by simp) b'

set_option maxRecDepth 100000 in
set_option maxHeartbeats 2000000 in
theorem cissue_any {w : World} {F : Nat → Prop} {v : Value} {c : T.Ck} (h : Cr w F v c) (hF : ∀ b, F b → b < w.heap.size) (hl : c.act.length ≤ 1000000) (hn0 : 1 ≤ c.next) (hn1 : c.next ≤ 1099511627777) : Calls Try.prog 13 #[v] w fun e w' => ∃ v', e = .returned (.tuple #[v', .int .i64 c.told, .int .i64 c.bad]) ∧ Cr w' (fun b => F b ∨ S.New w w' b) v' c.issue ∧ Below w.heap.size w w' := by
  obtain ⟨vs, rfl, hs⟩ := h
  obtain ⟨A, cap, rfl, hc⟩ := num_form hs
  have HS := Lib.hid hs
  clear hs
  by_cases hov : 1099511627776 < c.next
  · have HV : Hid (c.issue = c ∧ c.told = 0 ∧ c.bad = 10) := Lib.hid (by unfold T.Ck.issue T.Ck.told T.Ck.bad T.most; rw [if_pos hov, if_pos hov, if_pos hov]; exact ⟨rfl, rfl, rfl⟩)
    go_enter Try.func13, Try.ntmps13
    go_wp2
    refine bodyPost_ret (results_bk_2 rfl _ rfl (Bk.new (w.alloc (.cells #[.int .i64 c.next, .slice A c.act.length cap] 29)) [.int .i64 c.next, .slice A c.act.length cap] 29 (g := w.heap.size + 1) (by simp)) Try.underlying29 rfl infoCk) rfl ?_
    have hb3 : Below w.heap.size w ((w.alloc (.cells #[.int .i64 c.next, .slice A c.act.length cap] 29)).alloc (.cells #[.int .i64 c.next, .slice A c.act.length cap] 29)) := ((Below.refl _ _).alloc (Nat.le_refl _) _).alloc (by simp) _
    refine ⟨_, ret_v (by rw [HV.out.2.1, HV.out.2.2]; rfl), ?_, hb3⟩
    rw [HV.out.1]
    exact ⟨_, rfl, (HS.out.below hb3 hF).wider (fun b g => Or.inl g)⟩
  · have HV : Hid (c.issue = ⟨c.next + 1, c.act ++ [c.next]⟩ ∧ c.told = c.next ∧ c.bad = 0) := Lib.hid (by unfold T.Ck.issue T.Ck.told T.Ck.bad T.most; rw [if_neg hov, if_neg hov, if_neg hov]; exact ⟨rfl, rfl, rfl⟩)
    have X0 := (Bk.new w [.int .i64 c.next, .slice A c.act.length cap] 29 rfl).alloc (.cells #[.int .i64 0, .slice none 0 0] 29)
    have Q0 := Bk.new (w.alloc (.cells #[.int .i64 c.next, .slice A c.act.length cap] 29)) [.int .i64 0, .slice none 0 0] 29 (g := w.heap.size + 1) (by simp)
    have hb3 : Below w.heap.size w (((w.alloc (.cells #[.int .i64 c.next, .slice A c.act.length cap] 29)).alloc (.cells #[.int .i64 0, .slice none 0 0] 29)).alloc (.cells #[] 2)) := (((Below.refl _ _).alloc (Nat.le_refl _) _).alloc (by simp) _).alloc (by simp; omega) _
    have hz3 : (((w.alloc (.cells #[.int .i64 c.next, .slice A c.act.length cap] 29)).alloc (.cells #[.int .i64 0, .slice none 0 0] 29)).alloc (.cells #[] 2)).heap.size = w.heap.size + 3 := by simp
    have hsl := HS.out.below hb3 hF
    have hown0 : (((w.alloc (.cells #[.int .i64 c.next, .slice A c.act.length cap] 29)).alloc (.cells #[.int .i64 0, .slice none 0 0] 29)).alloc (.cells #[] 2)).ownsRow (w.heap.size + 2) 2 1 (.slice (some ⟨w.heap.size + 1 + 1, 0, none⟩) 0 0) 0 [] := S.own_none (w := ((w.alloc (.cells #[.int .i64 c.next, .slice A c.act.length cap] 29)).alloc (.cells #[.int .i64 0, .slice none 0 0] 29))) _ _ (by simp) (by simp)
    have HX := Lib.hid (X0.alloc (.cells #[] 2))
    have HQ := Lib.hid (Q0.alloc (.cells #[] 2))
    clear X0 Q0
    go_enter Try.func13, Try.ntmps13
    go_wp2_with (at_builtin; refine S.wpList_append_sg elN rfl _ _ rfl (base := w.heap.size + 2) (n := 0) (m := c.act.length) (xs := []) (cs := numV c.act) rfl rfl hown0 hsl (numV_one _) (by omega) (by omega) (by omega) ?_)
    intro v4 w4 hown4 hgrow4 _
    have hs4 := hgrow4.size
    have hb4 : Below (w.heap.size + 2) (((w.alloc (.cells #[.int .i64 c.next, .slice A c.act.length cap] 29)).alloc (.cells #[.int .i64 0, .slice none 0 0] 29)).alloc (.cells #[] 2)) w4 := S.below_base hown0 (by omega) hgrow4
    have X4 := HX.out.below hb4 (by omega)
    have Q4 := HQ.out.below hb4 (by omega)
    have hbw4 : Below w.heap.size w w4 := hb3.trans (hb4.mono (by omega))
    have hown4 : w4.ownsRow (w.heap.size + 2) 2 1 v4 c.act.length (numV c.act) := by simpa using hown4
    obtain ⟨A4, c4, rfl, hc4⟩ : ∃ A cap, v4 = .slice A c.act.length cap ∧ c.act.length ≤ cap := by
      obtain ⟨_, A, cap, e, hc, _⟩ := S.Sg.of_own hown4
      exact ⟨A, cap, e, hc⟩
    have x0 := X4.cell 0 _ rfl
    have HX4 := Lib.hid X4
    have HQ4 := Lib.hid Q4
    clear hown0 hsl hgrow4 HX HQ X4 Q4 hb4 hb3
    generalize (((w.alloc (.cells #[.int .i64 c.next, .slice A c.act.length cap] 29)).alloc (.cells #[.int .i64 0, .slice none 0 0] 29)).alloc (.cells #[] 2)) = w3 at *
    go_wp2_with (at_builtin; refine S.wpList_append_sg elN rfl _ _ rfl (base := w.heap.size + 2) (n := c.act.length) (m := 1) (xs := numV c.act) (cs := numV [c.next]) rfl rfl (hown4.alloc _) (S.Sg.one w4 2 (.int .i64 c.next)) (numV_one _) (by omega) (by omega) (by simp; omega) ?_)
    intro v5 w5 hown5 hgrow5 _
    have hb5 : Below (w.heap.size + 2) w4 w5 := ((Below.refl _ _).alloc (by omega) _).trans (S.below_base (hown4.alloc _) (by simp; omega) hgrow5)
    have HO5 := Lib.hid (own_num (b := [c.next]) hown5)
    have X5 := HX4.out.below hb5 (by omega)
    have Q5 := HQ4.out.below hb5 (by omega)
    have hbw5 : Below w.heap.size w w5 := hbw4.trans (hb5.mono (by omega))
    obtain ⟨A5, c5, rfl, hc5⟩ : ∃ A cap, v5 = .slice A (c.act.length + 1) cap ∧ c.act.length + 1 ≤ cap := by
      obtain ⟨_, A, cap, e, hc, _⟩ := S.Sg.of_own hown5
      exact ⟨A, cap, e, hc⟩
    clear x0
    have x0 := X5.cell 0 _ rfl
    have q0 := Q5.cell 0 _ rfl
    have q1 := Q5.cell 1 _ rfl
    have z0 := Q5.fz 0 (by simp)
    have z1 := Q5.fz 1 (by simp)
    have nxq : ¬ w.heap.size = w.heap.size + 1 := by omega
    have nqx : ¬ w.heap.size + 1 = w.heap.size := by omega
    have HQ5 := Lib.hid (Q5.two (.int .i64 (c.next + 1)) (.slice A5 (c.act.length + 1) c5))
    have hs5 := hb5.size
    have hf7 : Below (w.heap.size + 1) w5 ((w5.setCell ⟨w.heap.size + 1, 0, none⟩ (.int .i64 (c.next + 1))).setCell ⟨w.heap.size + 1, 1, none⟩ (.slice A5 (c.act.length + 1) c5)) := ((Below.refl _ _).setCell (p := ⟨w.heap.size + 1, 0, none⟩) (Nat.le_refl _) _).setCell (p := ⟨w.heap.size + 1, 1, none⟩) (Nat.le_refl _) _
    have HF7 := Lib.hid (fun w' => fun (e : w' = ((w5.setCell ⟨w.heap.size + 1, 0, none⟩ (.int .i64 (c.next + 1))).setCell ⟨w.heap.size + 1, 1, none⟩ (.slice A5 (c.act.length + 1) c5))) => (show Cr w' (fun b => F b ∨ S.New w w' b) (.agg #[.int .i64 (c.next + 1), .slice A5 (c.act.length + 1) c5]) ⟨c.next + 1, c.act ++ [c.next]⟩ ∧ Below w.heap.size w w' from by
      subst e
      have hsz : ((w5.setCell ⟨w.heap.size + 1, 0, none⟩ (.int .i64 (c.next + 1))).setCell ⟨w.heap.size + 1, 1, none⟩ (.slice A5 (c.act.length + 1) c5)).heap.size = w5.heap.size := by simp [World.setCell]
      have h9 := S.Sg.of_own HO5.out
      rw [List.length_append] at h9
      refine ⟨⟨_, rfl, ?_⟩, hbw5.trans (hf7.mono (by omega))⟩
      show S.Sg _ _ 1 _ (c.act ++ [c.next]).length _
      rw [List.length_append]
      refine S.Sg.wider (h9.keep fun p hp => ?_) (fun b g => Or.inr ⟨by have := g.1; omega, by rw [hsz]; exact g.2⟩)
      rw [World.cell?_setCell_far _ _ _ _ (by have := hp.1; show w.heap.size + 1 ≠ p.block; omega), World.cell?_setCell_far _ _ _ _ (by have := hp.1; show w.heap.size + 1 ≠ p.block; omega)]))
    clear hown5 hgrow5 hown4 X5 Q5 hb5 hf7 HX4 HQ4
    go_wp2_with fail
    go_region
    all_goals (try go_wp2)
    refine bodyPost_ret (results_bk_2 rfl _ rfl (Bk.keep HQ5.out rfl (Nat.le_refl _)) Try.underlying29 rfl infoCk) rfl ?_
    obtain ⟨g1, g2⟩ := HF7.out _ rfl
    refine ⟨_, ret_v (by rw [HV.out.2.1, HV.out.2.2]; rfl), ?_, ⟨g2.os, g2.tape, g2.output, g2.size, g2.block⟩⟩
    rw [HV.out.1]
    exact g1

theorem take_in {l : List Int} {ts : Int} {k : Nat} (hk : k < l.length) : (decide (ts ∈ l.take (k + 1))) = (decide (ts ∈ l.take k) || decide (l[k] = ts)) := by
  rw [List.take_succ_eq_append_getElem hk, Bool.eq_iff_iff]
  simp only [List.mem_append, List.mem_singleton, Bool.or_eq_true, decide_eq_true_eq]
  exact or_congr Iff.rfl eq_comm
theorem take_filter {l : List Int} {ts : Int} {k : Nat} (hk : k < l.length) : (l.take (k + 1)).filter (fun x => x != ts) = (l.take k).filter (fun x => x != ts) ++ (if l[k] = ts then [] else [l[k]]) := by
  rw [List.take_succ_eq_append_getElem hk, List.filter_append]
  congr 1
  by_cases h : l[k] = ts
  · rw [if_pos h, h]; simp
  · rw [if_neg h]; simp [h]

set_option maxRecDepth 100000 in
set_option maxHeartbeats 2000000 in
theorem cdone_any {w : World} {F : Nat → Prop} {v : Value} {c : T.Ck} (h : Cr w F v c) (hF : ∀ b, F b → b < w.heap.size) (hl : c.act.length ≤ 1000000) (ts : Int) : Calls Try.prog 15 #[v, .int .i64 ts] w fun e w' => ∃ v', e = .returned (.tuple #[v', .bool (c.is ts)]) ∧ Cr w' (S.New w w') v' (c.done ts) ∧ Below w.heap.size w w' := by
  obtain ⟨vs, rfl, hs⟩ := h
  obtain ⟨A, cap, rfl, hc⟩ := num_form hs
  have HS := Lib.hid hs
  clear hs
  have X0 := (Bk.new w [.int .i64 c.next, .slice A c.act.length cap] 29 rfl).alloc (.cells #[.int .i64 0, .slice none 0 0] 29)
  have Q0 := Bk.new (w.alloc (.cells #[.int .i64 c.next, .slice A c.act.length cap] 29)) [.int .i64 0, .slice none 0 0] 29 (g := w.heap.size + 1) (by simp)
  have hb2 : Below w.heap.size w ((w.alloc (.cells #[.int .i64 c.next, .slice A c.act.length cap] 29)).alloc (.cells #[.int .i64 0, .slice none 0 0] 29)) := ((Below.refl _ _).alloc (Nat.le_refl _) _).alloc (by simp) _
  have hz2 : ((w.alloc (.cells #[.int .i64 c.next, .slice A c.act.length cap] 29)).alloc (.cells #[.int .i64 0, .slice none 0 0] 29)).heap.size = w.heap.size + 2 := by simp
  go_enter Try.func15, Try.ntmps15
  go_wp2_with fail
  generalize ((w.alloc (.cells #[.int .i64 c.next, .slice A c.act.length cap] 29)).alloc (.cells #[.int .i64 0, .slice none 0 0] 29)) = w2 at *
  go_loopw [6, 7, 8] (fun r is i wr => ∃ (k : Nat) (L : List Int) (b : Bool), k ≤ c.act.length ∧ i = .int .i64 (k : Int) ∧ is = .bool b ∧ L.length ≤ k ∧ wr.ownsRow (w.heap.size + 2) 2 1 r L.length (numV L) ∧ Below (w.heap.size + 2) w2 wr ∧ Hid (b = decide (ts ∈ c.act.take k) ∧ L = (c.act.take k).filter (fun x => x != ts))) (fun _ _ i _ => c.act.length - (intOf i).toNat)
  case atStart => exact ⟨0, [], false, Nat.zero_le _, rfl, rfl, Nat.le_refl _, S.own_nil _ _ _ _, Below.refl _ _, Lib.hid ⟨by simp, by simp⟩⟩
  case round =>
    obtain ⟨k, L, b, hk, rfl, rfl, hLk, hown, hbr, HE⟩ := hrel
    have X1 := X0.below hbr (by omega)
    have Q1 := Q0.below hbr (by omega)
    have hbw : Below w.heap.size w wr := hb2.trans (hbr.mono (by omega))
    have hsr := hbr.size
    have x1 := X1.cell 1 _ rfl
    obtain ⟨Ar, cr, rfl, hcr⟩ : ∃ A cap, u6 = .slice A L.length cap ∧ L.length ≤ cap := by
      obtain ⟨_, A, cap, e, hc, _⟩ := S.Sg.of_own hown
      exact ⟨A, cap, e, hc⟩
    by_cases hlt : k < c.act.length
    · have hlt' : (k : Int) < (c.act.length : Int) := by omega
      have hk0 : (0 : Int) ≤ (k : Int) := by omega
      obtain ⟨a, _, ea, _, hFa, xa⟩ := num_nth (HS.out.below hbw hF) k hlt
      cases ea
      have HT1 := Lib.hid (take_in (ts := ts) hlt)
      have HT2 := Lib.hid (take_filter (ts := ts) hlt)
      have HX0 := Lib.hid X0
      have HQ0 := Lib.hid Q0
      have hfa := hF _ hFa
      have hab : (a.add k).block < w.heap.size := by rw [S.add_block]; exact hfa
      by_cases he : c.act[k] = ts
      · have HN : Hid (true = decide (ts ∈ c.act.take (k + 1)) ∧ L = (c.act.take (k + 1)).filter (fun x => x != ts)) := Lib.hid ⟨by rw [HT1.out, decide_eq_true he, Bool.or_true], by rw [HT2.out, if_pos he, List.append_nil]; exact HE.out.2⟩
        rw [he] at xa
        clear he X1 Q1
        go_wp2_with fail
        go_roundw
        case rel => exact ⟨k + 1, L, true, by omega, by go_num, rfl, by omega, hown, hbr, HN⟩
        case measure => simp [intOf]; omega
      · have HN : Hid (b = decide (ts ∈ c.act.take (k + 1)) ∧ L ++ [c.act[k]] = (c.act.take (k + 1)).filter (fun x => x != ts)) := Lib.hid ⟨by rw [HT1.out, decide_eq_false he, Bool.or_false]; exact HE.out.1, by rw [HT2.out, if_neg he, ← HE.out.2]⟩
        generalize c.act[k] = x at *
        have he' : (x == ts) = false := by simpa using he
        clear X1 Q1
        go_wp2_with (at_builtin; refine S.wpList_append_sg elN rfl _ _ rfl (base := w.heap.size + 2) (n := L.length) (m := 1) (xs := numV L) (cs := numV [x]) rfl rfl (hown.alloc _) (S.Sg.one wr 2 (.int .i64 x)) (numV_one _) (by omega) (by omega) (by simp; omega) ?_)
        intro v5 w5 hown5 hgrow5 _
        have HB5 := Lib.hid (hbr.trans (((Below.refl _ _).alloc (by omega) _).trans (S.below_base (hown.alloc _) (by simp; omega) hgrow5)))
        have HO5 := Lib.hid (own_num (b := [x]) hown5)
        obtain ⟨A5, c5, rfl, hc5⟩ : ∃ A cap, v5 = .slice A (L.length + 1) cap ∧ L.length + 1 ≤ cap := by
          obtain ⟨_, A, cap, e, hc, _⟩ := S.Sg.of_own hown5
          exact ⟨A, cap, e, hc⟩
        clear hown5 hgrow5 hown
        go_wp2_with fail
        go_roundw
        case rel => exact ⟨k + 1, L ++ [x], b, by omega, by go_num, rfl, by simp; omega, HO5.out, HB5.out, HN⟩
        case measure => simp [intOf]; omega
    · obtain rfl : k = c.act.length := by omega
      have hlt' : ¬ (c.act.length : Int) < (c.act.length : Int) := by omega
      have HV : Hid (c.done ts = ⟨c.next, L⟩ ∧ c.is ts = b) := Lib.hid (by
        have h1 := HE.out.1
        have h2 := HE.out.2
        rw [List.take_length] at h1 h2
        exact ⟨by unfold T.Ck.done; rw [h2], by unfold T.Ck.is; rw [h1]⟩)
      have x0 := X1.cell 0 _ rfl
      have q0 := Q1.cell 0 _ rfl
      have q1 := Q1.cell 1 _ rfl
      have z0 := Q1.fz 0 (by simp)
      have z1 := Q1.fz 1 (by simp)
      have HQ5 := Lib.hid (Q1.two (.int .i64 c.next) (.slice Ar L.length cr))
      have hf7 : Below (w.heap.size + 1) wr ((wr.setCell ⟨w.heap.size + 1, 0, none⟩ (.int .i64 c.next)).setCell ⟨w.heap.size + 1, 1, none⟩ (.slice Ar L.length cr)) := ((Below.refl _ _).setCell (p := ⟨w.heap.size + 1, 0, none⟩) (Nat.le_refl _) _).setCell (p := ⟨w.heap.size + 1, 1, none⟩) (Nat.le_refl _) _
      have HF7 : Hid (Cr ((wr.setCell ⟨w.heap.size + 1, 0, none⟩ (.int .i64 c.next)).setCell ⟨w.heap.size + 1, 1, none⟩ (.slice Ar L.length cr)) (S.New w ((wr.setCell ⟨w.heap.size + 1, 0, none⟩ (.int .i64 c.next)).setCell ⟨w.heap.size + 1, 1, none⟩ (.slice Ar L.length cr))) (.agg #[.int .i64 c.next, .slice Ar L.length cr]) ⟨c.next, L⟩ ∧ Below w.heap.size w ((wr.setCell ⟨w.heap.size + 1, 0, none⟩ (.int .i64 c.next)).setCell ⟨w.heap.size + 1, 1, none⟩ (.slice Ar L.length cr))) := Lib.hid (by
        have hsz : ((wr.setCell ⟨w.heap.size + 1, 0, none⟩ (.int .i64 c.next)).setCell ⟨w.heap.size + 1, 1, none⟩ (.slice Ar L.length cr)).heap.size = wr.heap.size := by simp [World.setCell]
        refine ⟨⟨_, rfl, ?_⟩, hbw.trans (hf7.mono (by omega))⟩
        refine S.Sg.wider ((S.Sg.of_own hown).keep fun p hp => ?_) (fun b g => ⟨by have := g.1; omega, by rw [hsz]; exact g.2⟩)
        rw [World.cell?_setCell_far _ _ _ _ (by have := hp.1; show w.heap.size + 1 ≠ p.block; omega), World.cell?_setCell_far _ _ _ _ (by have := hp.1; show w.heap.size + 1 ≠ p.block; omega)])
      clear hf7 hown X1 Q1
      go_wp2_with fail
      refine bodyPost_ret (results_bk_1 rfl _ rfl HQ5.out Try.underlying29 rfl infoCk) rfl ?_
      refine ⟨_, ret_v (by rw [HV.out.2]; rfl), ?_, HF7.out.2⟩
      rw [HV.out.1]
      exact HF7.out.1

end Go.Proofs.Ytcndghkeondbpaa
