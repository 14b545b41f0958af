/-
  Walks of the document's chain: Commit, Abort, Same.
-/
import Derived.Test.YtpppjipelcfnkaaChRef5
namespace Go.Proofs.Ytpppjipelcfnkaa.Cn

def comV (b : Bool) (ts : Int) (v : Vr) : Vr := if b = true then doneV ts v else v
def keepB (b : Bool) (ts : Int) (v : Vr) : Bool := !b || !goneB ts v
theorem commit_eq (c : Ch) (ts : Int) : commitC c ts = c.map (comV (mayB c) ts) := by
  unfold commitC comV
  cases mayB c with
  | true => rw [if_pos rfl]; congr 1
  | false =>
    rw [if_neg Bool.false_ne_true]
    simp
theorem abort_eq (c : Ch) (ts : Int) : abortC c ts = c.filter (keepB (mayB c) ts) := by
  unfold abortC keepB
  cases mayB c with
  | true => rw [if_pos rfl]; congr 1
  | false =>
    rw [if_neg Bool.false_ne_true]
    exact (List.filter_eq_self.2 (fun x _ => by simp)).symm
theorem comV_done {b : Bool} {ts : Int} {v : Vr} (h : v.done = true) : comV b ts v = ⟨v.ts, v.rd, v.val, true⟩ := by
  obtain ⟨a, r, s, d⟩ := v
  cases h
  unfold comV doneV
  cases b with
  | true =>
    rw [if_pos rfl]
    by_cases e : a = ts
    · rw [if_pos e]
    · rw [if_neg e]
  | false => rw [if_neg Bool.false_ne_true]
theorem take_map {f : Vr → Vr} {c : Ch} {k : Nat} (hk : k < c.length) : (c.take (k + 1)).map f = (c.take k).map f ++ [f c[k]] := by
  rw [List.take_succ_eq_append_getElem hk, List.map_append]
  rfl
theorem take_filter {p : Vr → Bool} {c : Ch} {k : Nat} (hk : k < c.length) : (c.take (k + 1)).filter p = (c.take k).filter p ++ (if p c[k] = true then [c[k]] else []) := by
  rw [List.take_succ_eq_append_getElem hk, List.filter_append]
  congr 1
  by_cases h : p c[k] = true
  · rw [if_pos h]; simp [h]
  · rw [if_neg h]; simp [h]
end Go.Proofs.Ytpppjipelcfnkaa.Cn

namespace Go.Proofs.Ytpppjipelcfnkaa
open Go.RowKit

theorem sg_row4g (w : World) (e : TypeId) (X : Array Value) {k g : Nat} (hX : X.size = k) (hg : g = w.heap.size) : S.Sg (w.alloc (.cells X e)) (fun b => b = g) k (.slice (some ⟨g, 0, none⟩) 1 1) 1 X.toList := by
  subst hg
  exact sg_row4 w e X hX
theorem verV_snoc (L : Cn.Ch) (x : Cn.Vr) : verV (L ++ [x]) = verV L ++ verC x := by
  rw [verV_append]
  congr 1
theorem four_one (a b : Int) (s : ByteArray) (d : Bool) : ∀ x ∈ [Value.int .i64 a, .int .i64 b, .string s, .bool d], x.oneCell' = true := verC_one (⟨a, b, s, d⟩ : Cn.Vr)

set_option maxRecDepth 100000 in
set_option maxHeartbeats 4000000 in
theorem rcommit10_any {w : World} {F : Nat → Prop} {v : Value} {c : Cn.Ch} (h : SlC w F v c) (hF : ∀ b, F b → b < w.heap.size) (hl : c.length ≤ 1000000) (ts : Int) :
    Calls Try.prog 53 #[v, .int .i64 ts] w fun e w' => ∃ v', e = .returned v' ∧ SlC w' (S.New w w') v' (Cn.commitC c ts) ∧ Below w.heap.size w w' := by
  have HS := Lib.hid h
  obtain ⟨A, cap, rfl, hcap⟩ := SlC.form h
  clear h
  have HM : Hid (∀ W, Below w.heap.size w W → Calls Try.prog 49 #[.slice A c.length cap] W fun e w' => e = .returned (.bool (Cn.mayB c)) ∧ Still W w') := Lib.hid (fun W hW => rmay10_any (HS.out.below hW hF) hl)
  have HC := Lib.hid (Cn.commit_eq c ts)
  generalize Cn.mayB c = mb at *
  go_enter Try.func53, Try.ntmps53
  go_wp2
  go_loopw [5, 6] (fun r i wr => ∃ k : Nat, k ≤ c.length ∧ i = .int .i64 (k : Int) ∧ wr.ownsRow w.heap.size 76 4 r k (verV ((c.take k).map (Cn.comV mb ts))) ∧ Below w.heap.size w wr) (fun _ i _ => c.length - (intOf i).toNat)
  case atStart => exact ⟨0, Nat.zero_le _, rfl, S.own_nil .., Below.refl _ _⟩
  case round =>
    obtain ⟨k, hk, rfl, hown, hbr⟩ := hrel
    have HB := Lib.hid hbr
    have HO := Lib.hid hown
    obtain ⟨Ar, cr, rfl⟩ := own_slice hown
    clear hbr hown
    by_cases hlt : k < c.length
    · have hlt' : (k : Int) < (c.length : Int) := by omega
      have hk0 : (0 : Int) ≤ (k : Int) := by omega
      obtain ⟨a, _, ea, _, _, y0, y1, y2, y3⟩ := SlC.nth (HS.out.below HB.out hF) k hlt
      cases ea
      have HT := Lib.hid (Cn.take_map (f := Cn.comV mb ts) hlt)
      generalize c[k] = u at *
      have HMW : Hid (∀ o, Calls Try.prog 49 #[.slice (some a) c.length cap] (wr.alloc o) fun e w' => e = .returned (.bool mb) ∧ Still (wr.alloc o) w') := Lib.hid (fun o => HM.out _ (HB.out.alloc HB.out.size o))
      cases hd : u.done with
      | true =>
        rw [hd] at y3
        have HX : Hid (Cn.comV mb ts u = ⟨u.ts, u.rd, u.val, true⟩) := Lib.hid (Cn.comV_done hd)
        clear hd
        have HBW : Hid (Below wr.heap.size wr (wr.alloc (.cells #[.int .i64 u.ts, .int .i64 u.rd, .string u.val, .bool true] 76))) := Lib.hid ((Below.refl _ _).alloc (Nat.le_refl _) _)
        have HOW := Lib.hid (S.own_below HO.out HBW.out)
        go_wp2_with (first
          | (at_builtin; refine S.wpList_append_sg elVr rfl _ _ rfl (base := w.heap.size) (n := k) (m := 1) (xs := verV ((c.take k).map (Cn.comV mb ts))) (cs := verC (⟨u.ts, u.rd, u.val, true⟩ : Cn.Vr)) rfl rfl (HOW.out.alloc _) (sg_row4g (wr.alloc (.cells #[.int .i64 u.ts, .int .i64 u.rd, .string u.val, .bool true] 76)) 76 #[.int .i64 u.ts, .int .i64 u.rd, .string u.val, .bool true] rfl (by first | rfl | simp)) (verC_one (⟨u.ts, u.rd, u.val, true⟩ : Cn.Vr)) (by omega) (by omega) (Nat.le_trans (Nat.le_trans HB.out.size HBW.out.size) (by simp)) ?_))
        intro v5 w5 hown5 hgrow5 _
        have hb5 := (HB.out.trans (HBW.out.mono HB.out.size)).trans (((Below.refl (wr.alloc (.cells #[.int .i64 u.ts, .int .i64 u.rd, .string u.val, .bool true] 76)).heap.size _).alloc (Nat.le_refl _) (.cells #[.int .i64 u.ts, .int .i64 u.rd, .string u.val, .bool true] 76)).mono (Nat.le_trans HB.out.size HBW.out.size))
        have hb5 := hb5.trans (S.below_base (HOW.out.alloc _) hb5.size hgrow5)
        have HB5 := Lib.hid hb5
        have HO5 : Hid (w5.ownsRow w.heap.size 76 4 v5 (k + 1) (verV ((c.take (k + 1)).map (Cn.comV mb ts)))) := Lib.hid (by
          rw [HT.out, HX.out, verV_snoc]
          first | exact hown5 | (rw [List.map_take]; exact hown5))
        clear hown5 hgrow5 hb5
        go_wp2_with fail
        go_roundw
        case rel => exact ⟨k + 1, by omega, by go_num, HO5.out, HB5.out⟩
        case measure => simp [intOf]; omega
      | false =>
        rw [hd] at y3
        cases mb with
        | true =>
          by_cases he : u.ts = ts
          · have he' : (u.ts == ts) = true := by simpa using he
            have HX : Hid (Cn.comV true ts u = ⟨u.ts, u.rd, u.val, true⟩) := Lib.hid (by unfold Cn.comV Cn.doneV; rw [if_pos rfl, if_pos he])
            clear hd he
            go_wp2_with (first
              | (go_at_call 49; refine (HMW.out _).mono ?_; rintro e w1 ⟨rfl, hs⟩; have X1 := Lib.hid ((Bk.new wr [.int .i64 u.ts, .int .i64 u.rd, .string u.val, .bool false] 76 rfl).step hs.low); have x0 := X1.out.cell 0 _ rfl; have x1 := X1.out.cell 1 _ rfl; have x2 := X1.out.cell 2 _ rfl; have x3 := X1.out.cell 3 _ rfl; have f3 := X1.out.fz 3 (by simp); have HBW : Hid (Below wr.heap.size wr (w1.setCell ⟨wr.heap.size, 3, none⟩ (.bool true))) := Lib.hid ((((Below.refl _ _).alloc (Nat.le_refl _) _).trans (hs.low.mono (by simp))).setCell (p := ⟨wr.heap.size, 3, none⟩) (Nat.le_refl _) _); have HOW := Lib.hid (S.own_below HO.out HBW.out); clear hs)
              | (at_builtin; refine S.wpList_append_sg elVr rfl _ _ rfl (base := w.heap.size) (n := k) (m := 1) (xs := verV ((c.take k).map (Cn.comV true ts))) (cs := verC (⟨u.ts, u.rd, u.val, true⟩ : Cn.Vr)) rfl rfl (HOW.out.alloc _) (sg_row4g (w1.setCell ⟨wr.heap.size, 3, none⟩ (.bool true)) 76 #[.int .i64 u.ts, .int .i64 u.rd, .string u.val, .bool true] rfl (by first | rfl | simp)) (verC_one (⟨u.ts, u.rd, u.val, true⟩ : Cn.Vr)) (by omega) (by omega) (Nat.le_trans (Nat.le_trans HB.out.size HBW.out.size) (by simp)) ?_))
            intro v5 w5 hown5 hgrow5 _
            have hb5 := (HB.out.trans (HBW.out.mono HB.out.size)).trans (((Below.refl (w1.setCell ⟨wr.heap.size, 3, none⟩ (.bool true)).heap.size _).alloc (Nat.le_refl _) (.cells #[.int .i64 u.ts, .int .i64 u.rd, .string u.val, .bool true] 76)).mono (Nat.le_trans HB.out.size HBW.out.size))
            have hb5 := hb5.trans (S.below_base (HOW.out.alloc _) hb5.size hgrow5)
            have HB5 := Lib.hid hb5
            have HO5 : Hid (w5.ownsRow w.heap.size 76 4 v5 (k + 1) (verV ((c.take (k + 1)).map (Cn.comV true ts)))) := Lib.hid (by
              rw [HT.out, HX.out, verV_snoc]
              first | exact hown5 | (rw [List.map_take]; exact hown5))
            clear hown5 hgrow5 hb5
            go_wp2_with fail
            go_roundw
            case rel => exact ⟨k + 1, by omega, by go_num, HO5.out, HB5.out⟩
            case measure => simp [intOf]; omega
          · have he' : (u.ts == ts) = false := by simpa using he
            have HX : Hid (Cn.comV true ts u = ⟨u.ts, u.rd, u.val, false⟩) := Lib.hid (by unfold Cn.comV Cn.doneV; rw [if_pos rfl, if_neg he, ← hd])
            clear hd he
            go_wp2_with (first
              | (go_at_call 49; refine (HMW.out _).mono ?_; rintro e w1 ⟨rfl, hs⟩; have X1 := Lib.hid ((Bk.new wr [.int .i64 u.ts, .int .i64 u.rd, .string u.val, .bool false] 76 rfl).step hs.low); have x0 := X1.out.cell 0 _ rfl; have x1 := X1.out.cell 1 _ rfl; have x2 := X1.out.cell 2 _ rfl; have x3 := X1.out.cell 3 _ rfl; have f3 := X1.out.fz 3 (by simp); have HBW : Hid (Below wr.heap.size wr (w1.setCell ⟨wr.heap.size, 3, none⟩ (.bool false))) := Lib.hid ((((Below.refl _ _).alloc (Nat.le_refl _) _).trans (hs.low.mono (by simp))).setCell (p := ⟨wr.heap.size, 3, none⟩) (Nat.le_refl _) _); have HOW := Lib.hid (S.own_below HO.out HBW.out); clear hs)
              | (at_builtin; refine S.wpList_append_sg elVr rfl _ _ rfl (base := w.heap.size) (n := k) (m := 1) (xs := verV ((c.take k).map (Cn.comV true ts))) (cs := verC (⟨u.ts, u.rd, u.val, false⟩ : Cn.Vr)) rfl rfl (HOW.out.alloc _) (sg_row4g (w1.setCell ⟨wr.heap.size, 3, none⟩ (.bool false)) 76 #[.int .i64 u.ts, .int .i64 u.rd, .string u.val, .bool false] rfl (by first | rfl | simp)) (verC_one (⟨u.ts, u.rd, u.val, false⟩ : Cn.Vr)) (by omega) (by omega) (Nat.le_trans (Nat.le_trans HB.out.size HBW.out.size) (by simp)) ?_))
            intro v5 w5 hown5 hgrow5 _
            have hb5 := (HB.out.trans (HBW.out.mono HB.out.size)).trans (((Below.refl (w1.setCell ⟨wr.heap.size, 3, none⟩ (.bool false)).heap.size _).alloc (Nat.le_refl _) (.cells #[.int .i64 u.ts, .int .i64 u.rd, .string u.val, .bool false] 76)).mono (Nat.le_trans HB.out.size HBW.out.size))
            have hb5 := hb5.trans (S.below_base (HOW.out.alloc _) hb5.size hgrow5)
            have HB5 := Lib.hid hb5
            have HO5 : Hid (w5.ownsRow w.heap.size 76 4 v5 (k + 1) (verV ((c.take (k + 1)).map (Cn.comV true ts)))) := Lib.hid (by
              rw [HT.out, HX.out, verV_snoc]
              first | exact hown5 | (rw [List.map_take]; exact hown5))
            clear hown5 hgrow5 hb5
            go_wp2_with fail
            go_roundw
            case rel => exact ⟨k + 1, by omega, by go_num, HO5.out, HB5.out⟩
            case measure => simp [intOf]; omega
        | false =>
          have HX : Hid (Cn.comV false ts u = ⟨u.ts, u.rd, u.val, false⟩) := Lib.hid (by unfold Cn.comV; rw [if_neg Bool.false_ne_true, ← hd])
          clear hd
          go_wp2_with (first
            | (go_at_call 49; refine (HMW.out _).mono ?_; rintro e w1 ⟨rfl, hs⟩; have X1 := Lib.hid ((Bk.new wr [.int .i64 u.ts, .int .i64 u.rd, .string u.val, .bool false] 76 rfl).step hs.low); have x0 := X1.out.cell 0 _ rfl; have x1 := X1.out.cell 1 _ rfl; have x2 := X1.out.cell 2 _ rfl; have x3 := X1.out.cell 3 _ rfl; have f3 := X1.out.fz 3 (by simp); have HBW : Hid (Below wr.heap.size wr (w1.setCell ⟨wr.heap.size, 3, none⟩ (.bool false))) := Lib.hid ((((Below.refl _ _).alloc (Nat.le_refl _) _).trans (hs.low.mono (by simp))).setCell (p := ⟨wr.heap.size, 3, none⟩) (Nat.le_refl _) _); have HOW := Lib.hid (S.own_below HO.out HBW.out); clear hs)
            | (at_builtin; refine S.wpList_append_sg elVr rfl _ _ rfl (base := w.heap.size) (n := k) (m := 1) (xs := verV ((c.take k).map (Cn.comV false ts))) (cs := verC (⟨u.ts, u.rd, u.val, false⟩ : Cn.Vr)) rfl rfl (HOW.out.alloc _) (sg_row4g (w1.setCell ⟨wr.heap.size, 3, none⟩ (.bool false)) 76 #[.int .i64 u.ts, .int .i64 u.rd, .string u.val, .bool false] rfl (by first | rfl | simp)) (verC_one (⟨u.ts, u.rd, u.val, false⟩ : Cn.Vr)) (by omega) (by omega) (Nat.le_trans (Nat.le_trans HB.out.size HBW.out.size) (by simp)) ?_))
          intro v5 w5 hown5 hgrow5 _
          have hb5 := (HB.out.trans (HBW.out.mono HB.out.size)).trans (((Below.refl (w1.setCell ⟨wr.heap.size, 3, none⟩ (.bool false)).heap.size _).alloc (Nat.le_refl _) (.cells #[.int .i64 u.ts, .int .i64 u.rd, .string u.val, .bool false] 76)).mono (Nat.le_trans HB.out.size HBW.out.size))
          have hb5 := hb5.trans (S.below_base (HOW.out.alloc _) hb5.size hgrow5)
          have HB5 := Lib.hid hb5
          have HO5 : Hid (w5.ownsRow w.heap.size 76 4 v5 (k + 1) (verV ((c.take (k + 1)).map (Cn.comV false ts)))) := Lib.hid (by
            rw [HT.out, HX.out, verV_snoc]
            first | exact hown5 | (rw [List.map_take]; exact hown5))
          clear hown5 hgrow5 hb5
          go_wp2_with fail
          go_roundw
          case rel => exact ⟨k + 1, by omega, by go_num, HO5.out, HB5.out⟩
          case measure => simp [intOf]; omega
    · obtain rfl : k = c.length := by omega
      have hlt' : ¬ (c.length : Int) < (c.length : Int) := by omega
      go_wp2
      go_ret
      refine ⟨_, rfl, ?_, HB.out⟩
      have h9 := S.Sg.of_own HO.out
      rw [List.take_length, ← HC.out] at h9
      show S.Sg _ _ 4 _ (Cn.commitC c ts).length _
      rw [HC.out, List.length_map, ← HC.out]
      exact h9.wider (fun b q => q)

set_option maxRecDepth 100000 in
set_option maxHeartbeats 4000000 in
theorem rabort10_any {w : World} {F : Nat → Prop} {v : Value} {c : Cn.Ch} (h : SlC w F v c) (hF : ∀ b, F b → b < w.heap.size) (hl : c.length ≤ 1000000) (ts : Int) :
    Calls Try.prog 28 #[v, .int .i64 ts] w fun e w' => ∃ v', e = .returned v' ∧ SlC w' (S.New w w') v' (Cn.abortC c ts) ∧ Below w.heap.size w w' := by
  have HS := Lib.hid h
  obtain ⟨A, cap, rfl, hcap⟩ := SlC.form h
  clear h
  have HM : Hid (∀ W, Below w.heap.size w W → Calls Try.prog 49 #[.slice A c.length cap] W fun e w' => e = .returned (.bool (Cn.mayB c)) ∧ Still W w') := Lib.hid (fun W hW => rmay10_any (HS.out.below hW hF) hl)
  have HC := Lib.hid (Cn.abort_eq c ts)
  generalize Cn.mayB c = mb at *
  go_enter Try.func28, Try.ntmps28
  go_wp2
  go_loopw [5, 6] (fun r i wr => ∃ (k : Nat) (L : Cn.Ch), k ≤ c.length ∧ L.length ≤ k ∧ i = .int .i64 (k : Int) ∧ wr.ownsRow w.heap.size 76 4 r L.length (verV L) ∧ Below w.heap.size w wr ∧ Hid ((c.take k).filter (Cn.keepB mb ts) = L)) (fun _ i _ => c.length - (intOf i).toNat)
  case atStart => exact ⟨0, [], Nat.zero_le _, Nat.le_refl _, rfl, S.own_nil .., Below.refl _ _, Lib.hid rfl⟩
  case round =>
    obtain ⟨k, L, hk, hLk, rfl, hown, hbr, HL⟩ := hrel
    have HB := Lib.hid hbr
    have HO := Lib.hid hown
    obtain ⟨Ar, cr, rfl⟩ := own_slice hown
    clear hbr hown
    by_cases hlt : k < c.length
    · have hlt' : (k : Int) < (c.length : Int) := by omega
      have hk0 : (0 : Int) ≤ (k : Int) := by omega
      obtain ⟨a, _, ea, _, _, y0, y1, y2, y3⟩ := SlC.nth (HS.out.below HB.out hF) k hlt
      cases ea
      have HY := Lib.hid (And.intro y0 (And.intro y1 (And.intro y2 y3)))
      clear y0 y1 y2 y3
      have HT := Lib.hid (Cn.take_filter (p := Cn.keepB mb ts) hlt)
      have HUE : ∃ x : Cn.Vr, x = c[k] := ⟨_, rfl⟩
      clear HUE
      generalize c[k] = u at *
      have HMW := Lib.hid (HM.out wr HB.out)
      cases mb with
      | false =>
        have HX : Hid (Cn.keepB false ts u = true) := Lib.hid rfl
        go_wp2_with (first
          | (go_at_call 49; refine HMW.out.mono ?_; rintro e w1 ⟨rfl, hs⟩; obtain ⟨y0, y1, y2, y3⟩ := four_same hs.cell HY.out; have HS1 := Lib.hid hs; have HOW := Lib.hid (S.own_below HO.out hs.low); clear hs)
          | (at_builtin; refine S.wpList_append_sg elVr rfl _ _ rfl (base := w.heap.size) (n := L.length) (m := 1) (xs := verV L) (cs := [.int .i64 u.ts, .int .i64 u.rd, .string u.val, .bool u.done]) rfl rfl (HOW.out.alloc _) (sg_row4 w1 76 #[.int .i64 u.ts, .int .i64 u.rd, .string u.val, .bool u.done] rfl) (four_one _ _ _ _) (by omega) (by omega) (Nat.le_trans (Nat.le_trans HB.out.size HS1.out.low.size) (by simp)) ?_))
        intro v5 w5 hown5 hgrow5 _
        have hb5 := (HB.out.trans (HS1.out.low.mono HB.out.size)).trans (((Below.refl w1.heap.size _).alloc (Nat.le_refl _) (.cells #[.int .i64 u.ts, .int .i64 u.rd, .string u.val, .bool u.done] 76)).mono (Nat.le_trans HB.out.size HS1.out.low.size))
        have hb5 := hb5.trans (S.below_base (HOW.out.alloc _) hb5.size hgrow5)
        have HB5 := Lib.hid hb5
        have HO5 : Hid (w5.ownsRow w.heap.size 76 4 v5 (L ++ [u]).length (verV (L ++ [u]))) := Lib.hid (by
          rw [verV_snoc, List.length_append]
          exact hown5)
        have HL2 : Hid ((c.take (k + 1)).filter (Cn.keepB false ts) = L ++ [u]) := Lib.hid (by rw [HT.out, HX.out, if_pos rfl, HL.out])
        clear hown5 hgrow5 hb5
        go_wp2_with fail
        go_roundw
        case rel => exact ⟨k + 1, L ++ [u], by omega, by simp; omega, by go_num, HO5.out, HB5.out, HL2⟩
        case measure => simp [intOf]; omega
      | true =>
        by_cases he : u.ts = ts
        · have he' : (u.ts != ts) = false := by simpa using he
          cases hd : u.done with
          | true =>
            have HX : Hid (Cn.keepB true ts u = true) := Lib.hid (by simp [Cn.keepB, Cn.goneB, hd])
            rw [hd] at HY
            have HU : Hid (verC u = [.int .i64 u.ts, .int .i64 u.rd, .string u.val, .bool true]) := Lib.hid (by unfold verC; rw [hd])
            clear hd he
            go_wp2_with (first
              | (go_at_call 49; refine HMW.out.mono ?_; rintro e w1 ⟨rfl, hs⟩; obtain ⟨y0, y1, y2, y3⟩ := four_same hs.cell HY.out; have HS1 := Lib.hid hs; have HOW := Lib.hid (S.own_below HO.out hs.low); clear hs)
              | (at_builtin; refine S.wpList_append_sg elVr rfl _ _ rfl (base := w.heap.size) (n := L.length) (m := 1) (xs := verV L) (cs := [.int .i64 u.ts, .int .i64 u.rd, .string u.val, .bool true]) rfl rfl (HOW.out.alloc _) (sg_row4 w1 76 #[.int .i64 u.ts, .int .i64 u.rd, .string u.val, .bool true] rfl) (four_one _ _ _ _) (by omega) (by omega) (Nat.le_trans (Nat.le_trans HB.out.size HS1.out.low.size) (by simp)) ?_))
            intro v5 w5 hown5 hgrow5 _
            have hb5 := (HB.out.trans (HS1.out.low.mono HB.out.size)).trans (((Below.refl w1.heap.size _).alloc (Nat.le_refl _) (.cells #[.int .i64 u.ts, .int .i64 u.rd, .string u.val, .bool true] 76)).mono (Nat.le_trans HB.out.size HS1.out.low.size))
            have hb5 := hb5.trans (S.below_base (HOW.out.alloc _) hb5.size hgrow5)
            have HB5 := Lib.hid hb5
            have HO5 : Hid (w5.ownsRow w.heap.size 76 4 v5 (L ++ [u]).length (verV (L ++ [u]))) := Lib.hid (by
              rw [verV_snoc, List.length_append, HU.out]
              exact hown5)
            have HL2 : Hid ((c.take (k + 1)).filter (Cn.keepB true ts) = L ++ [u]) := Lib.hid (by rw [HT.out, HX.out, if_pos rfl, HL.out])
            clear hown5 hgrow5 hb5
            go_wp2_with fail
            go_roundw
            case rel => exact ⟨k + 1, L ++ [u], by omega, by simp; omega, by go_num, HO5.out, HB5.out, HL2⟩
            case measure => simp [intOf]; omega
          | false =>
            have HX : Hid (Cn.keepB true ts u = false) := Lib.hid (by simp [Cn.keepB, Cn.goneB, hd, he])
            rw [hd] at HY
            clear hd he
            have HL2 : Hid ((c.take (k + 1)).filter (Cn.keepB true ts) = L) := Lib.hid (by rw [HT.out, HX.out, if_neg Bool.false_ne_true, List.append_nil]; exact HL.out)
            go_wp2_with (first
              | (go_at_call 49; refine HMW.out.mono ?_; rintro e w1 ⟨rfl, hs⟩; obtain ⟨y0, y1, y2, y3⟩ := four_same hs.cell HY.out; have HS1 := Lib.hid hs; clear hs))
            go_roundw
            case rel => exact ⟨k + 1, L, by omega, by omega, by go_num, S.own_below HO.out HS1.out.low, HB.out.trans (HS1.out.low.mono HB.out.size), HL2⟩
            case measure => simp [intOf]; omega
        · have he' : (u.ts != ts) = true := by simpa using he
          have HX : Hid (Cn.keepB true ts u = true) := Lib.hid (by simp [Cn.keepB, Cn.goneB, he])
          clear he
          go_wp2_with (first
            | (go_at_call 49; refine HMW.out.mono ?_; rintro e w1 ⟨rfl, hs⟩; obtain ⟨y0, y1, y2, y3⟩ := four_same hs.cell HY.out; have HS1 := Lib.hid hs; have HOW := Lib.hid (S.own_below HO.out hs.low); clear hs)
            | (at_builtin; refine S.wpList_append_sg elVr rfl _ _ rfl (base := w.heap.size) (n := L.length) (m := 1) (xs := verV L) (cs := [.int .i64 u.ts, .int .i64 u.rd, .string u.val, .bool u.done]) rfl rfl (HOW.out.alloc _) (sg_row4 w1 76 #[.int .i64 u.ts, .int .i64 u.rd, .string u.val, .bool u.done] rfl) (four_one _ _ _ _) (by omega) (by omega) (Nat.le_trans (Nat.le_trans HB.out.size HS1.out.low.size) (by simp)) ?_))
          intro v5 w5 hown5 hgrow5 _
          have hb5 := (HB.out.trans (HS1.out.low.mono HB.out.size)).trans (((Below.refl w1.heap.size _).alloc (Nat.le_refl _) (.cells #[.int .i64 u.ts, .int .i64 u.rd, .string u.val, .bool u.done] 76)).mono (Nat.le_trans HB.out.size HS1.out.low.size))
          have hb5 := hb5.trans (S.below_base (HOW.out.alloc _) hb5.size hgrow5)
          have HB5 := Lib.hid hb5
          have HO5 : Hid (w5.ownsRow w.heap.size 76 4 v5 (L ++ [u]).length (verV (L ++ [u]))) := Lib.hid (by
            rw [verV_snoc, List.length_append]
            exact hown5)
          have HL2 : Hid ((c.take (k + 1)).filter (Cn.keepB true ts) = L ++ [u]) := Lib.hid (by rw [HT.out, HX.out, if_pos rfl, HL.out])
          clear hown5 hgrow5 hb5
          go_wp2_with fail
          go_roundw
          case rel => exact ⟨k + 1, L ++ [u], by omega, by simp; omega, by go_num, HO5.out, HB5.out, HL2⟩
          case measure => simp [intOf]; omega
    · obtain rfl : k = c.length := by omega
      have hlt' : ¬ (c.length : Int) < (c.length : Int) := by omega
      go_wp2
      go_ret
      refine ⟨_, rfl, ?_, HB.out⟩
      have h9 := S.Sg.of_own HO.out
      have e : Cn.abortC c ts = L := by
        rw [HC.out, ← HL.out, List.take_length]
      rw [e]
      exact h9.wider (fun b q => q)

end Go.Proofs.Ytpppjipelcfnkaa
