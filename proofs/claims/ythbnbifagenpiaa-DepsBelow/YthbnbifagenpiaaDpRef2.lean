/-
  Walks of the document's deps: Add, Without, Waits, All, Drop.
-/
import Derived.Test.YthbnbifagenpiaaDpRef1
import Derived.Test.YthbnbifagenpiaaVrCells
namespace Go.Proofs.Ythbnbifagenpiaa
open Go.RowKit

/-- the two cells of one that waits -/
def wtC (p : Dp.Wt) : List Value := [.int .i64 p.1, .int .i64 p.2]
theorem wtC_len (p : Dp.Wt) : (wtC p).length = 2 := rfl
theorem wtC_one (p : Dp.Wt) : ∀ u ∈ wtC p, u.oneCell' = true := by
  intro u hu
  simp only [wtC, List.mem_cons, List.not_mem_nil, or_false] at hu
  rcases hu with rfl | rfl <;> rfl
theorem wtL_one (d : List Dp.Wt) : ∀ u ∈ d.flatMap wtC, u.oneCell' = true := V.flat_one d (fun p _ => wtC_one p)
/-- the slice v holds the waits d -/
abbrev SlW (w : World) (F : Nat → Prop) (v : Value) (d : List Dp.Wt) : Prop := S.Sg w F 2 v d.length (d.flatMap wtC)
theorem elWt : S.El Try.prog 26 53 2 16 := by
  obtain ⟨i0, hi, hz0, hz1, hz2⟩ := info_parts (show (Try.prog.info? 53).map (fun i => (i.zero, i.size, i.bytes)) = some (some (.agg #[.int .i64 0, .int .i64 0]), 2, 16) by kernel_rfl)
  exact ⟨Try.underlying26, ⟨i0, _, hi, hz0, hz1, hz2, rfl⟩, by decide⟩
theorem wt_form {w : World} {F : Nat → Prop} {v : Value} {d : List Dp.Wt} (h : SlW w F v d) : ∃ A cap, v = .slice A d.length cap ∧ d.length ≤ cap := by
  obtain ⟨_, A, cap, e, hc, _⟩ := h
  exact ⟨A, cap, e, hc⟩
theorem wt_nth {w : World} {F : Nat → Prop} {A : Option Addr} {cap : Nat} {d : List Dp.Wt} (h : SlW w F (.slice A d.length cap) d) (i : Nat) (hi : i < d.length) : ∃ a, A = some a ∧ F a.block ∧
    w.cell? (a.add (i * 2)) = some (.int .i64 d[i].1) ∧ w.cell? ⟨(a.add (i * 2)).block, (a.add (i * 2)).off + 1, none⟩ = some (.int .i64 d[i].2) := by
  obtain ⟨hl0, A, cap, e, hc, hx⟩ := h
  cases e
  obtain ⟨a, rfl, hF, hx⟩ := hx (by omega)
  have q (j : Nat) (hj : j < 2) : w.cell? (a.add (i * 2 + j)) = (wtC d[i])[j]? := by
    have := V.flat_at (f := wtC) (m := 2) d (fun _ _ => rfl) i hi j hj
    rw [← this]
    have hl : i * 2 + j < (d.flatMap wtC).length := by rw [hl0]; omega
    rw [hx (i * 2 + j) _ (List.getElem?_eq_getElem hl)]
    exact (List.getElem?_eq_getElem hl).symm
  have e1 : ∀ (p : Addr) (j : Nat), (⟨p.block, p.off + (j + 1), none⟩ : Addr) = p.add (j + 1) := fun p j => by simp [Addr.add]
  refine ⟨a, rfl, hF, q 0 (by decide), ?_⟩
  rw [e1 _ 0, S.add_add]; exact q 1 (by decide)
/-- a row of two cells that was just made -/
theorem sg_pair (w : World) (e : TypeId) (p : Dp.Wt) : S.Sg (w.alloc (.cells #[.int .i64 p.1, .int .i64 p.2] e)) (fun b => b = w.heap.size) 2 (.slice (some ⟨w.heap.size, 0, none⟩) 1 1) 1 (wtC p) := by
  refine ⟨rfl, _, _, rfl, Nat.le_refl _, fun _ => ⟨_, rfl, rfl, fun j u hj => ?_⟩⟩
  rw [Addr.add_mid, cell_of_row _ _ _ _ e (0, 0) (heap_alloc_new w _), Nat.zero_add]
  simpa [wtC] using hj

set_option maxRecDepth 100000 in
set_option maxHeartbeats 4000000 in
theorem radd12_any {w : World} {F : Nat → Prop} {v : Value} {d : List Dp.Wt} (h : SlW w F v d) (hF : ∀ b, F b → b < w.heap.size) (hl : d.length ≤ 1000000) (o n : Int) :
    Calls Try.prog 23 #[v, .int .i64 o, .int .i64 n] w fun e w' => ∃ v', e = .returned (.tuple #[v', .bool (Dp.addB o n)]) ∧ SlW w' (fun b => F b ∨ S.New w w' b) v' (Dp.addD d o n) ∧ Below w.heap.size w w' := by
  have HS := Lib.hid h
  obtain ⟨A, cap, rfl, hcap⟩ := wt_form h
  clear h
  cases hb : Dp.addB o n with
  | false =>
    have HE : Hid (Dp.addD d o n = d) := Lib.hid (by unfold Dp.addD; rw [hb]; rfl)
    have HR : Hid (SlW w (fun b => F b ∨ S.New w w b) (.slice A d.length cap) d) := Lib.hid (HS.out.wider (fun b q => Or.inl q))
    by_cases h1 : n < 1
    · clear hb
      go_enter Try.func23, Try.ntmps23
      go_wp2
      refine bodyPost_ret (results_tmp2 rfl _ _ _) rfl ?_
      exact ⟨_, rfl, by rw [HE.out]; exact HR.out, Below.refl _ _⟩
    · have h2 : o ≤ n := by
        have := Dp.addB_iff (o := o) (n := n)
        rw [hb] at this
        have h3 : ¬ (1 ≤ n ∧ n < o) := fun q => by have := this.2 q; cases this
        omega
      have h2' : decide (o ≤ n) = true := decide_eq_true h2
      clear hb
      go_enter Try.func23, Try.ntmps23
      go_wp2
      refine bodyPost_ret (results_tmp2 rfl _ _ _) rfl ?_
      exact ⟨_, rfl, by rw [HE.out]; exact HR.out, Below.refl _ _⟩
  | true =>
    obtain ⟨h1, h2⟩ := Dp.addB_iff.1 hb
    have h1' : ¬ n < 1 := by omega
    have h2' : ¬ o ≤ n := by omega
    have HE : Hid (Dp.addD d o n = if (o, n) ∈ d then d else d ++ [(o, n)]) := Lib.hid (by unfold Dp.addD; rw [if_pos hb])
    clear hb
    go_enter Try.func23, Try.ntmps23
    go_wp2
    go_loopw [8] (fun i wr => ∃ k : Nat, k ≤ d.length ∧ i = .int .i64 (k : Int) ∧ Hid (Below w.heap.size w wr) ∧ Hid (∀ j (hj : j < d.length), j < k → d[j] ≠ (o, n))) (fun i _ => d.length - (intOf i).toNat)
    case atStart => exact ⟨0, Nat.zero_le _, rfl, Lib.hid (Below.refl _ _), Lib.hid (fun j _ h => absurd h (Nat.not_lt_zero _))⟩
    case round =>
      obtain ⟨k, hk, rfl, HB, HI⟩ := hrel
      by_cases hlt : k < d.length
      · have hlt' : (k : Int) < (d.length : Int) := by omega
        have hk0 : (0 : Int) ≤ (k : Int) := by omega
        obtain ⟨a, rfl, _, x0, x1⟩ := wt_nth (S.Sg.below HS.out HB.out hF) k hlt
        have HN0 : Hid (d[k] ≠ (o, n) → ∀ j (hj : j < d.length), j < k + 1 → d[j] ≠ (o, n)) := Lib.hid (fun he j hj hjk => by
          by_cases e : j = k
          · subst e; exact he
          · exact HI.out j hj (by omega))
        have HM : Hid (d[k] = (o, n) → (o, n) ∈ d) := Lib.hid (fun e => by rw [← e]; exact List.getElem_mem hlt)
        generalize d[k] = u at *
        obtain ⟨u1, u2⟩ := u
        by_cases e1 : u1 = o
        · have e1' : (u1 == o) = true := by simpa using e1
          by_cases e2 : u2 = n
          · have e2' : (u2 == n) = true := by simpa using e2
            have HE2 : Hid (Dp.addD d o n = d) := Lib.hid (by rw [HE.out, if_pos (HM.out (by rw [e1, e2]))])
            clear e1 e2
            go_wp2
            refine bodyPost_ret (results_tmp2 rfl _ _ _) rfl ?_
            exact ⟨_, rfl, by rw [HE2.out]; exact (S.Sg.below HS.out HB.out hF).wider (fun b q => Or.inl q), HB.out⟩
          · have e2' : (u2 == n) = false := by simpa using e2
            have HN := Lib.hid (HN0.out (fun e => e2 (congrArg Prod.snd e)))
            clear e1 e2
            go_wp2
            go_roundw
            case rel => exact ⟨k + 1, by omega, by go_num, HB, HN⟩
            case measure => simp [intOf]; omega
        · have e1' : (u1 == o) = false := by simpa using e1
          have HN := Lib.hid (HN0.out (fun e => e1 (congrArg Prod.fst e)))
          clear e1
          go_wp2
          go_roundw
          case rel => exact ⟨k + 1, by omega, by go_num, HB, HN⟩
          case measure => simp [intOf]; omega
      · obtain rfl : k = d.length := by omega
        have hlt' : ¬ (d.length : Int) < (d.length : Int) := by omega
        have HE2 : Hid (Dp.addD d o n = d ++ [(o, n)]) := Lib.hid (by
          rw [HE.out, if_neg (fun hm => by
            obtain ⟨j, hj, e⟩ := List.getElem_of_mem hm
            exact HI.out j hj hj e)])
        go_wp2_with (first
          | (at_builtin; refine S.wpList_append_sg elWt rfl _ _ rfl (base := w.heap.size) (n := 0) (m := d.length) (xs := []) (cs := d.flatMap wtC) rfl rfl (S.own_none 53 2 rfl HB.out.size) (S.Sg.below HS.out (HB.out.alloc HB.out.size _) hF) (wtL_one _) (by omega) (by omega) (Nat.le_trans HB.out.size (by simp)) ?_
             intro v2 w2 hown2 hgrow2 _
             have HB2 := Lib.hid ((HB.out.alloc HB.out.size (.cells #[] 53)).trans (S.below_base (S.own_none 53 2 rfl HB.out.size) (Nat.le_trans HB.out.size (by simp)) hgrow2))
             have HO2 : Hid (w2.ownsRow w.heap.size 53 2 v2 d.length (d.flatMap wtC)) := Lib.hid (by simpa using hown2)
             clear hown2 hgrow2
             obtain ⟨A2, c2, rfl⟩ := num_own HO2.out)
          | (at_builtin; refine S.wpList_append_sg elWt rfl _ _ rfl (base := w.heap.size) (v0 := .slice A2 d.length c2) (n := d.length) (m := 1) (xs := d.flatMap wtC) (cs := wtC (o, n)) rfl rfl (HO2.out.alloc _) (sg_pair w2 53 (o, n)) (wtC_one _) (by omega) (by omega) (Nat.le_trans HB2.out.size (by simp)) ?_
             intro v3 w3 hown3 hgrow3 _
             have HB3 := Lib.hid ((HB2.out.alloc HB2.out.size (.cells #[.int .i64 o, .int .i64 n] 53)).trans (S.below_base (HO2.out.alloc (.cells #[.int .i64 o, .int .i64 n] 53)) (Nat.le_trans HB2.out.size (by simp)) hgrow3))
             have HO3 := Lib.hid (S.Sg.of_own hown3)
             clear hown3 hgrow3))
        refine bodyPost_ret (results_tmp2 rfl _ _ _) rfl ?_
        refine ⟨_, rfl, ?_, HB3.out⟩
        rw [HE2.out]
        have h5 := HO3.out
        rw [show d.length + 1 = (d ++ [(o, n)]).length by simp, show d.flatMap wtC ++ wtC (o, n) = (d ++ [(o, n)]).flatMap wtC by simp] at h5
        exact h5.wider (fun b q => Or.inr q)

namespace Dp
theorem without_succ {d : List Wt} {l : List Int} {k : Nat} (hk : k < d.length) : without (d.take (k + 1)) l = without (d.take k) l ++ (if (!has l d[k].1 && !has l d[k].2) = true then [d[k]] else []) := by
  unfold without
  rw [List.take_succ_eq_append_getElem hk, List.filter_append]
  congr 1
  by_cases h : (!has l d[k].1 && !has l d[k].2) = true
  · rw [if_pos h, List.filter_cons, if_pos h]; rfl
  · rw [if_neg h, List.filter_cons, if_neg h]; rfl
theorem waits_succ {d : List Wt} {o : Int} {k : Nat} (hk : k < d.length) : waits (d.take (k + 1)) o = if d[k].1 = o then put (waits (d.take k) o) d[k].2 else waits (d.take k) o := by
  unfold waits
  rw [List.take_succ_eq_append_getElem hk, List.foldl_append]
  rfl
theorem all_succ {d : List Wt} {k : Nat} (hk : k < d.length) : all (d.take (k + 1)) = put (all (d.take k)) d[k].1 := by
  unfold all
  rw [List.take_succ_eq_append_getElem hk, List.foldl_append]
  rfl
theorem round_succ {d : List Wt} {l : List Int} {k : Nat} (hk : k < d.length) : round (d.take (k + 1)) l = if d[k].2 ∈ round (d.take k) l then put (round (d.take k) l) d[k].1 else round (d.take k) l := by
  unfold round
  rw [List.take_succ_eq_append_getElem hk, List.foldl_append]
  rfl
theorem rounds_succ (d : List Wt) : ∀ (k : Nat) (l : List Int), rounds d (k + 1) l = round d (rounds d k l)
  | 0, _ => rfl
  | k + 1, l => by rw [rounds, rounds_succ d k (round d l)]; rfl
theorem round_len' (d : List Wt) (l : List Int) : (round d l).length ≤ l.length + d.length := by
  unfold round
  induction d generalizing l with
  | nil => simp
  | cons p d ih =>
    rw [List.foldl_cons, List.length_cons]
    split
    · have := ih (put l p.1); have := put_len (l := l) (n := p.1); omega
    · have := ih l; omega
end Dp

set_option maxRecDepth 100000 in
set_option maxHeartbeats 4000000 in
theorem rwithout12_any {w : World} {F : Nat → Prop} {v vl : Value} {d : List Dp.Wt} {l : List Int} (h : SlW w F v d) (h2 : SlN w F vl l) (hF : ∀ b, F b → b < w.heap.size) (hl : d.length ≤ 100000) (hl2 : l.length ≤ 1000000) :
    Calls Try.prog 24 #[v, vl] w fun e w' => ∃ v', e = .returned v' ∧ SlW w' (S.New w w') v' (Dp.without d l) ∧ Below w.heap.size w w' := by
  have HS := Lib.hid h
  have HL := Lib.hid h2
  obtain ⟨A, cap, rfl, hcap⟩ := wt_form h
  obtain ⟨B, capb, rfl, hcapb⟩ := num_form h2
  clear h h2
  have HIn : Hid (∀ (W : World) (n : Int), Below w.heap.size w W → Calls Try.prog 32 #[.slice B l.length capb, .int .i64 n] W fun e w' => e = .returned (.bool (Dp.has l n)) ∧ Below W.heap.size W w') := Lib.hid (fun W n hb => rin12_any (S.Sg.below HL.out hb hF) (fun b q => Nat.lt_of_lt_of_le (hF b q) hb.size) hl2 n)
  have HSu := Lib.hid (fun k (hk : k < d.length) => Dp.without_succ (l := l) hk)
  go_enter Try.func24, Try.ntmps24
  go_wp2
  go_loopw [5, 6] (fun r i wr => ∃ (k : Nat) (X : List Dp.Wt), k ≤ d.length ∧ X.length ≤ k ∧ i = .int .i64 (k : Int) ∧ Hid (Dp.without (d.take k) l = X) ∧ Hid (wr.ownsRow w.heap.size 53 2 r X.length (X.flatMap wtC)) ∧ Hid (Below w.heap.size w wr)) (fun _ i _ => d.length - (intOf i).toNat)
  case atStart => exact ⟨0, [], Nat.zero_le _, Nat.zero_le _, rfl, Lib.hid rfl, Lib.hid (S.own_nil ..), Lib.hid (Below.refl _ _)⟩
  case round =>
    obtain ⟨k, X, hk, hX, rfl, HX, HO, HB⟩ := hrel
    obtain ⟨Ar, cr, rfl⟩ := num_own HO.out
    by_cases hlt : k < d.length
    · have hlt' : (k : Int) < (d.length : Int) := by omega
      have hk0 : (0 : Int) ≤ (k : Int) := by omega
      obtain ⟨a, rfl, hFa, x0, x1⟩ := wt_nth (S.Sg.below HS.out HB.out hF) k hlt
      have HAd : Hid (∀ W, Below w.heap.size w W → W.cell? (a.add (k * 2)) = some (.int .i64 d[k].1) ∧ W.cell? ⟨(a.add (k * 2)).block, (a.add (k * 2)).off + 1, none⟩ = some (.int .i64 d[k].2)) := Lib.hid (fun W hb => by
        obtain ⟨a', e, _, y0, y1⟩ := wt_nth (S.Sg.below HS.out hb hF) k hlt
        cases e
        exact ⟨y0, y1⟩)
      have H1 := Lib.hid (HSu.out k hlt)
      have HI1 := Lib.hid (fun W (hb : Below w.heap.size w W) => HIn.out W d[k].1 hb)
      have HI2 := Lib.hid (fun W (hb : Below w.heap.size w W) => HIn.out W d[k].2 hb)
      generalize d[k] = u at *
      obtain ⟨u1, u2⟩ := u
      dsimp only at *
      cases h1 : Dp.has l u1 with
      | true =>
        rw [h1] at HI1
        have HN : Hid (Dp.without (d.take (k + 1)) l = X) := Lib.hid (by rw [H1.out, HX.out, if_neg (by rw [h1]; simp), List.append_nil])
        clear h1
        go_wp2_with (go_at_call 32; refine (HI1.out _ HB.out).mono ?_; rintro e w2 ⟨rfl, hb2⟩; have HB2 := Lib.hid (HB.out.trans (hb2.mono HB.out.size)); have HO2 := Lib.hid (S.own_below HO.out hb2); clear hb2)
        go_roundw
        case rel => exact ⟨k + 1, X, by omega, by omega, by go_num, HN, HO2, HB2⟩
        case measure => simp [intOf]; omega
      | false =>
        rw [h1] at HI1
        cases h2 : Dp.has l u2 with
        | true =>
          rw [h2] at HI2
          have HN : Hid (Dp.without (d.take (k + 1)) l = X) := Lib.hid (by rw [H1.out, HX.out, if_neg (by rw [h2]; simp), List.append_nil])
          clear h1 h2
          go_wp2_with (first
            | (go_at_call 32; with_reducible refine (HI1.out _ HB.out).mono ?_; rintro e w2 ⟨rfl, hb2⟩; have HB2 := Lib.hid (HB.out.trans (hb2.mono HB.out.size)); have HO2 := Lib.hid (S.own_below HO.out hb2); clear hb2 x0 x1; obtain ⟨x0, x1⟩ := HAd.out _ HB2.out)
            | (go_at_call 32; with_reducible refine (HI2.out _ HB2.out).mono ?_; rintro e w3 ⟨rfl, hb3⟩; have HB3 := Lib.hid (HB2.out.trans (hb3.mono HB2.out.size)); have HO3 := Lib.hid (S.own_below HO2.out hb3); clear hb3 x0 x1; obtain ⟨x0, x1⟩ := HAd.out _ HB3.out))
          go_roundw
          case rel => exact ⟨k + 1, X, by omega, by omega, by go_num, HN, HO3, HB3⟩
          case measure => simp [intOf]; omega
        | false =>
          rw [h2] at HI2
          have HN : Hid (Dp.without (d.take (k + 1)) l = X ++ [(u1, u2)]) := Lib.hid (by rw [H1.out, HX.out, if_pos (by rw [h1, h2]; rfl)])
          clear h1 h2
          go_wp2_with (first
            | (go_at_call 32; with_reducible refine (HI1.out _ HB.out).mono ?_; rintro e w2 ⟨rfl, hb2⟩; have HB2 := Lib.hid (HB.out.trans (hb2.mono HB.out.size)); have HO2 := Lib.hid (S.own_below HO.out hb2); clear hb2 x0 x1; obtain ⟨x0, x1⟩ := HAd.out _ HB2.out)
            | (go_at_call 32; with_reducible refine (HI2.out _ HB2.out).mono ?_; rintro e w3 ⟨rfl, hb3⟩; have HB3 := Lib.hid (HB2.out.trans (hb3.mono HB2.out.size)); have HO3 := Lib.hid (S.own_below HO2.out hb3); clear hb3 x0 x1; obtain ⟨x0, x1⟩ := HAd.out _ HB3.out)
            | (at_builtin; refine S.wpList_append_sg elWt rfl _ _ rfl (base := w.heap.size) (v0 := .slice Ar X.length cr) (n := X.length) (m := 1) (xs := X.flatMap wtC) (cs := wtC (u1, u2)) rfl rfl (HO3.out.alloc _) (sg_pair w3 53 (u1, u2)) (wtC_one _) (by omega) (by omega) (Nat.le_trans HB3.out.size (by simp)) ?_
               intro v5 w5 hown5 hgrow5 _
               have HB5 := Lib.hid ((HB3.out.alloc HB3.out.size (.cells #[.int .i64 u1, .int .i64 u2] 53)).trans (S.below_base (HO3.out.alloc (.cells #[.int .i64 u1, .int .i64 u2] 53)) (Nat.le_trans HB3.out.size (by simp)) hgrow5))
               have HO5 : Hid (w5.ownsRow w.heap.size 53 2 v5 (X ++ [(u1, u2)]).length ((X ++ [(u1, u2)]).flatMap wtC)) := Lib.hid (by
                 rw [List.length_append, List.flatMap_append]
                 simpa using hown5)
               clear hown5 hgrow5))
          go_roundw
          case rel => exact ⟨k + 1, _, by omega, by simp; omega, by go_num, HN, HO5, HB5⟩
          case measure => simp [intOf]; omega
    · obtain rfl : k = d.length := by omega
      have hlt' : ¬ (d.length : Int) < (d.length : Int) := by omega
      go_wp2
      go_ret
      have hx := HX.out
      rw [List.take_length] at hx
      refine ⟨_, rfl, ?_, HB.out⟩
      rw [hx]
      exact S.Sg.of_own HO.out

set_option maxRecDepth 100000 in
set_option maxHeartbeats 4000000 in
theorem rwaits12_any {w : World} {F : Nat → Prop} {v : Value} {d : List Dp.Wt} (h : SlW w F v d) (hF : ∀ b, F b → b < w.heap.size) (hl : d.length ≤ 100000) (o : Int) :
    Calls Try.prog 16 #[v, .int .i64 o] w fun e w' => ∃ v', e = .returned v' ∧ SlN w' (S.New w w') v' (Dp.waits d o) ∧ Below w.heap.size w w' := by
  have HS := Lib.hid h
  obtain ⟨A, cap, rfl, hcap⟩ := wt_form h
  clear h
  have HSu := Lib.hid (fun k (hk : k < d.length) => Dp.waits_succ (o := o) hk)
  go_enter Try.func16, Try.ntmps16
  go_wp2
  go_loopw [5, 6] (fun r i wr => ∃ (k : Nat) (X : List Int), k ≤ d.length ∧ X.length ≤ k ∧ i = .int .i64 (k : Int) ∧ Hid (Dp.waits (d.take k) o = X) ∧ Hid (SlN wr (S.New w wr) r X) ∧ Hid (Below w.heap.size w wr)) (fun _ i _ => d.length - (intOf i).toNat)
  case atStart => exact ⟨0, [], Nat.zero_le _, Nat.zero_le _, rfl, Lib.hid rfl, Lib.hid (S.Sg.nil _ _ _ _ _), Lib.hid (Below.refl _ _)⟩
  case round =>
    obtain ⟨k, X, hk, hX, rfl, HX, HO, HB⟩ := hrel
    obtain ⟨Ar, cr, rfl, _⟩ := num_form HO.out
    by_cases hlt : k < d.length
    · have hlt' : (k : Int) < (d.length : Int) := by omega
      have hk0 : (0 : Int) ≤ (k : Int) := by omega
      obtain ⟨a, rfl, hFa, x0, x1⟩ := wt_nth (S.Sg.below HS.out HB.out hF) k hlt
      have H1 := Lib.hid (HSu.out k hlt)
      generalize d[k] = u at *
      obtain ⟨u1, u2⟩ := u
      dsimp only at *
      by_cases e1 : u1 = o
      · have e1' : (u1 == o) = true := by simpa using e1
        have HN : Hid (Dp.waits (d.take (k + 1)) o = Dp.put X u2) := Lib.hid (by rw [H1.out, HX.out, if_pos e1])
        have HP := Lib.hid (rput12_any HO.out (fun b q => q.2) (by omega) u2)
        have HLn : Hid ((Dp.put X u2).length ≤ X.length + 1) := Lib.hid Dp.put_len
        clear e1
        generalize Dp.put X u2 = Y at *
        go_wp2_with (go_at_call 26; refine HP.out.mono ?_; rintro e w2 ⟨v2, rfl, h2, hb2⟩; have HB2 := Lib.hid (HB.out.trans (hb2.mono HB.out.size)); have HO2 : Hid (SlN w2 (S.New w w2) v2 Y) := Lib.hid (h2.wider (fun b q => q.elim (fun q => ⟨q.1, Nat.lt_of_lt_of_le q.2 hb2.size⟩) (fun q => ⟨Nat.le_trans HB.out.size q.1, q.2⟩))); obtain ⟨A2, c2, rfl, _⟩ := num_form h2; clear h2 hb2)
        go_roundw
        case rel => exact ⟨k + 1, Y, by omega, by have := HLn.out; omega, by go_num, HN, HO2, HB2⟩
        case measure => simp [intOf]; omega
      · have e1' : (u1 == o) = false := by simpa using e1
        have HN : Hid (Dp.waits (d.take (k + 1)) o = X) := Lib.hid (by rw [H1.out, HX.out, if_neg e1])
        clear e1
        go_wp2
        go_roundw
        case rel => exact ⟨k + 1, X, by omega, by omega, by go_num, HN, HO, HB⟩
        case measure => simp [intOf]; omega
    · obtain rfl : k = d.length := by omega
      have hlt' : ¬ (d.length : Int) < (d.length : Int) := by omega
      go_wp2
      go_ret
      have hx := HX.out
      rw [List.take_length] at hx
      refine ⟨_, rfl, ?_, HB.out⟩
      rw [hx]
      exact HO.out

set_option maxRecDepth 100000 in
set_option maxHeartbeats 4000000 in
theorem rall12_any {w : World} {F : Nat → Prop} {v : Value} {d : List Dp.Wt} (h : SlW w F v d) (hF : ∀ b, F b → b < w.heap.size) (hl : d.length ≤ 100000) :
    Calls Try.prog 12 #[v] w fun e w' => ∃ v', e = .returned v' ∧ SlN w' (S.New w w') v' (Dp.all d) ∧ Below w.heap.size w w' := by
  have HS := Lib.hid h
  obtain ⟨A, cap, rfl, hcap⟩ := wt_form h
  clear h
  have HSu := Lib.hid (fun k (hk : k < d.length) => Dp.all_succ hk)
  go_enter Try.func12, Try.ntmps12
  go_wp2
  go_loopw [3, 4] (fun r i wr => ∃ (k : Nat) (X : List Int), k ≤ d.length ∧ X.length ≤ k ∧ i = .int .i64 (k : Int) ∧ Hid (Dp.all (d.take k) = X) ∧ Hid (SlN wr (S.New w wr) r X) ∧ Hid (Below w.heap.size w wr)) (fun _ i _ => d.length - (intOf i).toNat)
  case atStart => exact ⟨0, [], Nat.zero_le _, Nat.zero_le _, rfl, Lib.hid rfl, Lib.hid (S.Sg.nil _ _ _ _ _), Lib.hid (Below.refl _ _)⟩
  case round =>
    obtain ⟨k, X, hk, hX, rfl, HX, HO, HB⟩ := hrel
    obtain ⟨Ar, cr, rfl, _⟩ := num_form HO.out
    by_cases hlt : k < d.length
    · have hlt' : (k : Int) < (d.length : Int) := by omega
      have hk0 : (0 : Int) ≤ (k : Int) := by omega
      obtain ⟨a, rfl, hFa, x0, x1⟩ := wt_nth (S.Sg.below HS.out HB.out hF) k hlt
      have H1 := Lib.hid (HSu.out k hlt)
      generalize d[k] = u at *
      obtain ⟨u1, u2⟩ := u
      dsimp only at *
      have HN : Hid (Dp.all (d.take (k + 1)) = Dp.put X u1) := Lib.hid (by rw [H1.out, HX.out])
      have HP := Lib.hid (rput12_any HO.out (fun b q => q.2) (by omega) u1)
      have HLn : Hid ((Dp.put X u1).length ≤ X.length + 1) := Lib.hid Dp.put_len
      generalize Dp.put X u1 = Y at *
      go_wp2_with (go_at_call 26; refine HP.out.mono ?_; rintro e w2 ⟨v2, rfl, h2, hb2⟩; have HB2 := Lib.hid (HB.out.trans (hb2.mono HB.out.size)); have HO2 : Hid (SlN w2 (S.New w w2) v2 Y) := Lib.hid (h2.wider (fun b q => q.elim (fun q => ⟨q.1, Nat.lt_of_lt_of_le q.2 hb2.size⟩) (fun q => ⟨Nat.le_trans HB.out.size q.1, q.2⟩))); obtain ⟨A2, c2, rfl, _⟩ := num_form h2; clear h2 hb2)
      go_roundw
      case rel => exact ⟨k + 1, Y, by omega, by have := HLn.out; omega, by go_num, HN, HO2, HB2⟩
      case measure => simp [intOf]; omega
    · obtain rfl : k = d.length := by omega
      have hlt' : ¬ (d.length : Int) < (d.length : Int) := by omega
      go_wp2
      go_ret
      have hx := HX.out
      rw [List.take_length] at hx
      refine ⟨_, rfl, ?_, HB.out⟩
      rw [hx]
      exact HO.out
end Go.Proofs.Ythbnbifagenpiaa
