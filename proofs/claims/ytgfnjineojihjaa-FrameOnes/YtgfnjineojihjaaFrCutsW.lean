/-
  The law FrameCuts, walked: any record's frames.
-/
import Derived.Test.YtgfnjineojihjaaFrTurnedW
namespace Go.Proofs.Ytgfnjineojihjaa
open Go.RowKit

theorem fr_add_pos (a : Addr) (j : Nat) : a.add (j + 1) = ⟨a.block, a.off + (j + 1), none⟩ := by unfold Addr.add; simp
theorem fr_cell_in {w : World} {a : Addr} {i j : Nat} {v : Value} (h : w.cell? (a.add (i * 4 + (j + 1))) = some v) : w.cell? ⟨(a.add (i * 4)).block, (a.add (i * 4)).off + (j + 1), none⟩ = some v := by
  rw [← fr_add_pos, S.add_add]; exact h

theorem frC_len (f : R.Fr) : (frC f).length = 4 := rfl

set_option linter.unusedSimpArgs false in
set_option maxRecDepth 100000 in
set_option maxHeartbeats 2000000 in
theorem cuts_any (K : FrameOk) {w : World} {G : Nat → Prop} {vb : Value} {l : List UInt8} (e s : Nat) (he : e < 4294967296) (hs : s < 4294967296) (hb : SlB w G vb l) (hG : ∀ b, G b → b < w.heap.size) :
    Calls Try.prog 4 #[.int .u32 e, .int .u32 s, vb] w fun r w' => r = .returned (.bool true) ∧ Below w.heap.size w w' := by
  have HB := Lib.hid hb
  obtain ⟨Ab, capb, rfl, hcb⟩ := slB_form hb
  have HA := Lib.hid (fawake_any K w)
  clear hb
  by_cases h2k : l.length ≤ 2000
  · have t1 : ¬ (2000 : Int) < (l.length : Int) := by omega
    go_enter Try.func4, Try.ntmps4
    go_wp2_with fail
    refine HA.out.mono ?_
    rintro r w1 ⟨rfl, hb1⟩
    have HC := Lib.hid (K.cut e s (HB.out.below hb1 hG) (fun b g => Nat.lt_of_lt_of_le (hG b g) hb1.size) he hs h2k)
    clear HA
    go_wp2_with fail
    refine HC.out.mono ?_
    rintro r w2 ⟨v2, rfl, hs2, hb2⟩
    have hb2' := below_two hb1 hb2
    have H2 := Lib.hid hs2
    obtain ⟨n, hn⟩ : ∃ n, n = (R.cut e s l).length := ⟨_, rfl⟩
    obtain ⟨A2, cap2, rfl, hc2⟩ : ∃ A cap, v2 = .slice A n cap ∧ n ≤ cap := by obtain ⟨A, cap, e, hc, _⟩ := hs2; rw [hn]; exact ⟨A, cap, e, hc⟩
    have hcv := conv_sg (HB.out.below hb2' hG)
    have HR := Lib.hid (rcut_any e s l w2 he hs (by omega))
    have HN := Lib.hid hn
    rw [← hn] at HR
    have hnl : n ≤ 1000000 := by rw [hn, R.cut_len]; unfold R.many; split <;> omega
    clear HC hs2 hn
    go_wp2_with fail
    refine HR.out.mono ?_
    rintro r w3 ⟨v3, rfl, hown3, hb3⟩
    have hb3' := below_two hb2' hb3
    have HO := Lib.hid hown3
    obtain ⟨o, cap3, _, rfl, ho3, hc3, _⟩ := V.own_form hown3 (by rw [HN.out, R.cut_len]; exact R.many_pos _)
    have H3 := Lib.hid (H2.out.below hb3 (fun b h => h.2))
    have hl23 := hb3.size
    clear HR hown3 hcv H2
    go_wp2_with fail
    go_loopw [10] (fun i wr => ∃ k : Nat, k ≤ n ∧ i = .int .i64 k ∧ Hid (Below w3.heap.size w3 wr)) (fun i _ => n - (intOf i).toNat)
    case atStart => exact ⟨0, Nat.zero_le _, rfl, Lib.hid (Below.refl _ _)⟩
    case round =>
      obtain ⟨k, hk, rfl, HW⟩ := hrel
      by_cases hlt : k < n
      · have hkc : k < (R.cut e s l).length := by rw [← HN.out]; exact hlt
        have H4 := H3.out.below HW.out (fun b h => Nat.lt_of_lt_of_le h.2 hl23)
        obtain ⟨a, cap2', vb5, e5, _, hFa, x0, x1, x2, x3, hb5⟩ := H4.at k hkc
        rw [← HN.out] at e5
        cases e5
        obtain ⟨g, hg⟩ : ∃ g, g = (R.cut e s l)[k] := ⟨_, rfl⟩
        rw [← hg] at x0 x1 x2 hb5
        have H5 := Lib.hid hb5
        obtain ⟨A5, cap5, rfl, hc5⟩ := slB_form hb5
        have hrg := V.own_range (V.own_keep HO.out (w' := wr) (fun j hj => HW.out.block j (World.ownsRow.lt HO.out j hj).2)) (fun x _ => frC_len x) k hkc
        rw [← hg] at hrg
        have X1 := fr_cell_in (j := 0) x1
        have X2 := fr_cell_in (j := 1) x2
        have X3 := fr_cell_in (j := 2) x3
        have y0 := hrg 0 _ rfl
        have y1 := hrg 1 _ rfl
        have y2 := hrg 2 _ rfl
        have y3 := hrg 3 _ rfl
        have hal : a.block < w3.heap.size := Nat.lt_of_lt_of_le hFa.2 hl23
        have HS : Hid (∀ w', Below wr.heap.size wr w' → w'.cell? (a.add (k * 4)) = some (.int .u32 (g.epoch : Int)) ∧ w'.cell? ⟨(a.add (k * 4)).block, (a.add (k * 4)).off + 1, none⟩ = some (.int .u32 (g.seq : Int)) ∧ w'.cell? ⟨(a.add (k * 4)).block, (a.add (k * 4)).off + 2, none⟩ = some (.int .u8 (g.flag.toNat : Int)) ∧ w'.cell? ⟨(a.add (k * 4)).block, (a.add (k * 4)).off + 3, none⟩ = some (.slice A5 g.body.length cap5) ∧ w'.cell? ⟨o, k * 4, none⟩ = some (.int .u32 (g.epoch : Int)) ∧ w'.cell? ⟨o, k * 4 + 1, none⟩ = some (.int .u32 (g.seq : Int)) ∧ w'.cell? ⟨o, k * 4 + 2, none⟩ = some (.int .u8 (g.flag.toNat : Int)) ∧ w'.cell? ⟨o, k * 4 + 3, none⟩ = some (.string ⟨g.body.toArray⟩) ∧ Below w3.heap.size w3 w') := Lib.hid fun w' hb =>
          have hwl := HW.out.size
          have q (p : Addr) (hp : p.block < w3.heap.size) : w'.cell? p = wr.cell? p := hb.cell (Nat.lt_of_lt_of_le hp hwl)
          ⟨(q _ (by rw [S.add_block]; exact hal)).trans x0, (q _ (by show (a.add (k * 4)).block < _; rw [S.add_block]; exact hal)).trans X1, (q _ (by show (a.add (k * 4)).block < _; rw [S.add_block]; exact hal)).trans X2, (q _ (by show (a.add (k * 4)).block < _; rw [S.add_block]; exact hal)).trans X3,
            (q _ ho3).trans y0, (q _ ho3).trans y1, (q _ ho3).trans y2, (q _ ho3).trans y3, HW.out.trans (hb.mono hwl)⟩
        have HC1 : Hid (∀ w', (w'.cell? (a.add (k * 4)) = some (.int .u32 (g.epoch : Int)) ∧ w'.cell? ⟨(a.add (k * 4)).block, (a.add (k * 4)).off + 1, none⟩ = some (.int .u32 (g.seq : Int)) ∧ w'.cell? ⟨(a.add (k * 4)).block, (a.add (k * 4)).off + 2, none⟩ = some (.int .u8 (g.flag.toNat : Int)) ∧ w'.cell? ⟨(a.add (k * 4)).block, (a.add (k * 4)).off + 3, none⟩ = some (.slice A5 g.body.length cap5) ∧ w'.cell? ⟨o, k * 4, none⟩ = some (.int .u32 (g.epoch : Int)) ∧ w'.cell? ⟨o, k * 4 + 1, none⟩ = some (.int .u32 (g.seq : Int)) ∧ w'.cell? ⟨o, k * 4 + 2, none⟩ = some (.int .u8 (g.flag.toNat : Int)) ∧ w'.cell? ⟨o, k * 4 + 3, none⟩ = some (.string ⟨g.body.toArray⟩) ∧ Below w3.heap.size w3 w') ∧ Below wr.heap.size wr w' → Calls Try.prog 12 #[.agg #[.int .u32 (g.epoch : Int), .int .u32 (g.seq : Int), .int .u8 (g.flag.toNat : Int), .slice A5 g.body.length cap5]] w' fun r w'' => r = .returned (frA g) ∧ (w''.cell? (a.add (k * 4)) = some (.int .u32 (g.epoch : Int)) ∧ w''.cell? ⟨(a.add (k * 4)).block, (a.add (k * 4)).off + 1, none⟩ = some (.int .u32 (g.seq : Int)) ∧ w''.cell? ⟨(a.add (k * 4)).block, (a.add (k * 4)).off + 2, none⟩ = some (.int .u8 (g.flag.toNat : Int)) ∧ w''.cell? ⟨(a.add (k * 4)).block, (a.add (k * 4)).off + 3, none⟩ = some (.slice A5 g.body.length cap5) ∧ w''.cell? ⟨o, k * 4, none⟩ = some (.int .u32 (g.epoch : Int)) ∧ w''.cell? ⟨o, k * 4 + 1, none⟩ = some (.int .u32 (g.seq : Int)) ∧ w''.cell? ⟨o, k * 4 + 2, none⟩ = some (.int .u8 (g.flag.toNat : Int)) ∧ w''.cell? ⟨o, k * 4 + 3, none⟩ = some (.string ⟨g.body.toArray⟩) ∧ Below w3.heap.size w3 w'') ∧ Below wr.heap.size wr w'') :=
          Lib.hid fun w' hS => (real_any (f := g) ⟨_, rfl, H5.out.below hS.2 (fun b h => Nat.lt_of_lt_of_le h.2 (Nat.le_trans hl23 HW.out.size))⟩ (fun b h => Nat.lt_of_lt_of_le h.2 (Nat.le_trans (Nat.le_trans hl23 HW.out.size) hS.2.size))).mono (fun r w'' ⟨hr, hb⟩ => ⟨hr, HS.out _ (hS.2.trans (hb.mono hS.2.size)), hS.2.trans (hb.mono hS.2.size)⟩)
        have hne : ∀ w', (binOp .neq 33 (frA g) (frA g)).run Try.prog w' = .ok (.bool false) w' := fun w' => by rw [neq_fr, sameF_self]; rfl
        have hbd : Below wr.heap.size wr wr.drew := (Below.refl _ _).drew
        have i0 : (0 : Int) ≤ (k : Int) := by omega
        have i1 : (k : Int) < (n : Int) := by omega
        clear H4 x0 x1 x2 x3 X1 X2 X3 y0 y1 y2 y3 hrg hg hb5
        go_wp2_with fail
        go_region_held3 (fun w' => (w'.cell? (a.add (k * 4)) = some (.int .u32 (g.epoch : Int)) ∧ w'.cell? ⟨(a.add (k * 4)).block, (a.add (k * 4)).off + 1, none⟩ = some (.int .u32 (g.seq : Int)) ∧ w'.cell? ⟨(a.add (k * 4)).block, (a.add (k * 4)).off + 2, none⟩ = some (.int .u8 (g.flag.toNat : Int)) ∧ w'.cell? ⟨(a.add (k * 4)).block, (a.add (k * 4)).off + 3, none⟩ = some (.slice A5 g.body.length cap5) ∧ w'.cell? ⟨o, k * 4, none⟩ = some (.int .u32 (g.epoch : Int)) ∧ w'.cell? ⟨o, k * 4 + 1, none⟩ = some (.int .u32 (g.seq : Int)) ∧ w'.cell? ⟨o, k * 4 + 2, none⟩ = some (.int .u8 (g.flag.toNat : Int)) ∧ w'.cell? ⟨o, k * 4 + 3, none⟩ = some (.string ⟨g.body.toArray⟩) ∧ Below w3.heap.size w3 w') ∧ Below wr.heap.size wr w')
          (first | exact ⟨HS.out _ hbd, hbd⟩ | assumption)
          (first
            | (go_at_call 12
               refine (HC1.out _ (by assumption)).mono ?_
               rintro r w9 ⟨rfl, hS9⟩))
        all_goals (try go_wp2)
        all_goals go_roundw
        case rel => exact ⟨k + 1, by omega, by go_num, Lib.hid (hS9.1.2.2.2.2.2.2.2.2)⟩
        case measure => simp [intOf]; omega
      · have i1 : ¬ (k : Int) < (n : Int) := by omega
        go_wp2
        go_ret
        exact ⟨rfl, hb3'.trans (HW.out.mono hb3'.size)⟩
  · have t1 : (2000 : Int) < (l.length : Int) := by omega
    go_enter Try.func4, Try.ntmps4
    go_wp2_with fail
    refine HA.out.mono ?_
    rintro r w1 ⟨rfl, hb1⟩
    go_wp2
    go_ret
    exact ⟨rfl, hb1⟩

end Go.Proofs.Ytgfnjineojihjaa
