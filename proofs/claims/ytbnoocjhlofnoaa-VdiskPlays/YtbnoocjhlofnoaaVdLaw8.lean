/-
  The law VdiskPlays, walked: whatever is written, synced, read, and crashes, the answers are the document's.
-/
import Derived.Test.YtbnoocjhlofnoaaVdLaw7
namespace Go.Proofs.Ytbnoocjhlofnoaa
open Go.RowKit

section
variable {H : World → (Nat → Prop) → Value → D.Dk → Prop}

set_option maxRecDepth 100000 in
set_option maxHeartbeats 4000000 in
theorem plays_yes (K : DiskOk H) (n : Nat) (v : Value) (l : List Deed) (w : World) (G : Nat → Prop) (hd : Deeds w G v l) (hG : ∀ b, G b → b < w.heap.size) (hf : fewM l = true) (hn : 1 ≤ n) (hn2 : n ≤ 1024) :
    Calls Try.prog 3 #[.int .i64 n, v] w fun e w' => e = .returned (.bool true) ∧ Below w.heap.size w w' := by
  obtain ⟨hl, hbl⟩ := few_of hf
  have HD := Lib.hid hd
  obtain ⟨A, cap, rfl, hc, ho, _⟩ := hd
  clear ho
  go_enter Try.func3, Try.ntmps3
  go_wp2_with fail
  refine (vawake_any K w).mono ?_
  rintro e w0 ⟨rfl, hb0⟩
  have HN := Lib.hid (K.new n w0 hn hn2)
  go_wp2_with fail
  refine HN.out.mono ?_
  rintro e w1 ⟨p, rfl, hH1, hb1⟩
  obtain ⟨pa, rfl⟩ := K.ptr hH1
  have HW := Lib.hid (by have := few_any (.slice A l.length cap) l w1 G ((HD.out.below hb0 hG).below hb1 (fun b h => Nat.lt_of_lt_of_le (hG b h) hb0.size)) (by omega); rw [hf] at this; exact this)
  clear HN
  go_wp2_with fail
  refine HW.out.mono ?_
  rintro e w1' ⟨rfl, rfl⟩
  have HR := Lib.hid (rnew_any n w1 hn2)
  clear HW
  go_wp2_with fail
  refine HR.out.mono ?_
  rintro e w2 ⟨x, rfl, hR2, hb2⟩
  obtain ⟨x1, x2, x3, rfl, hL0⟩ := Loop.start K hH1 hb1 hR2 hb2
  obtain ⟨B1, f1, B2, f2, B3', f3, e3⟩ := hR2.form
  simp only [Value.agg.injEq] at e3
  have e3' := congrArg Array.toList e3
  simp only [List.cons.injEq, and_true] at e3'
  obtain ⟨rfl, rfl, rfl⟩ := e3'
  have hL : Loop H w w2.heap.size (.pointer (some pa)) (newD n) _ := ⟨by
    obtain ⟨F, R, y1, y2, y3, g1, g2, g3, g4, g5⟩ := hL0.ex
    exact ⟨F, R, y1, y2, y3, g1, g2, g3, g4, fun b h => Nat.le_trans hb0.size (g5 b h)⟩, below_two hb0 hL0.bel, Nat.le_trans hb0.size hL0.hX⟩
  clear e3 hR2 HR hH1 hb1 hb2 hL0 hb0
  go_wp2_with fail
  generalize w2.heap.size = X at *
  go_loopw [8] (fun i wr => ∃ k : Nat, k ≤ l.length ∧ i = .int .i64 k ∧ Loop H w X (.pointer (some pa)) (steps (newD n) (l.take k)) wr) (fun i _ => l.length - (intOf i).toNat)
  case atStart =>
    simp only [List.length_replicate, List.length_nil] at hL
    exact ⟨0, Nat.zero_le _, rfl, hL⟩
  case round =>
    clear hL
    obtain ⟨k, hk, rfl, ⟨⟨F, R, x1, x2, x3, hB, hX3, nF, nR, hF⟩, hbl2, hX⟩⟩ := hrel
    by_cases hlt : k < l.length
    · obtain ⟨a, cap', c0, c1, c2, c3, e1, _, hga, d0, d1, d2, d3, hv, hok⟩ := deed_at (HD.out.below hbl2 hG) k hlt
      cases e1
      have HO : Hid (∀ wd, Below wr.heap.size wr wd → Calls Try.prog 13 #[.pointer (some pa), .agg #[x1, x2, x3], .agg #[c0, c1, c2, c3]] wd (Did H wd F R (.pointer (some pa)) (steps (newD n) (l.take (k + 1))))) := Lib.hid (fun wd hbd => by
        rw [steps_take _ _ _ hlt]
        refine do_any K (.pointer (some pa)) (.agg #[x1, x2, x3]) _ c0 c1 c2 c3 l[k] wd F R G ⟨K.below hB.real hbd, hB.ref.below hbd hB.rlt, fun b h => Nat.lt_of_lt_of_le (hB.rlt b h) hbd.size, hB.off⟩ (hv.keep fun p hp => hbd.cell (Nat.lt_of_lt_of_le (hG _ hp) hbl2.size)) hok (fun b h => Nat.lt_of_lt_of_le (hG b h) (Nat.le_trans hbl2.size hbd.size)) (fun b h g => by have := hG b h; have := hF b g; omega)
          (by have := steps_row (l.take k) (newD n); simp [newD] at this ⊢; omega) (by have := hbl l[k] (List.getElem_mem hlt); omega))
      obtain ⟨_, y0, y1, y2, _⟩ := id hX3
      obtain ⟨A1, e1, A2, e2, A3, e3, ee⟩ := hB.ref.form
      simp only [Value.agg.injEq] at ee
      have ee' := congrArg Array.toList ee
      simp only [List.cons.injEq, and_true] at ee'
      obtain ⟨rfl, rfl, rfl⟩ := ee'
      obtain ⟨rfl, rfl, hv2, hv3⟩ := hv
      obtain ⟨Ab, capb, rfl, hcb⟩ := Sg_form hv2
      obtain ⟨Ak, capk, rfl, hck⟩ := Sg_form hv3
      have hlt2 : k * 4 < 9223372036854775807 := by omega
      have hgl := hG _ hga
      have hab : (a.add (k * 4)).block = a.block := S.add_block a (k * 4)
      have nga : ¬ F a.block := fun g => by have := hF _ g; omega
      have hwz := hbl2.size
      have HC : Hid (∀ wd w3, Below wr.heap.size wr wd → Turn F wd w3 → ∀ j, w3.cell? ⟨(a.add (k * 4)).block, j, none⟩ = wr.cell? ⟨(a.add (k * 4)).block, j, none⟩) := Lib.hid (fun wd w3 hbd ht j => (ht.cell (p := ⟨(a.add (k * 4)).block, j, none⟩) (show (a.add (k * 4)).block < wd.heap.size by have := hbd.size; omega) (show ¬ F (a.add (k * 4)).block by rw [hab]; exact nga)).trans (hbd.cell (p := ⟨(a.add (k * 4)).block, j, none⟩) (show (a.add (k * 4)).block < wr.heap.size by omega)))
      have HC0 : Hid (∀ wd w3, Below wr.heap.size wr wd → Turn F wd w3 → w3.cell? (a.add (k * 4)) = wr.cell? (a.add (k * 4))) := Lib.hid (fun wd w3 hbd ht => (ht.cell (show (a.add (k * 4)).block < wd.heap.size by have := hbd.size; omega) (show ¬ F (a.add (k * 4)).block by rw [hab]; exact nga)).trans (hbd.cell (show (a.add (k * 4)).block < wr.heap.size by omega)))
      have HL := Lib.hid (fun w3 y F' R' => Loop.next K (w := w) (wr := wr.drew) (w2 := w3) (X := X) (v := .pointer (some pa)) (y := y) (d' := steps (newD n) (l.take (k + 1))) (F := F) (R := R) (F' := F') (R' := R') hX3.lt hX hbl2.drew hX3.drew nF nR hF)
      have hbz : Below wr.heap.size wr (wr.alloc (.cells #[nilV, nilV, nilV] 30)) := (Below.refl _ _).alloc (Nat.le_refl _) _
      have hbd1 := Lib.hid (Below.drew (Below.refl wr.heap.size wr))
      have hbd2 := Lib.hid hbz.drew
      have mF : ¬ F wr.heap.size := fun g => by have := K.lt hB.real _ g; omega
      have mR : ¬ R wr.heap.size := fun g => by have := hB.rlt _ g; omega
      have HL2 := Lib.hid (fun w3 y F' R' => Loop.next' K (w := w) (wr := (wr.alloc (.cells #[nilV, nilV, nilV] 30)).drew) (w2 := w3) (X := X) (Y := wr.heap.size) (v := .pointer (some pa)) (y := y) (d' := steps (newD n) (l.take (k + 1))) (F := F) (R := R) (F' := F') (R' := R') (hX3.alloc _).lt hX hX3.lt (below_two hbl2 hbz).drew (hX3.alloc _).drew (B3.new wr nilV nilV nilV 30 rfl).drew nF nR mF mR hF)
      have hxl := hX3.lt
      have nXY : wr.heap.size ≠ X := by omega
      have nAY : wr.heap.size ≠ (a.add (k * 4)).block := by omega
      clear hbz
      clear hab hv2 hv3 hB hX3 hok
      go_wp2_with fail
      generalize hm1 : (steps (newD n) (l.take k)).secs.length = m1 at *
      generalize hm2 : (steps (newD n) (l.take k)).row.length = m2 at *
      go_region_held3 (fun w' => w'.cell? ⟨X, 0, none⟩ = some (.slice A1 m1 e1) ∧ w'.cell? ⟨X, 1, none⟩ = some (.slice A2 m2 e2) ∧ w'.cell? ⟨X, 2, none⟩ = some (.slice A3 m2 e3) ∧ w'.cell? (a.add (k * 4)) = some (.int .i64 l[k].kind) ∧ w'.cell? ⟨(a.add (k * 4)).block, (a.add (k * 4)).off + 1, none⟩ = some (.int .i64 l[k].at_) ∧ w'.cell? ⟨(a.add (k * 4)).block, (a.add (k * 4)).off + 2, none⟩ = some (.slice Ab l[k].b.length capb) ∧ w'.cell? ⟨(a.add (k * 4)).block, (a.add (k * 4)).off + 3, none⟩ = some (.slice Ak l[k].keep.length capk))
        (first | assumption | go_keep)
        (first
          | (go_at_call 13
             (with_reducible refine (HO.out _ hbd1.out).mono ?_)
             rintro e w3 ⟨y, F', R', rfl, hB', hF', hR', ht⟩
             obtain ⟨C1, n1, g1, C2, n2, g2, C3, n3, g3, rfl, hX4, hb4, hLn⟩ := HL.out w3 y F' R' hB' hF' hR' ht
             have hA := And.intro hX4.c0 (And.intro hX4.c1 (And.intro hX4.c2 (And.intro ((HC0.out _ w3 hbd1.out ht).trans d0) (And.intro ((HC.out _ w3 hbd1.out ht _).trans d1) (And.intro ((HC.out _ w3 hbd1.out ht _).trans d2) ((HC.out _ w3 hbd1.out ht _).trans d3))))))
             have hXl := hX4.lt
             have hf0 := hX4.f0
             have hf1 := hX4.f1
             have hf2 := hX4.f2)
          | (go_at_call 13
             (with_reducible refine (HO.out _ hbd2.out).mono ?_)
             rintro e w3 ⟨y, F', R', rfl, hB', hF', hR', ht⟩
             obtain ⟨C1, n1, g1, C2, n2, g2, C3, n3, g3, rfl, hX4, hY4, hb4, hLn⟩ := HL2.out w3 y F' R' hB' hF' hR' ht
             have hA := And.intro hX4.c0 (And.intro hX4.c1 (And.intro hX4.c2 (And.intro ((HC0.out _ w3 hbd2.out ht).trans d0) (And.intro ((HC.out _ w3 hbd2.out ht _).trans d1) (And.intro ((HC.out _ w3 hbd2.out ht _).trans d2) ((HC.out _ w3 hbd2.out ht _).trans d3))))))
             have hXl := hX4.lt
             have hf0 := hX4.f0
             have hf1 := hX4.f1
             have hf2 := hX4.f2
             obtain ⟨hyl, ya, yb, yc, yf0, yf1, yf2⟩ := id hY4
             have hA' := And.intro (set3_other hA.1 nXY (.slice C1 n1 g1) (.slice C2 n2 g2) (.slice C3 n3 g3)) (And.intro (set3_other hA.2.1 nXY (.slice C1 n1 g1) (.slice C2 n2 g2) (.slice C3 n3 g3)) (And.intro (set3_other hA.2.2.1 nXY (.slice C1 n1 g1) (.slice C2 n2 g2) (.slice C3 n3 g3)) (And.intro (set3_other hA.2.2.2.1 nAY (.slice C1 n1 g1) (.slice C2 n2 g2) (.slice C3 n3 g3)) (And.intro (set3_other hA.2.2.2.2.1 nAY (.slice C1 n1 g1) (.slice C2 n2 g2) (.slice C3 n3 g3)) (And.intro (set3_other hA.2.2.2.2.2.1 nAY (.slice C1 n1 g1) (.slice C2 n2 g2) (.slice C3 n3 g3)) (set3_other hA.2.2.2.2.2.2 nAY (.slice C1 n1 g1) (.slice C2 n2 g2) (.slice C3 n3 g3)))))))))
      · go_wp2_with fail
        generalize (((w3.setCell ⟨X, 0, none⟩ (.slice C1 n1 g1)).setCell ⟨X, 1, none⟩ (.slice C2 n2 g2)).setCell ⟨X, 2, none⟩ (.slice C3 n3 g3)).alloc (.cells #[.slice C1 n1 g1, .slice C2 n2 g2, .slice C3 n3 g3] 30) = w4 at hLn
        have HLn := Lib.hid hLn
        obtain ⟨⟨F2, R2, z1, z2, z3, hB2, hx2, nF2, nR2, hF2⟩, hbl4, _⟩ := hLn
        obtain ⟨D1, h1, D2, h2, D3, h3, ee⟩ := hB2.ref.form
        simp only [Value.agg.injEq] at ee
        have ee' := congrArg Array.toList ee
        simp only [List.cons.injEq, and_true] at ee'
        obtain ⟨rfl, rfl, rfl⟩ := ee'
        have HP := Lib.hid (K.pending (K.keep hB2.real (w' := w4.drew) (fun _ _ => rfl) (Nat.le_refl _)))
        have hx2 := Lib.hid hx2
        have zc := hx2.out.c2
        clear hB2 ee d0 d1 d2 d3 y0 y1 y2 hA hX4 hb4 HL HL2 HO HC HC0 hbd1 hbd2
        generalize hmr : (steps (newD n) (l.take (k + 1))).row.length = mr at *
        generalize hms : (steps (newD n) (l.take (k + 1))).secs.length = ms at *
        go_region_held3 (fun w' => w'.cell? ⟨X, 2, none⟩ = some (.slice D3 mr h3))
          (first | assumption | go_keep)
          (first
            | (go_at_call 14
               refine HP.out.mono ?_
               rintro e w5 ⟨rfl, hb5⟩
               have hA := (hx2.out.drew.step hb5).c2
               have hL5 := HLn.out.below K (w2 := w5) ((Below.refl _ _).drew.trans hb5)))
        all_goals (try go_wp2)
        all_goals go_roundw
        case rel => exact ⟨k + 1, by omega, by go_num, hL5⟩
        case measure => simp [intOf]; omega
      · go_wp2_with fail
        generalize (((((w3.setCell ⟨wr.heap.size, 0, none⟩ (.slice C1 n1 g1)).setCell ⟨wr.heap.size, 1, none⟩ (.slice C2 n2 g2)).setCell ⟨wr.heap.size, 2, none⟩ (.slice C3 n3 g3)).setCell ⟨X, 0, none⟩ (.slice C1 n1 g1)).setCell ⟨X, 1, none⟩ (.slice C2 n2 g2)).setCell ⟨X, 2, none⟩ (.slice C3 n3 g3) = w4 at hLn
        have HLn := Lib.hid hLn
        obtain ⟨⟨F2, R2, z1, z2, z3, hB2, hx2, nF2, nR2, hF2⟩, hbl4, _⟩ := hLn
        obtain ⟨D1, h1, D2, h2, D3, h3, ee⟩ := hB2.ref.form
        simp only [Value.agg.injEq] at ee
        have ee' := congrArg Array.toList ee
        simp only [List.cons.injEq, and_true] at ee'
        obtain ⟨rfl, rfl, rfl⟩ := ee'
        have HP := Lib.hid (K.pending (K.keep hB2.real (w' := w4.drew) (fun _ _ => rfl) (Nat.le_refl _)))
        have hx2 := Lib.hid hx2
        have zc := hx2.out.c2
        clear hB2 ee d0 d1 d2 d3 y0 y1 y2 hA hX4 hb4 HL HL2 HO HC HC0 hbd1 hbd2
        generalize hmr : (steps (newD n) (l.take (k + 1))).row.length = mr at *
        generalize hms : (steps (newD n) (l.take (k + 1))).secs.length = ms at *
        go_region_held3 (fun w' => w'.cell? ⟨X, 2, none⟩ = some (.slice D3 mr h3))
          (first | assumption | go_keep)
          (first
            | (go_at_call 14
               refine HP.out.mono ?_
               rintro e w5 ⟨rfl, hb5⟩
               have hA := (hx2.out.drew.step hb5).c2
               have hL5 := HLn.out.below K (w2 := w5) ((Below.refl _ _).drew.trans hb5)))
        all_goals (try go_wp2)
        all_goals go_roundw
        case rel => exact ⟨k + 1, by omega, by go_num, hL5⟩
        case measure => simp [intOf]; omega
    · obtain rfl : k = l.length := by omega
      rw [List.take_length] at hB
      have hdl : (steps (newD n) l).secs.length = n := by rw [steps_len]; simp [newD]
      have hdr : (steps (newD n) l).row.length ≤ 60 := by have := steps_row l (newD n); simp [newD] at this ⊢; omega
      have hL2 : Loop H w X (.pointer (some pa)) (steps (newD n) l) wr := ⟨⟨F, R, x1, x2, x3, hB, hX3, nF, nR, hF⟩, hbl2, hX⟩
      generalize steps (newD n) l = d at *
      clear hB hX3 nF nR hF
      go_wp2_with fail
      go_loopw [11] (fun i wr => ∃ k : Nat, k ≤ n ∧ i = .int .i64 k ∧ Loop H w X (.pointer (some pa)) d wr) (fun i _ => n - (intOf i).toNat)
      case atStart => exact ⟨0, Nat.zero_le _, rfl, hL2⟩
      case round =>
        clear hL2 hbl2
        obtain ⟨k, hk, rfl, hL3⟩ := hrel
        have HL3 := Lib.hid hL3
        obtain ⟨⟨F, R, x1, x2, x3, hB, hX3, nF, nR, hF⟩, hbl2, hX⟩ := hL3
        by_cases hlt : k < n
        · have HR := Lib.hid (K.read_at k hB.real (by omega))
          go_wp2_with fail
          refine HR.out.mono ?_
          rintro e w3 ⟨a3, cap3, rfl, hcap3, hlen3, hs3, hb3⟩
          have HQ := Lib.hid (rread_any (.agg #[x1, x2, x3]) d (k : Int) w3 R (fun b h => Nat.lt_of_lt_of_le (hB.rlt b h) hb3.size) (hB.ref.below hb3 hB.rlt) (by omega) (by omega))
          rw [show rdV d (k : Int) = .tuple #[.string ⟨(d.read k).toArray⟩, .int .i64 0] by rw [rdV, if_pos ⟨by omega, by omega⟩, Int.toNat_natCast]] at HQ
          have hx3 := hX3.step hb3
          obtain ⟨_, q0, q1, q2, _⟩ := hx3
          have hL4 := Lib.hid (HL3.out.below K hb3)
          clear HR
          go_wp2_with fail
          refine HQ.out.mono ?_
          rintro e w4 ⟨rfl, hb4⟩
          have hcv := conv_sg (hs3.below hb4 (fun b h => h.2))
          rw [hlen3] at hcv
          have hL5 := hL4.out.below K hb4
          obtain ⟨rl, hrl⟩ : ∃ rl, rl = d.read k := ⟨_, rfl⟩
          rw [← hrl] at hcv ⊢
          clear HQ hs3 hrl hlen3 q0 q1 q2
          go_wp2_with fail
          go_roundw
          case rel => exact ⟨k + 1, by omega, by go_num, hL5⟩
          case measure => simp [intOf]; omega
        · obtain rfl : k = n := by omega
          have HN := Lib.hid (by have := K.len hB.real; rw [hdl] at this; exact this)
          go_wp2_with fail
          refine HN.out.mono ?_
          rintro e w3 ⟨rfl, hb3⟩
          have hbf := below_two hbl2 hb3
          go_wp2_with fail
          go_ret
          exact ⟨rfl, hbf⟩
end

end Go.Proofs.Ytbnoocjhlofnoaa
