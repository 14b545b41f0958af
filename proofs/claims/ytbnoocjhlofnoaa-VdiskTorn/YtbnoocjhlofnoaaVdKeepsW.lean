/-
  The law VdiskKeeps, walked: a crash that keeps all is a sync; one that keeps nothing undoes all that wasn't synced.
-/
import Derived.Test.YtbnoocjhlofnoaaVdCopiesW
namespace Go.Proofs.Ytbnoocjhlofnoaa
open Go.RowKit

theorem write_secs (d : D.Dk) (i : Int) (b : List UInt8) : (d.write i b).secs = d.secs := by unfold D.Dk.write; split <;> rfl
theorem crash_none (d : D.Dk) : d.crash [] = ⟨d.secs, []⟩ := by rw [D.Dk.crash, D.kept_nil]; rfl
theorem dk_eta {d : D.Dk} (h : d.row = []) : d = ⟨d.secs, []⟩ := by cases d; simp at h; rw [h]

section
variable {H : World → (Nat → Prop) → Value → D.Dk → Prop}

set_option maxRecDepth 100000 in
set_option maxHeartbeats 4000000 in
theorem keeps_yes (K : DiskOk H) (v v' : Value) (l more : List Deed) (w : World) (G : Nat → Prop) (hd : Deeds w G v l) (hd' : Deeds w G v' more) (hG : ∀ b, G b → b < w.heap.size) (hf : fewM l = true) (hf' : fewM more = true) :
    Calls Try.prog 6 #[v, v'] w fun e w' => e = .returned (.bool true) ∧ Below w.heap.size w w' := by
  have hmore := few_of hf'
  have HM := Lib.hid hmore.2
  have hm60 := hmore.1
  have hl60 := (few_of hf).1
  have HD := Lib.hid hd
  have HD' := Lib.hid hd'
  obtain ⟨A, cap, rfl, hc, _⟩ := hd
  obtain ⟨A', cap', rfl, hc', _⟩ := hd'
  clear hmore
  go_enter Try.func6, Try.ntmps6
  go_wp2_with fail
  refine (vawake_any K _).mono ?_
  rintro e w1 ⟨rfl, hb1⟩
  have HF1 := Lib.hid (by have := few_any (.slice A l.length cap) l w1 G (HD.out.below hb1 hG) (by omega); rw [hf] at this; exact this)
  have HF2 := Lib.hid (by have := few_any (.slice A' more.length cap') more w1 G (HD'.out.below hb1 hG) (by omega); rw [hf'] at this; exact this)
  go_wp2_with fail
  refine HF1.out.mono ?_
  rintro e w1' ⟨rfl, rfl⟩
  go_wp2_with fail
  refine HF2.out.mono ?_
  rintro e w1' ⟨rfl, rfl⟩
  have HR := Lib.hid (run_any K (.slice A l.length cap) l w1 G (HD.out.below hb1 hG) (fun b h => Nat.lt_of_lt_of_le (hG b h) hb1.size) hf)
  clear HF1 HF2
  go_wp2_with fail
  refine HR.out.mono ?_
  rintro e w2 ⟨p, F2, rfl, hH2, hF2, hb2⟩
  obtain ⟨pa, rfl⟩ := K.ptr hH2
  have hO2 : One H w (.pointer (some pa)) (steps (newD 8) l) F2 w2 := ⟨hH2, fun b g => Nat.le_trans hb1.size (hF2 b g), below_two hb1 hb2⟩
  have hdl : (steps (newD 8) l).sync.secs.length = 8 := by rw [D.sync_len, steps_len]; rfl
  have hdr : (steps (newD 8) l).sync.row = [] := rfl
  have HS := Lib.hid (K.sync hH2)
  clear HR hH2 hF2 hb2 hb1
  go_wp2_with fail
  refine HS.out.mono ?_
  rintro e w3 ⟨rfl, hH3, ht3⟩
  have hO3 := hO2.turn hH3 ht3
  generalize More F2 w2 w3 = F3 at *
  generalize (steps (newD 8) l).sync = d1 at *
  have HC := Lib.hid (K.copy hO3.real)
  clear HS hH3 ht3 hO2
  go_wp2_with fail
  refine HC.out.mono ?_
  rintro e w4 ⟨pw, rfl, hW4, hb4⟩
  obtain ⟨wa, rfl⟩ := K.ptr hW4
  have hO4 := hO3.below K hb4
  have hFW : ∀ b, S.New w3 w4 b → ¬ F3 b := fun b g f => by have := K.lt hO3.real b f; have := g.1; omega
  have hWn : ∀ b, S.New w3 w4 b → w.heap.size ≤ b := fun b g => Nat.le_trans hO3.bel.size g.1
  generalize S.New w3 w4 = FW at *
  clear HC hO3 hb4
  go_wp2_with fail
  go_loopw [8] (fun i wr => ∃ (k : Nat) (d : D.Dk) (F : Nat → Prop), k ≤ more.length ∧ i = .int .i64 k ∧ One H w (.pointer (some pa)) d F wr ∧ H wr FW (.pointer (some wa)) d1 ∧ (∀ b, FW b → ¬ F b) ∧ d.secs = d1.secs ∧ d.row.length ≤ k) (fun i _ => more.length - (intOf i).toNat)
  case atStart => exact ⟨0, d1, F3, Nat.zero_le _, rfl, hO4, hW4, hFW, rfl, by rw [hdr]; exact Nat.le_refl _⟩
  case round =>
    clear hO4 hW4 hFW
    obtain ⟨k, d, F, hk, rfl, hO, hW, hFF, hse, hrow⟩ := hrel
    by_cases hlt : k < more.length
    · obtain ⟨a, cap2, c0, c1, c2, c3, e1, _, hga, _, d1', d2', _, hv, hok⟩ := deed_at (HD'.out.below hO.bel hG) k hlt
      cases e1
      have hmb := HM.out more[k] (List.getElem_mem hlt)
      generalize more[k] = X at *
      obtain ⟨rfl, rfl, hv2, hv3⟩ := hv
      obtain ⟨Ab, capb, rfl, hcb⟩ := Sg_form hv2
      have hgl : (a.add (k * 4)).block < w.heap.size := by rw [S.add_block]; exact hG _ hga
      have hGr : ∀ b, G b → b < wr.heap.size := fun b h => Nat.lt_of_lt_of_le (hG b h) hO.bel.size
      have i2 : (0 : Int) ≤ (k : Int) := by omega
      have i3 : (k : Int) < (more.length : Int) := by omega
      have HW := Lib.hid (K.write G (.slice Ab X.b.length capb) X.b X.at_ (K.keep hO.real (w' := wr.drew) (fun _ _ => rfl) (Nat.le_refl _)) hv2 hGr (by omega) (by omega) hok.a0 hok.a1)
      have HT5 : Hid (∀ w5, H w5 (More F wr.drew w5) (.pointer (some pa)) (d.write X.at_ X.b) → Turn F wr.drew w5 → One H w (.pointer (some pa)) (d.write X.at_ X.b) (More F wr w5) w5 ∧ w5.cell? ⟨(a.add (k * 4)).block, (a.add (k * 4)).off + 1, none⟩ = some (.int .i64 X.at_) ∧ w5.cell? ⟨(a.add (k * 4)).block, (a.add (k * 4)).off + 2, none⟩ = some (.slice Ab X.b.length capb) ∧ H w5 FW (.pointer (some wa)) d1 ∧ (∀ b, FW b → ¬ More F wr w5 b)) := Lib.hid (fun w5 hH5 ht5 => by
        have ht5' : Turn F wr w5 := ⟨ht5.os, ht5.tape, ht5.output, ht5.size, ht5.block⟩
        refine ⟨hO.turn hH5 ht5', (ht5'.arg (p := ⟨(a.add (k * 4)).block, _, none⟩) hO.new hO.bel hgl).trans d1', (ht5'.arg (p := ⟨(a.add (k * 4)).block, _, none⟩) hO.new hO.bel hgl).trans d2', K.turn hW ht5' hFF, fun b g f => f.elim (hFF b g) (fun f => by have := K.lt hW b g; have := f.1; omega)⟩)
      clear hv3
      go_wp2_with fail
      go_region_held3 (fun w' => w'.cell? ⟨(a.add (k * 4)).block, (a.add (k * 4)).off + 1, none⟩ = some (.int .i64 X.at_) ∧ w'.cell? ⟨(a.add (k * 4)).block, (a.add (k * 4)).off + 2, none⟩ = some (.slice Ab X.b.length capb))
        (first | assumption | go_keep)
        (first
          | (go_at_call 19
             (with_reducible refine HW.out.mono ?_)
             rintro e w5 ⟨rfl, hH5, ht5⟩
             obtain ⟨hO5, hA1, hA2, hW5, hFF5⟩ := HT5.out w5 hH5 ht5
             have hA := And.intro hA1 hA2))
      all_goals (try go_wp2)
      all_goals go_roundw
      case rel => exact ⟨k + 1, d.write X.at_ X.b, More F wr w5, by omega, by go_num, hO5, hW5, hFF5, by rw [write_secs]; exact hse, by have := write_row d X.at_ X.b; omega⟩
      case measure => simp [intOf]; omega
    · have HC := Lib.hid (K.copy hO.real)
      go_wp2_with fail
      refine HC.out.mono ?_
      rintro e w5 ⟨pc, rfl, hC5, hb5⟩
      obtain ⟨ca, rfl⟩ := K.ptr hC5
      have hO5 := hO.below K hb5
      have hW5 := K.below hW hb5
      have HC2 := Lib.hid (K.copy hO5.real)
      go_wp2_with fail
      refine HC2.out.mono ?_
      rintro e w6 ⟨pn, rfl, hN6, hb6⟩
      obtain ⟨na, rfl⟩ := K.ptr hN6
      have hO6 := hO5.below K hb6
      have hW6 := K.below hW5 hb6
      have hC6 := K.below hC5 hb6
      have z5 := hb5.size
      have z6 := hb6.size
      have zw := hO.bel.size
      have hlO := K.lt hO.real
      have hlW := K.lt hW
      have hFC : ∀ b, S.New wr w5 b → ¬ F b := fun b g f => by have := hlO b f; have := g.1; omega
      have hFN : ∀ b, S.New w5 w6 b → ¬ F b := fun b g f => by have := hlO b f; have := g.1; omega
      have hCN : ∀ b, S.New w5 w6 b → ¬ S.New wr w5 b := fun b g f => by have := f.2; have := g.1; omega
      have hCW : ∀ b, FW b → ¬ S.New wr w5 b := fun b g f => by have := hlW b g; have := f.1; omega
      have hNW : ∀ b, FW b → ¬ S.New w5 w6 b := fun b g f => by have := hlW b g; have := f.1; omega
      have hCn : ∀ b, S.New wr w5 b → w.heap.size ≤ b := fun b g => by have := g.1; omega
      have hNn : ∀ b, S.New w5 w6 b → w.heap.size ≤ b := fun b g => by have := g.1; omega
      have hCl : ∀ b, S.New wr w5 b → b < w6.heap.size := fun b g => by have := g.2; omega
      have hNl : ∀ b, S.New w5 w6 b → b < w6.heap.size := fun b g => g.2
      have hOl : ∀ b, F b → b < w6.heap.size := fun b g => by have := hlO b g; omega
      have hWl : ∀ b, FW b → b < w6.heap.size := fun b g => by have := hlW b g; omega
      clear HC HC2 hO5 hW5 hC5 hO hW hb5 hb6 hlO hlW z5 z6 zw
      generalize S.New wr w5 = FC at *
      generalize S.New w5 w6 = FN at *
      go_wp2_with fail
      go_loopw [11, 12] (fun s i wq => ∃ j : Nat, j ≤ d.row.length ∧ i = .int .i64 j ∧ Below w6.heap.size w6 wq ∧ wq.ownsRow w6.heap.size 4 1 s (List.replicate j true).length (boolV (List.replicate j true))) (fun _ i _ => d.row.length - (intOf i).toNat)
      case atStart => exact ⟨0, Nat.zero_le _, rfl, Below.refl _ _, S.own_nil _ _ _ _⟩
      case round =>
        obtain ⟨j, hj, rfl, hbq, hown⟩ := hrel
        have hlj : (List.replicate j true).length ≤ 1000 := by simp; omega
        obtain ⟨L, hL⟩ : ∃ L, L = List.replicate j true := ⟨_, rfl⟩
        rw [← hL] at hown hlj
        have HL := Lib.hid hL
        clear hL
        obtain ⟨A4, cap4, rfl, hc4⟩ := Sg_form (S.Sg.of_own hown)
        have hOq : H wr F (.pointer (some pa)) d := K.keep hO6.real (fun b g => hbq.block b (hOl b g)) hbq.size
        have HP := Lib.hid (K.pending hOq)
        clear hOq
        go_wp2_with fail
        refine HP.out.mono ?_
        rintro e wp ⟨rfl, hbp⟩
        have hbp' := below_two hbq hbp
        have hownp := S.own_below hown hbp
        clear HP hbp hbq hown
        have hzp := hbp'.size
        by_cases hjl : j < d.row.length
        · go_wp2_with (at_builtin; refine S.wpList_append_sg elT rfl _ _ rfl (base := w6.heap.size) (xs := boolV L) (cs := boolV [true]) rfl rfl (hownp.alloc _) (S.Sg.one wp 4 (.bool true)) (boolV_one _) (by omega) (by omega) (by simp; omega) ?_)
          intro v9 w9 hown9 hgrow9 _
          have hbb9 := S.below_base (hownp.alloc (.cells #[.bool true] 4)) (by simp; omega) hgrow9
          have hb9 := (hbp'.alloc hbp'.size (.cells #[.bool true] 4)).trans hbb9
          have HO9 := Lib.hid (own_bool (b := [true]) hown9)
          clear hbb9 hgrow9 hown9 hownp hbp'
          go_wp2
          go_roundw
          case rel => exact ⟨j + 1, by omega, by go_num, hb9, by rw [List.replicate_succ', ← HL.out]; exact HO9.out⟩
          case measure => simp [intOf]; omega
        · obtain rfl : j = d.row.length := by omega
          have hS9 := S.Sg.of_own hownp
          have hOp := K.keep hO6.real (fun b g => hbp'.block b (hOl b g)) hbp'.size
          have hWp := K.keep hW6 (fun b g => hbp'.block b (hWl b g)) hbp'.size
          have hCp := K.keep hC6 (fun b g => hbp'.block b (hCl b g)) hbp'.size
          have hNp := K.keep hN6 (fun b g => hbp'.block b (hNl b g)) hbp'.size
          have hbw := hO6.bel.trans (hbp'.mono hO6.bel.size)
          have HS := Lib.hid (K.sync hOp)
          have hnew := hO6.new
          go_wp2_with fail
          refine HS.out.mono ?_
          rintro e wa1 ⟨rfl, hOa, hta⟩
          have hWa := K.turn hWp hta hFF
          have hCa := K.turn hCp hta hFC
          have hNa := K.turn hNp hta hFN
          have hba := hbw.trans (hta.below hbw.size hnew)
          have hza := hta.size
          have hSa : SlT wa1 (fun b => w6.heap.size ≤ b ∧ b < wp.heap.size) (.slice A4 L.length cap4) L := hS9.keep fun p hp => hta.cell hp.2 (fun g => by have := hOl _ g; have := hp.1; omega)
          have HC := Lib.hid (by have := K.crash (fun b => w6.heap.size ≤ b ∧ b < wp.heap.size) (.slice A4 L.length cap4) L hCa hSa (fun b h => by omega) (fun b h g => by have := hCl b g; omega); rw [show d.crash L = d.sync by rw [D.sync_crash, HL.out]] at this; exact this)
          clear HS hOp hWp hCp hNp hS9 hSa hownp
          go_wp2_with fail
          refine HC.out.mono ?_
          rintro e wb1 ⟨rfl, hCb, htb⟩
          have hWb := K.turn hWa htb hCW
          have hNb := K.turn hNa htb hCN
          have hOb := K.turn hOa htb (fun b g f => g.elim (fun g => hFC b f g) (fun g => by have := g.1; have := hCl b f; omega))
          have hbb := hba.trans (htb.below hba.size hCn)
          have hzb := htb.size
          have HN := Lib.hid (by have := K.crash (fun _ => False) (.slice none 0 0) [] hNb (S.Sg.nil ..) (fun _ h => h.elim) (fun _ h => h.elim); rw [crash_none, hse, ← dk_eta hdr] at this; exact this)
          clear HC hOa hWa hCa hNa
          go_wp2_with fail
          refine HN.out.mono ?_
          rintro e wc1 ⟨rfl, hNc, htc⟩
          have hWc := K.turn hWb htc hNW
          have hCc := K.turn hCb htc (fun b g f => g.elim (fun g => hCN b f g) (fun g => by have := g.1; have := hNl b f; omega))
          have hOc := K.turn hOb htc (fun b g f => g.elim (fun g => hFN b f g) (fun g => by have := g.1; have := hNl b f; omega))
          have hbc := hbb.trans (htc.below hbb.size hNn)
          have hds : d.sync.secs.length = 8 := by rw [D.sync_len, hse]; exact hdl
          clear HN hWb hNb hOb hCb
          generalize More F wp wa1 = G1 at *
          generalize More FC wa1 wb1 = G2 at *
          generalize More FN wb1 wc1 = G3 at *
          go_wp2_with fail
          go_loopw [13] (fun i wz => ∃ m : Nat, m ≤ 8 ∧ i = .int .i64 m ∧ H wz G1 (.pointer (some pa)) d.sync ∧ H wz G2 (.pointer (some ca)) d.sync ∧ H wz G3 (.pointer (some na)) d1 ∧ H wz FW (.pointer (some wa)) d1 ∧ Below w.heap.size w wz) (fun i _ => 8 - (intOf i).toNat)
          case atStart => exact ⟨0, Nat.zero_le _, rfl, hOc, hCc, hNc, hWc, hbc⟩
          case round =>
            obtain ⟨m, hm, rfl, hOz, hCz, hNz, hWz, hbz⟩ := hrel
            by_cases hm8 : m < 8
            · have R1 := Lib.hid (K.read_at m hOz (by omega))
              go_wp2_with fail
              refine R1.out.mono ?_
              rintro e y1 ⟨a1, cp1, rfl, hcp1, hlen1, hs1, hb1⟩
              have R2 := Lib.hid (K.read_at m (K.below hCz hb1) (by omega))
              go_wp2_with fail
              refine R2.out.mono ?_
              rintro e y2 ⟨a2, cp2, rfl, hcp2, _, hs2, hb2⟩
              have R3 := Lib.hid (K.read_at m (K.below (K.below hNz hb1) hb2) (by omega))
              go_wp2_with fail
              refine R3.out.mono ?_
              rintro e y3 ⟨a3, cp3, rfl, hcp3, hlen3, hs3, hb3⟩
              have R4 := Lib.hid (K.read_at m (K.below (K.below (K.below hWz hb1) hb2) hb3) (by omega))
              go_wp2_with fail
              refine R4.out.mono ?_
              rintro e y4 ⟨a4, cp4, rfl, hcp4, _, hs4, hb4⟩
              have v1 := conv_sg (((hs1.below hb2 (fun b h => h.2)).below hb3 (fun b h => Nat.lt_of_lt_of_le h.2 hb2.size)).below hb4 (fun b h => Nat.lt_of_lt_of_le h.2 (Nat.le_trans hb2.size hb3.size)))
              have v2 := conv_sg ((hs2.below hb3 (fun b h => h.2)).below hb4 (fun b h => Nat.lt_of_lt_of_le h.2 hb3.size))
              have v3 := conv_sg (hs3.below hb4 (fun b h => h.2))
              have v4 := conv_sg hs4
              rw [hlen1] at v1 v2
              rw [hlen3] at v3 v4
              have o4 := K.below (K.below (K.below (K.below hOz hb1) hb2) hb3) hb4
              have c4 := K.below (K.below (K.below (K.below hCz hb1) hb2) hb3) hb4
              have n4 := K.below (K.below (K.below (K.below hNz hb1) hb2) hb3) hb4
              have w4' := K.below (K.below (K.below (K.below hWz hb1) hb2) hb3) hb4
              have b4' := below_two (below_two (below_two (below_two hbz hb1) hb2) hb3) hb4
              clear R1 R2 R3 R4 hs1 hs2 hs3 hs4 hlen1 hlen3
              go_wp2_with fail
              go_roundw
              case rel => exact ⟨m + 1, by omega, by go_num, o4, c4, n4, w4', b4'⟩
              case measure => simp [intOf]; omega
            · go_wp2_with fail
              go_ret
              exact ⟨rfl, hbz⟩
end

end Go.Proofs.Ytbnoocjhlofnoaa
