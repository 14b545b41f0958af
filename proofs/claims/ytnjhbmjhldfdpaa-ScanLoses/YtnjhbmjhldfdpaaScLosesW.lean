/-
  Walks of layer scan's laws: ScanLoses.
-/
import Derived.Test.YtnjhbmjhldfdpaaScBackW
namespace Go.Proofs.Ytnjhbmjhldfdpaa
open Go.RowKit

section
variable {H : World → (Nat → Prop) → Value → D.Dk → Prop}

set_option maxRecDepth 100000 in
set_option maxHeartbeats 8000000 in
theorem ScanLoses_walk (K : DiskOk H) (KF : FrameOk) (v : Value) (l : List Dd) (w : World) (Gd : Nat → Prop) (hd : Dds w Gd v l) (hG : ∀ b, Gd b → b < w.heap.size) (hln : l.length ≤ 9223372036854775807) (vb : Value) (rec : List UInt8) (Gb : Nat → Prop) (hb : SlB w Gb vb rec) (hGb : ∀ b, Gb b → b < w.heap.size) :
    Calls Try.prog 6 #[v, vb] w fun e w' => e = .returned (.bool true) ∧ Below w.heap.size w w' := by
  have HD := Lib.hid hd
  obtain ⟨Ad, capd, rfl, hcd⟩ : ∃ A cap, v = .slice A l.length cap ∧ l.length ≤ cap := by
    obtain ⟨A, cap, e, hc, _⟩ := hd
    exact ⟨A, cap, e, hc⟩
  clear hd
  have HBr := Lib.hid hb
  obtain ⟨Ab, capb, rfl, hcb⟩ := Sg_form hb
  clear hb
  have HA := Lib.hid (awake7_any K KF w)
  go_enter Try.func6, Try.ntmps6
  go_wp2_with fail
  refine HA.out.mono ?_
  rintro e w1 ⟨rfl, hb1⟩
  have hs1 := hb1.size
  have HFw := Lib.hid (few6_any _ l w1 Gd (HD.out.below hb1 hG) hln)
  obtain ⟨fb, hfb⟩ : ∃ b, b = few6 l := ⟨_, rfl⟩
  rw [← hfb] at HFw
  have HFB := Lib.hid hfb
  clear HA hfb
  go_wp2_with fail
  refine HFw.out.mono ?_
  rintro e w1' ⟨rfl, rfl⟩
  clear HFw
  cases fb with
  | false =>
    go_wp2
    go_ret
    exact ⟨rfl, hb1⟩
  | true =>
    rcases Nat.lt_or_ge 400 rec.length with hrl | hrl
    · have hrl' : (400 : Int) < (rec.length : Int) := by omega
      go_wp2
      go_ret
      exact ⟨rfl, hb1⟩
    have hrl' : ¬ (400 : Int) < (rec.length : Int) := by omega
    have HRn := Lib.hid (run7_any K KF _ l w1 Gd (HD.out.below hb1 hG) (fun b g => by have := hG b g; omega) HFB.out.symm)
    go_wp2_with fail
    refine HRn.out.mono ?_
    rintro e w2 ⟨da, va, vs, ve, r, L, kept, syn, n, F, Fs, rfl, hn30, hpm, hmk⟩
    have hkn := hpm.len
    have hsk := hpm.kp.le
    obtain ⟨A1, c1, rfl, hc1⟩ := Sg_form hmk.ss
    obtain ⟨A2, c2, rfl, hc2⟩ := Sg_form hmk.es
    have hba : Below w2.heap.size w2 (w2.alloc (.cells #[.pointer (some da), .pointer (some va), .slice A1 kept.length c1, .slice A2 kept.length c2, .int .i64 (syn : Int)] 55)) := (Below.refl _ _).alloc (Nat.le_refl _) _
    have hza : (w2.alloc (.cells #[.pointer (some da), .pointer (some va), .slice A1 kept.length c1, .slice A2 kept.length c2, .int .i64 (syn : Int)] 55)).heap.size = w2.heap.size + 1 := by simp
    have hzaa := Nat.le_of_eq hza
    have hzab := Nat.le_of_eq hza.symm
    have B3 := Bk.new w2 [.pointer (some da), .pointer (some va), .slice A1 kept.length c1, .slice A2 kept.length c2, .int .i64 (syn : Int)] 55 rfl
    have HM := Lib.hid (hmk.below K hba)
    have hbw : Below w.heap.size w (w2.alloc (.cells #[.pointer (some da), .pointer (some va), .slice A1 kept.length c1, .slice A2 kept.length c2, .int .i64 (syn : Int)] 55)) := hb1.trans ((hmk.below K hba).low.mono hs1)
    have nX : ¬ F w2.heap.size ∧ ¬ Fs w2.heap.size := ⟨fun g => by have := hmk.rp.lt _ g; omega, fun g => by have := (hmk.hFs _ g).2.1; omega⟩
    have hXw : w1.heap.size ≤ w2.heap.size := hmk.low.size
    have HPM := Lib.hid hpm
    have hmay := hpm.kp.hist.may
    have htop := hmay.top
    have hln2 := hmay.ln
    clear HRn hmk hpm hza hba hmay
    have x0 := B3.cell 0 _ rfl
    have x1 := B3.cell 1 _ rfl
    go_wp2_with fail
    generalize w2.alloc (.cells #[.pointer (some da), .pointer (some va), .slice A1 kept.length c1, .slice A2 kept.length c2, .int .i64 (syn : Int)] 55) = w3 at *
    generalize w2.heap.size = X at *
    obtain ⟨LL, hLL⟩ : ∃ LL, LL = (kept.take kept.length).map Q.told := ⟨_, rfl⟩
    have hfa := (found_all HPM.out).2
    have hlost := HPM.out.kp.lost HPM.out.e32 rec []
    rw [HPM.out.e, ← all_of (r := r) (d := ((r.sync.append rec).d.crash [])) (e := 3) (from_ := r.low) HPM.out.f HPM.out.m] at hlost
    have hlost : Q.all ((r.sync.append rec).d.crash []) 2 8 3 r.low = LL := by rw [hLL, List.take_length]; exact hlost
    rw [← hLL] at hfa
    have hlen : LL.length = kept.length := by rw [hLL]; simp
    have HFA := Lib.hid (And.intro hlost hfa)
    have HLL := Lib.hid hLL
    have HLN := Lib.hid hlen
    have HSy := Lib.hid (ring_sync K HM.out.rp)
    have HB3 := Lib.hid B3
    clear hfa hLL hlen hlost B3 x1
    refine HSy.out.mono ?_
    rintro e ws ⟨rfl, hRs, hts⟩
    have HMs := Lib.hid (HM.out.turned hRs hts)
    have Bs := HB3.out.turn hts nX.1
    have HBs := Lib.hid Bs
    have hss := hts.size
    have y1 := Bs.cell 1 _ rfl
    have HLo := Lib.hid (show Calls Try.prog 19 #[.pointer (some va)] ws fun e w' => e = .returned (.int .u32 (r.low : Int)) ∧ Below ws.heap.size ws w' from ring_low (r := r.sync) HMs.out.rp)
    clear HSy hRs Bs x0
    go_wp2_with fail
    refine HLo.out.mono ?_
    rintro e wt ⟨rfl, hbt⟩
    have HMt := Lib.hid (HMs.out.below K hbt)
    have HBt := Lib.hid (HBs.out.step hbt)
    have y1 := HBt.out.cell 1 _ rfl
    have HNx := Lib.hid (show Calls Try.prog 21 #[.pointer (some va)] wt fun e w' => e = .returned (.int .u32 (r.next : Int)) ∧ Below wt.heap.size wt w' from ring_next (r := r.sync) HMt.out.rp)
    clear HLo
    go_wp2_with fail
    refine HNx.out.mono ?_
    rintro e wu ⟨rfl, hbu⟩
    have HMu := Lib.hid (HMt.out.below K hbu)
    have HBu := Lib.hid (HBt.out.step hbu)
    have y1 := HBu.out.cell 1 _ rfl
    have hbwu : Below w.heap.size w wu := hb1.trans (HMu.out.low.mono hs1)
    have hszu := hbwu.size
    have HAp := Lib.hid (ring_append K KF HMu.out.rp (HBr.out.below hbwu hGb) (fun b g => by have := hGb b g; omega) (by omega) (by show ([] : List (Nat × D.Sec)).length ≤ 900; simp))
    clear HNx
    go_wp2_with fail
    refine HAp.out.mono ?_
    rintro e wv ⟨rfl, hRv, htv⟩
    have HMv := Lib.hid (HMu.out.turned hRv htv)
    have nXu : ¬ (More F w3 ws) X := fun g => g.elim nX.1 (fun g => by have := g.1; have := HB3.out.lt; omega)
    have HBv := Lib.hid (HBu.out.turn htv nXu)
    have y0 := HBv.out.cell 0 _ rfl
    have nXv : ¬ (More (More F w3 ws) wu wv) X := fun g => g.elim nXu (fun g => by have := g.1; have := HBu.out.lt; omega)
    have HCr := Lib.hid (ring_crash K (vk := .slice none 0 0) (keep := []) (G' := fun _ => False) HMv.out.rp (S.Sg.nil _ _ _ _ _) (fun b g => g.elim) (fun b g => g.elim))
    clear HAp hRv
    go_wp2_with fail
    refine HCr.out.mono ?_
    rintro e wc ⟨rfl, hRc, htc⟩
    have HMc := Lib.hid (HMv.out.turned hRc htc)
    have HBc := Lib.hid (HBv.out.turn htc nXv)
    have hbwc : Below w.heap.size w wc := hb1.trans (HMc.out.low.mono hs1)
    have HR := Lib.hid HMc.out.rp
    clear HCr hRc htc htv hts y0 y1
    go_wp2_with fail
    have HK1 : Hid (∀ w', Below wc.heap.size wc w' → (w'.cell? ⟨X, 0, none⟩ = some (.pointer (some da)) ∧ w'.cell? ⟨X, 1, none⟩ = some (.pointer (some va)) ∧ Below wc.heap.size wc w')) := Lib.hid fun w' hb => ⟨(HBc.out.step hb).cell 0 _ rfl, (HBc.out.step hb).cell 1 _ rfl, hb⟩
    have HPl1 : Hid (∀ w', (w'.cell? ⟨X, 0, none⟩ = some (.pointer (some da)) ∧ w'.cell? ⟨X, 1, none⟩ = some (.pointer (some va)) ∧ Below wc.heap.size wc w') → Calls Try.prog 18 #[] w' fun e w'' => e = .returned (.agg #[.int .i64 2, .int .i64 8, .int .u32 3]) ∧ (w''.cell? ⟨X, 0, none⟩ = some (.pointer (some da)) ∧ w''.cell? ⟨X, 1, none⟩ = some (.pointer (some va)) ∧ Below wc.heap.size wc w'')) := Lib.hid fun w' hS => (place7_any w').mono (fun e w'' ⟨he, hb⟩ => ⟨he, HK1.out _ (hS.2.2.trans (hb.mono hS.2.2.size))⟩)
    have HRd1 : Hid (∀ w', (w'.cell? ⟨X, 0, none⟩ = some (.pointer (some da)) ∧ w'.cell? ⟨X, 1, none⟩ = some (.pointer (some va)) ∧ Below wc.heap.size wc w') → Calls Try.prog 14 #[.pointer (some da), .agg #[.int .i64 2, .int .i64 8, .int .u32 3], .int .u32 (r.low : Int)] w' fun e w'' => ∃ vk, e = .returned (.tuple #[vk, .int .u32 (r.next : Int)]) ∧ Recs w'' (fun b => wc.heap.size ≤ b ∧ b < w''.heap.size) vk LL ∧ (w''.cell? ⟨X, 0, none⟩ = some (.pointer (some da)) ∧ w''.cell? ⟨X, 1, none⟩ = some (.pointer (some va)) ∧ Below wc.heap.size wc w'')) := Lib.hid fun w' hS => (ring_scan K KF (HR.out.below K hS.2.2) 2 8 3 r.low (by decide) (by decide) (by decide) (by omega)).mono (fun e w'' ⟨vk, he, hrc, hb⟩ => by
      rw [HFA.out.1] at he hrc; rw [HFA.out.2] at he
      exact ⟨vk, he, hrc.wider (fun b g => ⟨Nat.le_trans hS.2.2.size g.1, g.2⟩), HK1.out _ (hS.2.2.trans (hb.mono hS.2.2.size))⟩)
    have hbd1 : Below wc.heap.size wc wc.drew := (Below.refl _ _).drew
    go_region_held3 (fun w' => (w'.cell? ⟨X, 0, none⟩ = some (.pointer (some da)) ∧ w'.cell? ⟨X, 1, none⟩ = some (.pointer (some va)) ∧ Below wc.heap.size wc w'))
      (first | with_reducible exact HK1.out _ hbd1 | with_reducible assumption)
      (first
        | (go_at_call 18
           with_reducible refine (HPl1.out _ (by assumption)).mono ?_
           rintro e4 w4 ⟨rfl, hS4⟩)
        | (go_at_call 14
           with_reducible refine (HRd1.out _ (by assumption)).mono ?_
           rintro e6 w6 ⟨vk, rfl, hrc6, hS6⟩))
    all_goals (
      have hb6 := hS6.2.2
      obtain ⟨A9, c9, e9, hc9⟩ := hrc6.form
      rw [HLN.out] at e9 hc9
      subst e9
      have B6 := HBc.out.step hb6
      have hs6 := hb6.size
      have HM6 := Lib.hid (HMc.out.below K hb6)
      have HBg := Lib.hid (begins7_any (Fl := fun b => wc.heap.size ≤ b ∧ b < w6.heap.size) (da := da) (va := va) (syn := syn) (j := kept.length) (by rw [← HLL.out]; exact hrc6) (fun b g => g.2) HM6.out.ss HM6.out.es (fun b g => (HM6.out.hFs b g).2.1) (Nat.le_refl _) (by omega))
      have b0 := B6.cell 0 _ rfl
      have b1 := B6.cell 1 _ rfl
      have b2 := B6.cell 2 _ rfl
      have b3 := B6.cell 3 _ rfl
      have b4 := B6.cell 4 _ rfl
      have HB6 := Lib.hid B6
      clear hS6 hrc6 HK1 HPl1 HRd1 hbd1 hS4 B6
      go_wp2_with fail
      refine HBg.out.mono ?_
      rintro e w7 ⟨rfl, hb7⟩
      have B7 := HB6.out.step hb7
      have d2 := B7.cell 2 _ rfl
      have hbz := hbwc.trans ((below_two hb6 hb7).mono hbwc.size)
      clear b0 b1 b2 b3 b4 HBg B7
      go_wp2
      go_ret
      exact ⟨rfl, hbz⟩)
end

end Go.Proofs.Ytnjhbmjhldfdpaa
