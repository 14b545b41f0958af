/-
  Walks of layer scan's laws: ScanBack.
-/
import Derived.Test.YtnjhbmjhldfdpaaScRun
import Derived.Test.YtnjhbmjhldfdpaaScBeg
namespace Go.Proofs.Ytnjhbmjhldfdpaa
open Go.RowKit

section
variable {H : World → (Nat → Prop) → Value → D.Dk → Prop}

theorem found_all {r : G.Rg} {L kept : List (Nat × List UInt8)} {syn n : Nat} (h : Pm r L kept syn n) : Q.all r.d 2 8 3 r.low = (kept.take kept.length).map Q.told ∧ Q.behind r.low ((kept.take kept.length).map Q.told) = r.next := by
  rw [List.take_length]
  refine ⟨?_, Q.behind_told h.kp.chn⟩
  have := h.kp.found h.e32 []
  rw [h.e] at this
  rw [all_of (r := r) h.f h.m]
  exact this

set_option maxRecDepth 100000 in
set_option maxHeartbeats 8000000 in
theorem ScanBack_walk (K : DiskOk H) (KF : FrameOk) (v : Value) (l : List Dd) (w : World) (Gd : Nat → Prop) (hd : Dds w Gd v l) (hG : ∀ b, Gd b → b < w.heap.size) (hln : l.length ≤ 9223372036854775807) :
    Calls Try.prog 4 #[v] w fun e w' => e = .returned (.bool true) ∧ Below w.heap.size w w' := by
  have HD := Lib.hid hd
  obtain ⟨Ad, capd, rfl, hcd⟩ : ∃ A cap, v = .slice A l.length cap ∧ l.length ≤ cap := by
    obtain ⟨A, cap, e, hc, _⟩ := hd
    exact ⟨A, cap, e, hc⟩
  clear hd
  have HA := Lib.hid (awake7_any K KF w)
  go_enter Try.func4, Try.ntmps4
  go_wp2_with fail
  refine HA.out.mono ?_
  rintro e w1 ⟨rfl, hb1⟩
  have hs1 := hb1.size
  have HFw := Lib.hid (few6_any _ l w1 Gd (HD.out.below hb1 hG) hln)
  obtain ⟨fb, hfb⟩ : ∃ b, b = few6 l := ⟨_, rfl⟩
  rw [← hfb] at HFw
  have HFB := Lib.hid hfb
  clear HA hfb
  go_wp2_with fail
  refine HFw.out.mono ?_
  rintro e w1' ⟨rfl, rfl⟩
  clear HFw
  cases fb with
  | false =>
    go_wp2
    go_ret
    exact ⟨rfl, hb1⟩
  | true =>
    have HRn := Lib.hid (run7_any K KF _ l w1 Gd (HD.out.below hb1 hG) (fun b g => by have := hG b g; omega) HFB.out.symm)
    go_wp2_with fail
    refine HRn.out.mono ?_
    rintro e w2 ⟨da, va, vs, ve, r, L, kept, syn, n, F, Fs, rfl, hn30, hpm, hmk⟩
    have hkn := hpm.len
    have hsk := hpm.kp.le
    obtain ⟨A1, c1, rfl, hc1⟩ := Sg_form hmk.ss
    obtain ⟨A2, c2, rfl, hc2⟩ := Sg_form hmk.es
    have hba : Below w2.heap.size w2 (w2.alloc (.cells #[.pointer (some da), .pointer (some va), .slice A1 kept.length c1, .slice A2 kept.length c2, .int .i64 (syn : Int)] 55)) := (Below.refl _ _).alloc (Nat.le_refl _) _
    have hza : (w2.alloc (.cells #[.pointer (some da), .pointer (some va), .slice A1 kept.length c1, .slice A2 kept.length c2, .int .i64 (syn : Int)] 55)).heap.size = w2.heap.size + 1 := by simp
    have hzaa := Nat.le_of_eq hza
    have hzab := Nat.le_of_eq hza.symm
    have B3 := Bk.new w2 [.pointer (some da), .pointer (some va), .slice A1 kept.length c1, .slice A2 kept.length c2, .int .i64 (syn : Int)] 55 rfl
    have HM := Lib.hid (hmk.below K hba)
    have hbw : Below w.heap.size w (w2.alloc (.cells #[.pointer (some da), .pointer (some va), .slice A1 kept.length c1, .slice A2 kept.length c2, .int .i64 (syn : Int)] 55)) := hb1.trans ((hmk.below K hba).low.mono hs1)
    have nX : ¬ F w2.heap.size ∧ ¬ Fs w2.heap.size := ⟨fun g => by have := hmk.rp.lt _ g; omega, fun g => by have := (hmk.hFs _ g).2.1; omega⟩
    have hXw : w1.heap.size ≤ w2.heap.size := hmk.low.size
    have HPM := Lib.hid hpm
    have hmay := hpm.kp.hist.may
    have htop := hmay.top
    have hln2 := hmay.ln
    clear HRn hmk hpm hza hba hmay
    have x0 := B3.cell 0 _ rfl
    have x1 := B3.cell 1 _ rfl
    go_wp2_with fail
    generalize w2.alloc (.cells #[.pointer (some da), .pointer (some va), .slice A1 kept.length c1, .slice A2 kept.length c2, .int .i64 (syn : Int)] 55) = w3 at *
    generalize w2.heap.size = X at *
    obtain ⟨LL, hLL⟩ : ∃ LL, LL = (kept.take kept.length).map Q.told := ⟨_, rfl⟩
    have hfa := found_all HPM.out
    rw [← hLL] at hfa
    have hlen : LL.length = kept.length := by rw [hLL]; simp
    have HFA := Lib.hid hfa
    have HLL := Lib.hid hLL
    have HLN := Lib.hid hlen
    have HR := Lib.hid HM.out.rp
    have HB3 := Lib.hid B3
    clear hfa hLL hlen B3 x0 x1
    have HK1 : Hid (∀ w', Below w3.heap.size w3 w' → (w'.cell? ⟨X, 0, none⟩ = some (.pointer (some da)) ∧ w'.cell? ⟨X, 1, none⟩ = some (.pointer (some va)) ∧ Below w3.heap.size w3 w')) := Lib.hid fun w' hb => ⟨(HB3.out.step hb).cell 0 _ rfl, (HB3.out.step hb).cell 1 _ rfl, hb⟩
    have HPl1 : Hid (∀ w', (w'.cell? ⟨X, 0, none⟩ = some (.pointer (some da)) ∧ w'.cell? ⟨X, 1, none⟩ = some (.pointer (some va)) ∧ Below w3.heap.size w3 w') → Calls Try.prog 18 #[] w' fun e w'' => e = .returned (.agg #[.int .i64 2, .int .i64 8, .int .u32 3]) ∧ (w''.cell? ⟨X, 0, none⟩ = some (.pointer (some da)) ∧ w''.cell? ⟨X, 1, none⟩ = some (.pointer (some va)) ∧ Below w3.heap.size w3 w'')) := Lib.hid fun w' hS => (place7_any w').mono (fun e w'' ⟨he, hb⟩ => ⟨he, HK1.out _ (hS.2.2.trans (hb.mono hS.2.2.size))⟩)
    have HLw1 : Hid (∀ w', (w'.cell? ⟨X, 0, none⟩ = some (.pointer (some da)) ∧ w'.cell? ⟨X, 1, none⟩ = some (.pointer (some va)) ∧ Below w3.heap.size w3 w') → Calls Try.prog 19 #[.pointer (some va)] w' fun e w'' => e = .returned (.int .u32 (r.low : Int)) ∧ (w''.cell? ⟨X, 0, none⟩ = some (.pointer (some da)) ∧ w''.cell? ⟨X, 1, none⟩ = some (.pointer (some va)) ∧ Below w3.heap.size w3 w'')) := Lib.hid fun w' hS => (ring_low (HR.out.below K hS.2.2)).mono (fun e w'' ⟨he, hb⟩ => ⟨he, HK1.out _ (hS.2.2.trans (hb.mono hS.2.2.size))⟩)
    have HRd1 : Hid (∀ w', (w'.cell? ⟨X, 0, none⟩ = some (.pointer (some da)) ∧ w'.cell? ⟨X, 1, none⟩ = some (.pointer (some va)) ∧ Below w3.heap.size w3 w') → Calls Try.prog 14 #[.pointer (some da), .agg #[.int .i64 2, .int .i64 8, .int .u32 3], .int .u32 (r.low : Int)] w' fun e w'' => ∃ vk, e = .returned (.tuple #[vk, .int .u32 (r.next : Int)]) ∧ Recs w'' (fun b => w3.heap.size ≤ b ∧ b < w''.heap.size) vk LL ∧ (w''.cell? ⟨X, 0, none⟩ = some (.pointer (some da)) ∧ w''.cell? ⟨X, 1, none⟩ = some (.pointer (some va)) ∧ Below w3.heap.size w3 w'')) := Lib.hid fun w' hS => (ring_scan K KF (HR.out.below K hS.2.2) 2 8 3 r.low (by decide) (by decide) (by decide) (by omega)).mono (fun e w'' ⟨vk, he, hrc, hb⟩ => by
      rw [HFA.out.1] at he hrc; rw [HFA.out.2] at he
      exact ⟨vk, he, hrc.wider (fun b g => ⟨Nat.le_trans hS.2.2.size g.1, g.2⟩), HK1.out _ (hS.2.2.trans (hb.mono hS.2.2.size))⟩)
    have hbd1 : Below w3.heap.size w3 w3.drew := (Below.refl _ _).drew
    go_region_held3 (fun w' => (w'.cell? ⟨X, 0, none⟩ = some (.pointer (some da)) ∧ w'.cell? ⟨X, 1, none⟩ = some (.pointer (some va)) ∧ Below w3.heap.size w3 w'))
      (first | with_reducible exact HK1.out _ hbd1 | with_reducible assumption)
      (first
        | (go_at_call 18
           with_reducible refine (HPl1.out _ (by assumption)).mono ?_
           rintro e4 w4 ⟨rfl, hS4⟩)
        | (go_at_call 19
           with_reducible refine (HLw1.out _ (by assumption)).mono ?_
           rintro e5 w5 ⟨rfl, hS5⟩)
        | (go_at_call 14
           with_reducible refine (HRd1.out _ (by assumption)).mono ?_
           rintro e6 w6 ⟨vk, rfl, hrc6, hS6⟩))
    all_goals (
      have hb6 := hS6.2.2
      obtain ⟨A9, c9, e9, hc9⟩ := hrc6.form
      rw [HLN.out] at e9 hc9
      subst e9
      have B6 := HB3.out.step hb6
      have hs6 := hb6.size
      have HM6 := Lib.hid (HM.out.below K hb6)
      have HBg := Lib.hid (begins7_any (Fl := fun b => w3.heap.size ≤ b ∧ b < w6.heap.size) (da := da) (va := va) (syn := syn) (j := kept.length) (by rw [← HLL.out]; exact hrc6) (fun b g => g.2) HM6.out.ss HM6.out.es (fun b g => (HM6.out.hFs b g).2.1) (Nat.le_refl _) (by omega))
      have b0 := B6.cell 0 _ rfl
      have b1 := B6.cell 1 _ rfl
      have b2 := B6.cell 2 _ rfl
      have b3 := B6.cell 3 _ rfl
      have b4 := B6.cell 4 _ rfl
      have HB6 := Lib.hid B6
      clear hS6 hrc6 HK1 HPl1 HLw1 HRd1 hbd1 hS4 hS5 B6
      go_wp2_with fail
      refine HBg.out.mono ?_
      rintro e w7 ⟨rfl, hb7⟩
      have B7 := HB6.out.step hb7
      have d1 := B7.cell 1 _ rfl
      have d2 := B7.cell 2 _ rfl
      have HNx := Lib.hid (ring_next (HM6.out.rp.below K hb7))
      clear b0 b1 b2 b3 b4 HBg B7
      go_wp2_with fail
      refine HNx.out.mono ?_
      rintro e w8 ⟨rfl, hb8⟩
      clear d1 d2 HNx
      have hbz := hbw.trans ((below_two (below_two hb6 hb7) hb8).mono hbw.size)
      go_wp2
      go_ret
      exact ⟨rfl, hbz⟩)
end

end Go.Proofs.Ytnjhbmjhldfdpaa
