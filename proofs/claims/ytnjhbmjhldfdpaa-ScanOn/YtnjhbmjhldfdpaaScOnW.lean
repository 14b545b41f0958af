/-
  Walks of layer scan's laws: ScanOn.
-/
import Derived.Test.YtnjhbmjhldfdpaaScBackW
namespace Go.Proofs.Ytnjhbmjhldfdpaa
open Go.RowKit

section
variable {H : World → (Nat → Prop) → Value → D.Dk → Prop}

set_option maxRecDepth 100000 in
set_option maxHeartbeats 8000000 in
theorem ScanOn_walk (K : DiskOk H) (KF : FrameOk) (v : Value) (l : List Dd) (w : World) (Gd : Nat → Prop) (hd : Dds w Gd v l) (hG : ∀ b, Gd b → b < w.heap.size) (hln : l.length ≤ 9223372036854775807) (at_ : Nat) (hat : at_ < 256) :
    Calls Try.prog 7 #[v, .int .u8 (at_ : Int)] w fun e w' => e = .returned (.bool true) ∧ Below w.heap.size w w' := by
  have HD := Lib.hid hd
  obtain ⟨Ad, capd, rfl, hcd⟩ : ∃ A cap, v = .slice A l.length cap ∧ l.length ≤ cap := by
    obtain ⟨A, cap, e, hc, _⟩ := hd
    exact ⟨A, cap, e, hc⟩
  clear hd
  have HA := Lib.hid (awake7_any K KF w)
  go_enter Try.func7, Try.ntmps7
  go_wp2_with fail
  refine HA.out.mono ?_
  rintro e w1 ⟨rfl, hb1⟩
  have hs1 := hb1.size
  have HFw := Lib.hid (few6_any _ l w1 Gd (HD.out.below hb1 hG) hln)
  obtain ⟨fb, hfb⟩ : ∃ b, b = few6 l := ⟨_, rfl⟩
  rw [← hfb] at HFw
  have HFB := Lib.hid hfb
  clear HA hfb
  go_wp2_with fail
  refine HFw.out.mono ?_
  rintro e w1' ⟨rfl, rfl⟩
  clear HFw
  cases fb with
  | false =>
    go_wp2
    go_ret
    exact ⟨rfl, hb1⟩
  | true =>
    have HRn := Lib.hid (run7_any K KF _ l w1 Gd (HD.out.below hb1 hG) (fun b g => by have := hG b g; omega) HFB.out.symm)
    go_wp2_with fail
    refine HRn.out.mono ?_
    rintro e w2 ⟨da, va, vs, ve, r, L, kept, syn, n, F, Fs, rfl, hn30, hpm, hmk⟩
    have hkn := hpm.len
    have hsk := hpm.kp.le
    obtain ⟨A1, c1, rfl, hc1⟩ := Sg_form hmk.ss
    obtain ⟨A2, c2, rfl, hc2⟩ := Sg_form hmk.es
    have hba : Below w2.heap.size w2 (w2.alloc (.cells #[.pointer (some da), .pointer (some va), .slice A1 kept.length c1, .slice A2 kept.length c2, .int .i64 (syn : Int)] 55)) := (Below.refl _ _).alloc (Nat.le_refl _) _
    have hza : (w2.alloc (.cells #[.pointer (some da), .pointer (some va), .slice A1 kept.length c1, .slice A2 kept.length c2, .int .i64 (syn : Int)] 55)).heap.size = w2.heap.size + 1 := by simp
    have hzaa := Nat.le_of_eq hza
    have hzab := Nat.le_of_eq hza.symm
    have B3 := Bk.new w2 [.pointer (some da), .pointer (some va), .slice A1 kept.length c1, .slice A2 kept.length c2, .int .i64 (syn : Int)] 55 rfl
    have HM := Lib.hid (hmk.below K hba)
    have hbw : Below w.heap.size w (w2.alloc (.cells #[.pointer (some da), .pointer (some va), .slice A1 kept.length c1, .slice A2 kept.length c2, .int .i64 (syn : Int)] 55)) := hb1.trans ((hmk.below K hba).low.mono hs1)
    have nX : ¬ F w2.heap.size ∧ ¬ Fs w2.heap.size := ⟨fun g => by have := hmk.rp.lt _ g; omega, fun g => by have := (hmk.hFs _ g).2.1; omega⟩
    have hXw : w1.heap.size ≤ w2.heap.size := hmk.low.size
    have HPM := Lib.hid hpm
    have hmay := hpm.kp.hist.may
    have htop := hmay.top
    have hln2 := hmay.ln
    clear HRn hmk hpm hza hba hmay
    have x0 := B3.cell 0 _ rfl
    have x1 := B3.cell 1 _ rfl
    go_wp2_with fail
    generalize w2.alloc (.cells #[.pointer (some da), .pointer (some va), .slice A1 kept.length c1, .slice A2 kept.length c2, .int .i64 (syn : Int)] 55) = w3 at *
    generalize w2.heap.size = X at *
    have HPl := Lib.hid (place7_any w3)
    refine HPl.out.mono ?_
    rintro e wp ⟨rfl, hbp⟩
    have hbq : Below wp.heap.size wp (wp.alloc (.cells #[.int .i64 2, .int .i64 8, .int .u32 4] 25)) := (Below.refl _ _).alloc (Nat.le_refl _) _
    have Pq := Bk.new wp [.int .i64 2, .int .i64 8, .int .u32 4] 25 rfl
    have HMq := Lib.hid ((HM.out.below K hbp).below K hbq)
    have Bq := (B3.step hbp).step hbq
    have hbwq : Below w.heap.size w (wp.alloc (.cells #[.int .i64 2, .int .i64 8, .int .u32 4] 25)) := hb1.trans (HMq.out.low.mono hs1)
    have hXp : X < wp.heap.size := Nat.lt_of_lt_of_le B3.lt hbp.size
    clear HPl B3 x0 x1
    go_wp2_with fail
    generalize (wp.alloc (.cells #[.int .i64 2, .int .i64 8, .int .u32 4] 25)) = wq at *
    generalize wp.heap.size = P at *
    have HPq := Lib.hid Pq
    have HBq := Lib.hid Bq
    have hnone : Q.all r.d 2 8 4 r.low = [] := by
      rw [all_of (r := r) HPM.out.f HPM.out.m]
      exact Q.other (by rw [HPM.out.e]; decide) HPM.out.pure _ _ _
    have HNo := Lib.hid hnone
    have HK1 : Hid (∀ w', Below wq.heap.size wq w' → (w'.cell? ⟨X, 0, none⟩ = some (.pointer (some da)) ∧ w'.cell? ⟨X, 1, none⟩ = some (.pointer (some va)) ∧ w'.cell? ⟨P, 0, none⟩ = some (.int .i64 2) ∧ w'.cell? ⟨P, 1, none⟩ = some (.int .i64 8) ∧ w'.cell? ⟨P, 2, none⟩ = some (.int .u32 4) ∧ Below wq.heap.size wq w')) := Lib.hid fun w' hb => ⟨(HBq.out.step hb).cell 0 _ rfl, (HBq.out.step hb).cell 1 _ rfl, (HPq.out.step hb).cell 0 _ rfl, (HPq.out.step hb).cell 1 _ rfl, (HPq.out.step hb).cell 2 _ rfl, hb⟩
    have HLw1 : Hid (∀ w', (w'.cell? ⟨X, 0, none⟩ = some (.pointer (some da)) ∧ w'.cell? ⟨X, 1, none⟩ = some (.pointer (some va)) ∧ w'.cell? ⟨P, 0, none⟩ = some (.int .i64 2) ∧ w'.cell? ⟨P, 1, none⟩ = some (.int .i64 8) ∧ w'.cell? ⟨P, 2, none⟩ = some (.int .u32 4) ∧ Below wq.heap.size wq w') → Calls Try.prog 19 #[.pointer (some va)] w' fun e w'' => e = .returned (.int .u32 (r.low : Int)) ∧ (w''.cell? ⟨X, 0, none⟩ = some (.pointer (some da)) ∧ w''.cell? ⟨X, 1, none⟩ = some (.pointer (some va)) ∧ w''.cell? ⟨P, 0, none⟩ = some (.int .i64 2) ∧ w''.cell? ⟨P, 1, none⟩ = some (.int .i64 8) ∧ w''.cell? ⟨P, 2, none⟩ = some (.int .u32 4) ∧ Below wq.heap.size wq w'')) := Lib.hid fun w' hS => (ring_low (HMq.out.rp.below K hS.2.2.2.2.2)).mono (fun e w'' ⟨he, hb⟩ => ⟨he, HK1.out _ (hS.2.2.2.2.2.trans (hb.mono hS.2.2.2.2.2.size))⟩)
    have HRd1 : Hid (∀ w', (w'.cell? ⟨X, 0, none⟩ = some (.pointer (some da)) ∧ w'.cell? ⟨X, 1, none⟩ = some (.pointer (some va)) ∧ w'.cell? ⟨P, 0, none⟩ = some (.int .i64 2) ∧ w'.cell? ⟨P, 1, none⟩ = some (.int .i64 8) ∧ w'.cell? ⟨P, 2, none⟩ = some (.int .u32 4) ∧ Below wq.heap.size wq w') → Calls Try.prog 14 #[.pointer (some da), .agg #[.int .i64 2, .int .i64 8, .int .u32 4], .int .u32 (r.low : Int)] w' fun e w'' => ∃ A c, e = .returned (.tuple #[.slice A 0 c, .int .u32 (r.low : Int)]) ∧ (w''.cell? ⟨X, 0, none⟩ = some (.pointer (some da)) ∧ w''.cell? ⟨X, 1, none⟩ = some (.pointer (some va)) ∧ w''.cell? ⟨P, 0, none⟩ = some (.int .i64 2) ∧ w''.cell? ⟨P, 1, none⟩ = some (.int .i64 8) ∧ w''.cell? ⟨P, 2, none⟩ = some (.int .u32 4) ∧ Below wq.heap.size wq w'')) := Lib.hid fun w' hS => (ring_scan K KF (HMq.out.rp.below K hS.2.2.2.2.2) 2 8 4 r.low (by decide) (by decide) (by decide) (by omega)).mono (fun e w'' ⟨vk, he, hrc, hb⟩ => by
      rw [HNo.out] at he hrc
      obtain ⟨A, c, rfl, _⟩ := hrc.form
      exact ⟨A, c, he, HK1.out _ (hS.2.2.2.2.2.trans (hb.mono hS.2.2.2.2.2.size))⟩)
    have hbd1 : Below wq.heap.size wq wq.drew := (Below.refl _ _).drew
    clear Pq Bq hnone
    go_region_held3 (fun w' => (w'.cell? ⟨X, 0, none⟩ = some (.pointer (some da)) ∧ w'.cell? ⟨X, 1, none⟩ = some (.pointer (some va)) ∧ w'.cell? ⟨P, 0, none⟩ = some (.int .i64 2) ∧ w'.cell? ⟨P, 1, none⟩ = some (.int .i64 8) ∧ w'.cell? ⟨P, 2, none⟩ = some (.int .u32 4) ∧ Below wq.heap.size wq w'))
      (first | with_reducible exact HK1.out _ hbd1 | with_reducible assumption)
      (first
        | (go_at_call 19
           with_reducible refine (HLw1.out _ (by assumption)).mono ?_
           rintro e5 w5 ⟨rfl, hS5⟩)
        | (go_at_call 14
           with_reducible refine (HRd1.out _ (by assumption)).mono ?_
           rintro e6 w6 ⟨A6, c6, rfl, hS6⟩))
    have hb6 := hS6.2.2.2.2.2
    have HM6 := Lib.hid (HMq.out.below K hb6)
    have HB6 := Lib.hid (HBq.out.step hb6)
    have b1 := HB6.out.cell 1 _ rfl
    have HLo := Lib.hid (ring_low HM6.out.rp)
    clear hS6 hS5 HK1 HLw1 HRd1 hbd1
    go_wp2_with fail
    refine HLo.out.mono ?_
    rintro e wx ⟨rfl, hbx⟩
    have HMx := Lib.hid (HM6.out.below K hbx)
    have HBx := Lib.hid (HB6.out.step hbx)
    have hbwx : Below w.heap.size w wx := hb1.trans (HMx.out.low.mono hs1)
    have b2 := HBx.out.cell 2 _ rfl
    have hXx : X < wx.heap.size := HBx.out.lt
    clear HLo b1
    by_cases hk0 : kept.length = 0
    · have hk0' : ((kept.length : Int) == 0) = true := by simp; exact List.length_eq_zero_iff.1 hk0
      clear hk0
      go_wp2
      go_ret
      exact ⟨rfl, hbwx⟩
    · have hk0' : ((kept.length : Int) == 0) = false := by
        rw [Bool.eq_false_iff]; intro h; exact hk0 (by simpa using h)
      have hkp : 0 < kept.length := by omega
      obtain ⟨i, hi⟩ : ∃ i, i = at_ % kept.length := ⟨_, rfl⟩
      have hil : i < kept.length := by rw [hi]; exact Nat.mod_lt _ hkp
      have hi' : (at_ : Int) % (kept.length : Int) = (i : Int) := by omega
      have hne : ¬ (kept.length : Int) = 0 := by omega
      have hil' : (i : Int) < (kept.length : Int) := by omega
      have hi0 : (0 : Int) ≤ (i : Int) := by omega
      obtain ⟨k, hkk⟩ : ∃ k, k = i + 1 := ⟨_, rfl⟩
      have hk : k ≤ kept.length := by omega
      have hki : (i : Int) + 1 = (k : Int) := by omega
      obtain ⟨a1, cap1, e1, _⟩ := Sg_at HMx.out.ss 0 hkp
      cases e1
      obtain ⟨a2, cap2, e2, _, hg2, hx2⟩ := Sg_at HMx.out.es i hil
      cases e2
      rw [endV_at kept i hil] at hx2
      obtain ⟨ei, hei⟩ : ∃ ei, ei = kept[i].1 + R.many kept[i].2.length := ⟨_, rfl⟩
      have hei32 : ei < 4294967296 := by rw [hei]; exact HPM.out.ends _ (List.getElem_mem _)
      rw [← hei] at hx2
      obtain ⟨kd, hkd⟩ : ∃ kd, kd = kept.drop k := ⟨_, rfl⟩
      obtain ⟨LL, hLL⟩ : ∃ LL, LL = (kd.take kd.length).map Q.told := ⟨_, rfl⟩
      have hfo : Q.all r.d 2 8 3 ei = LL := by
        have := HPM.out.kp.found_on HPM.out.e32 [] i hil
        rw [HPM.out.e] at this
        rw [all_of (r := r) HPM.out.f HPM.out.m, hLL, List.take_length, hkd, hkk, hei]
        exact this
      have hlen : LL.length = kept.length - k := by rw [hLL]; simp [hkd]
      have HFO := Lib.hid hfo
      have HLL := Lib.hid hLL
      have HLN := Lib.hid hlen
      have HKd := Lib.hid (show kd.length ≤ kept.length by rw [hkd]; simp)
      have HDk := Lib.hid hkd
      have na2 := (HMx.out.hFs _ hg2).2.1
      clear hk0 hi hei hfo hLL hlen hkd hkk
      have HK2 : Hid (∀ w', Below wx.heap.size wx w' → (w'.cell? ⟨X, 0, none⟩ = some (.pointer (some da)) ∧ w'.cell? ⟨X, 3, none⟩ = some (.slice (some a2) kept.length c2) ∧ w'.cell? (a2.add i) = some (.int .u32 (ei : Int)) ∧ Below wx.heap.size wx w')) := Lib.hid fun w' hb => ⟨(HBx.out.step hb).cell 0 _ rfl, (HBx.out.step hb).cell 3 _ rfl, (hb.cell (by rw [S.add_block]; exact na2)).trans hx2, hb⟩
      have HPl2 : Hid (∀ w', (w'.cell? ⟨X, 0, none⟩ = some (.pointer (some da)) ∧ w'.cell? ⟨X, 3, none⟩ = some (.slice (some a2) kept.length c2) ∧ w'.cell? (a2.add i) = some (.int .u32 (ei : Int)) ∧ Below wx.heap.size wx w') → Calls Try.prog 18 #[] w' fun e w'' => e = .returned (.agg #[.int .i64 2, .int .i64 8, .int .u32 3]) ∧ (w''.cell? ⟨X, 0, none⟩ = some (.pointer (some da)) ∧ w''.cell? ⟨X, 3, none⟩ = some (.slice (some a2) kept.length c2) ∧ w''.cell? (a2.add i) = some (.int .u32 (ei : Int)) ∧ Below wx.heap.size wx w'')) := Lib.hid fun w' hS => (place7_any w').mono (fun e w'' ⟨he, hb⟩ => ⟨he, HK2.out _ (hS.2.2.2.trans (hb.mono hS.2.2.2.size))⟩)
      have HRd2 : Hid (∀ w', (w'.cell? ⟨X, 0, none⟩ = some (.pointer (some da)) ∧ w'.cell? ⟨X, 3, none⟩ = some (.slice (some a2) kept.length c2) ∧ w'.cell? (a2.add i) = some (.int .u32 (ei : Int)) ∧ Below wx.heap.size wx w') → Calls Try.prog 14 #[.pointer (some da), .agg #[.int .i64 2, .int .i64 8, .int .u32 3], .int .u32 (ei : Int)] w' fun e w'' => ∃ vk N, e = .returned (.tuple #[vk, .int .u32 ((N : Nat) : Int)]) ∧ Recs w'' (fun b => wx.heap.size ≤ b ∧ b < w''.heap.size) vk LL ∧ (w''.cell? ⟨X, 0, none⟩ = some (.pointer (some da)) ∧ w''.cell? ⟨X, 3, none⟩ = some (.slice (some a2) kept.length c2) ∧ w''.cell? (a2.add i) = some (.int .u32 (ei : Int)) ∧ Below wx.heap.size wx w'')) := Lib.hid fun w' hS => (ring_scan K KF (HMx.out.rp.below K hS.2.2.2) 2 8 3 ei (by decide) (by decide) (by decide) hei32).mono (fun e w'' ⟨vk, he, hrc, hb⟩ => by
        rw [HFO.out] at he hrc
        exact ⟨vk, _, he, hrc.wider (fun b g => ⟨Nat.le_trans hS.2.2.2.size g.1, g.2⟩), HK2.out _ (hS.2.2.2.trans (hb.mono hS.2.2.2.size))⟩)
      have hbd2 : Below wx.heap.size wx wx.drew := (Below.refl _ _).drew
      clear hx2
      go_wp2_with fail
      go_region_held3 (fun w' => (w'.cell? ⟨X, 0, none⟩ = some (.pointer (some da)) ∧ w'.cell? ⟨X, 3, none⟩ = some (.slice (some a2) kept.length c2) ∧ w'.cell? (a2.add i) = some (.int .u32 (ei : Int)) ∧ Below wx.heap.size wx w'))
        (first | with_reducible exact HK2.out _ hbd2 | with_reducible assumption)
        (first
          | (go_at_call 18
             with_reducible refine (HPl2.out _ (by assumption)).mono ?_
             rintro e7 w7 ⟨rfl, hS7⟩)
          | (go_at_call 14
             with_reducible refine (HRd2.out _ (by assumption)).mono ?_
             rintro e8 w8 ⟨vk, N, rfl, hrc8, hS8⟩))
      have hb8 := hS8.2.2.2
      have B8 := HBx.out.step hb8
      have hs8 := hb8.size
      have HM8 := Lib.hid (HMx.out.below K hb8)
      have HSs := Lib.hid HM8.out.ss
      have HEs := Lib.hid HM8.out.es
      have HFs8 := Lib.hid (fun b g => And.intro (HM8.out.hFs b g).2.1 (HM8.out.hFs b g).1)
      have HRc8 := Lib.hid hrc8
      have hbw8 : Below w.heap.size w w8 := hb1.trans (HM8.out.low.mono hs1)
      have HLk : Hid ((∀ v, S.Sg w8 Fs 1 v (kept.length - k) ((recV kept).drop k) → SlR w8 Fs v kd) ∧ (∀ v, S.Sg w8 Fs 1 v (kept.length - k) ((endV kept).drop k) → SlE w8 Fs v kd)) := Lib.hid ⟨fun v h => by rw [HDk.out]; show S.Sg w8 Fs 1 v (kept.drop k).length (recV (kept.drop k)); rw [List.length_drop, recV, List.map_drop]; exact h, fun v h => by rw [HDk.out]; show S.Sg w8 Fs 1 v (kept.drop k).length (endV (kept.drop k)); rw [List.length_drop, endV, List.map_drop]; exact h⟩
      clear hS8 hrc8 HK2 HPl2 HRd2 hbd2 hS7 b2
      have hwk : IntKind.i64.wrap (k : Int) = (k : Int) := by rw [IntKind.wrap_i64]; omega
      have hk9 : k ≤ 1000 := by omega
      have hXw2 : w.heap.size ≤ X := by omega
      clear hi' hne
      rcases Nat.lt_or_ge k c1 with e1 | e1
      · have e1' : c1 ≠ k := by omega
        rcases Nat.lt_or_ge k c2 with e2 | e2
        · have e2' : c2 ≠ k := by omega
          obtain ⟨A9, c9, e9, hc9⟩ := HRc8.out.form
          rw [HLN.out] at e9 hc9
          subst e9
          have hT9 : Turn (fun b => b = X) w8 ((w8.setCell ⟨X, 2, none⟩ (.slice (some (a1.add k)) (kept.length - k) (c1 - k))).setCell ⟨X, 3, none⟩ (.slice (some (a2.add k)) (kept.length - k) (c2 - k))) := ((Turn.refl (fun b => b = X) w8).put (q := X) rfl 2 _).put (q := X) rfl 3 _
          have B9 := (B8.set 2 (by simp) (.slice (some (a1.add k)) (kept.length - k) (c1 - k))).set 3 (by simp) (.slice (some (a2.add k)) (kept.length - k) (c2 - k))
          have hS9 : SlR ((w8.setCell ⟨X, 2, none⟩ (.slice (some (a1.add k)) (kept.length - k) (c1 - k))).setCell ⟨X, 3, none⟩ (.slice (some (a2.add k)) (kept.length - k) (c2 - k))) Fs (.slice (some (a1.add k)) (kept.length - k) (c1 - k)) kd := (HLk.out.1 (.slice (some (a1.add k)) (kept.length - k) (c1 - k)) (by have g := Sg_drop HSs.out k hk; exact g)).keep (fun q hq => hT9.cell (HFs8.out _ hq).1 (fun e => nX.2 (e ▸ hq)))
          have hE9 : SlE ((w8.setCell ⟨X, 2, none⟩ (.slice (some (a1.add k)) (kept.length - k) (c1 - k))).setCell ⟨X, 3, none⟩ (.slice (some (a2.add k)) (kept.length - k) (c2 - k))) Fs (.slice (some (a2.add k)) (kept.length - k) (c2 - k)) kd := (HLk.out.2 (.slice (some (a2.add k)) (kept.length - k) (c2 - k)) (by have g := Sg_drop HEs.out k hk; exact g)).keep (fun q hq => hT9.cell (HFs8.out _ hq).1 (fun e => nX.2 (e ▸ hq)))
          have hL9 : Recs ((w8.setCell ⟨X, 2, none⟩ (.slice (some (a1.add k)) (kept.length - k) (c1 - k))).setCell ⟨X, 3, none⟩ (.slice (some (a2.add k)) (kept.length - k) (c2 - k))) (fun b => wx.heap.size ≤ b ∧ b < w8.heap.size) (.slice A9 (kept.length - k) c9) ((kd.take kd.length).map Q.told) := by
            rw [← HLL.out]
            exact HRc8.out.keep (fun q hq => hT9.cell hq.2 (fun e => by have := hq.1; omega))
          have HBg := Lib.hid (begins7_any (Fl := fun b => wx.heap.size ≤ b ∧ b < w8.heap.size) (da := da) (va := va) (syn := syn) (j := kd.length) hL9 (fun b g => Nat.lt_of_lt_of_le g.2 hT9.size) hS9 hE9 (fun b g => Nat.lt_of_lt_of_le (HFs8.out b g).1 hT9.size) (Nat.le_refl _) (by have := HKd.out; omega))
          have HB9 := Lib.hid B9
          have HT9 := Lib.hid hT9
          have x2 := B8.cell 2 _ rfl
          have x3 := B8.cell 3 _ rfl
          have f2 := B8.fz 2 (by simp)
          have f3 := B8.fz 3 (by simp)
          have y0 := B8.cell 0 _ rfl
          have y1 := B8.cell 1 _ rfl
          have y4 := B8.cell 4 _ rfl
          clear B8 B9 hT9 hS9 hE9 hL9 HLk HSs HEs
          go_wp2_with fail
          refine HBg.out.mono ?_
          rintro e wz ⟨rfl, hbz9⟩
          have z2 := (HB9.out.step hbz9).cell 2 _ rfl
          have hbz : Below w.heap.size w wz := hbw8.trans (((HT9.out.below (B := w.heap.size) (by have := hbw8.size; omega) (fun b e => by omega)).trans (hbz9.mono (by have := HT9.out.size; have := hbw8.size; omega))))
          clear x2 x3 y0 y1 y4 f2 f3 HBg HB9
          go_wp2
          go_ret
          exact ⟨rfl, hbz⟩
        · obtain rfl : k = c2 := by omega
          obtain ⟨A9, c9, e9, hc9⟩ := HRc8.out.form
          rw [HLN.out] at e9 hc9
          rw [show kept.length - k = 0 by omega] at e9 hc9
          subst e9
          have hT9 : Turn (fun b => b = X) w8 ((w8.setCell ⟨X, 2, none⟩ (.slice (some (a1.add k)) 0 (c1 - k))).setCell ⟨X, 3, none⟩ (.slice (some a2) 0 0)) := ((Turn.refl (fun b => b = X) w8).put (q := X) rfl 2 _).put (q := X) rfl 3 _
          have B9 := (B8.set 2 (by simp) (.slice (some (a1.add k)) 0 (c1 - k))).set 3 (by simp) (.slice (some a2) 0 0)
          have hS9 : SlR ((w8.setCell ⟨X, 2, none⟩ (.slice (some (a1.add k)) 0 (c1 - k))).setCell ⟨X, 3, none⟩ (.slice (some a2) 0 0)) Fs (.slice (some (a1.add k)) 0 (c1 - k)) kd := (HLk.out.1 (.slice (some (a1.add k)) 0 (c1 - k)) (by have g := Sg_drop HSs.out k hk; rw [show kept.length - k = 0 by omega] at g ⊢; exact g)).keep (fun q hq => hT9.cell (HFs8.out _ hq).1 (fun e => nX.2 (e ▸ hq)))
          have hE9 : SlE ((w8.setCell ⟨X, 2, none⟩ (.slice (some (a1.add k)) 0 (c1 - k))).setCell ⟨X, 3, none⟩ (.slice (some a2) 0 0)) Fs (.slice (some a2) 0 0) kd := (HLk.out.2 (.slice (some a2) 0 0) (by have g := Sg_drop' HEs.out (by omega) hk; rw [show kept.length - k = 0 by omega] at g ⊢; exact g)).keep (fun q hq => hT9.cell (HFs8.out _ hq).1 (fun e => nX.2 (e ▸ hq)))
          have hL9 : Recs ((w8.setCell ⟨X, 2, none⟩ (.slice (some (a1.add k)) 0 (c1 - k))).setCell ⟨X, 3, none⟩ (.slice (some a2) 0 0)) (fun b => wx.heap.size ≤ b ∧ b < w8.heap.size) (.slice A9 0 c9) ((kd.take kd.length).map Q.told) := by
            rw [← HLL.out]
            exact HRc8.out.keep (fun q hq => hT9.cell hq.2 (fun e => by have := hq.1; omega))
          have HBg := Lib.hid (begins7_any (Fl := fun b => wx.heap.size ≤ b ∧ b < w8.heap.size) (da := da) (va := va) (syn := syn) (j := kd.length) hL9 (fun b g => Nat.lt_of_lt_of_le g.2 hT9.size) hS9 hE9 (fun b g => Nat.lt_of_lt_of_le (HFs8.out b g).1 hT9.size) (Nat.le_refl _) (by have := HKd.out; omega))
          have HB9 := Lib.hid B9
          have HT9 := Lib.hid hT9
          have x2 := B8.cell 2 _ rfl
          have x3 := B8.cell 3 _ rfl
          have f2 := B8.fz 2 (by simp)
          have f3 := B8.fz 3 (by simp)
          have y0 := B8.cell 0 _ rfl
          have y1 := B8.cell 1 _ rfl
          have y4 := B8.cell 4 _ rfl
          clear B8 B9 hT9 hS9 hE9 hL9 HLk HSs HEs
          go_wp2_with fail
          refine HBg.out.mono ?_
          rintro e wz ⟨rfl, hbz9⟩
          have z2 := (HB9.out.step hbz9).cell 2 _ rfl
          have hbz : Below w.heap.size w wz := hbw8.trans (((HT9.out.below (B := w.heap.size) (by have := hbw8.size; omega) (fun b e => by omega)).trans (hbz9.mono (by have := HT9.out.size; have := hbw8.size; omega))))
          clear x2 x3 y0 y1 y4 f2 f3 HBg HB9
          go_wp2
          go_ret
          exact ⟨rfl, hbz⟩
      · obtain rfl : k = c1 := by omega
        rcases Nat.lt_or_ge k c2 with e2 | e2
        · have e2' : c2 ≠ k := by omega
          obtain ⟨A9, c9, e9, hc9⟩ := HRc8.out.form
          rw [HLN.out] at e9 hc9
          rw [show kept.length - k = 0 by omega] at e9 hc9
          subst e9
          have hT9 : Turn (fun b => b = X) w8 ((w8.setCell ⟨X, 2, none⟩ (.slice (some a1) 0 0)).setCell ⟨X, 3, none⟩ (.slice (some (a2.add k)) 0 (c2 - k))) := ((Turn.refl (fun b => b = X) w8).put (q := X) rfl 2 _).put (q := X) rfl 3 _
          have B9 := (B8.set 2 (by simp) (.slice (some a1) 0 0)).set 3 (by simp) (.slice (some (a2.add k)) 0 (c2 - k))
          have hS9 : SlR ((w8.setCell ⟨X, 2, none⟩ (.slice (some a1) 0 0)).setCell ⟨X, 3, none⟩ (.slice (some (a2.add k)) 0 (c2 - k))) Fs (.slice (some a1) 0 0) kd := (HLk.out.1 (.slice (some a1) 0 0) (by have g := Sg_drop' HSs.out (by omega) hk; rw [show kept.length - k = 0 by omega] at g ⊢; exact g)).keep (fun q hq => hT9.cell (HFs8.out _ hq).1 (fun e => nX.2 (e ▸ hq)))
          have hE9 : SlE ((w8.setCell ⟨X, 2, none⟩ (.slice (some a1) 0 0)).setCell ⟨X, 3, none⟩ (.slice (some (a2.add k)) 0 (c2 - k))) Fs (.slice (some (a2.add k)) 0 (c2 - k)) kd := (HLk.out.2 (.slice (some (a2.add k)) 0 (c2 - k)) (by have g := Sg_drop HEs.out k hk; rw [show kept.length - k = 0 by omega] at g ⊢; exact g)).keep (fun q hq => hT9.cell (HFs8.out _ hq).1 (fun e => nX.2 (e ▸ hq)))
          have hL9 : Recs ((w8.setCell ⟨X, 2, none⟩ (.slice (some a1) 0 0)).setCell ⟨X, 3, none⟩ (.slice (some (a2.add k)) 0 (c2 - k))) (fun b => wx.heap.size ≤ b ∧ b < w8.heap.size) (.slice A9 0 c9) ((kd.take kd.length).map Q.told) := by
            rw [← HLL.out]
            exact HRc8.out.keep (fun q hq => hT9.cell hq.2 (fun e => by have := hq.1; omega))
          have HBg := Lib.hid (begins7_any (Fl := fun b => wx.heap.size ≤ b ∧ b < w8.heap.size) (da := da) (va := va) (syn := syn) (j := kd.length) hL9 (fun b g => Nat.lt_of_lt_of_le g.2 hT9.size) hS9 hE9 (fun b g => Nat.lt_of_lt_of_le (HFs8.out b g).1 hT9.size) (Nat.le_refl _) (by have := HKd.out; omega))
          have HB9 := Lib.hid B9
          have HT9 := Lib.hid hT9
          have x2 := B8.cell 2 _ rfl
          have x3 := B8.cell 3 _ rfl
          have f2 := B8.fz 2 (by simp)
          have f3 := B8.fz 3 (by simp)
          have y0 := B8.cell 0 _ rfl
          have y1 := B8.cell 1 _ rfl
          have y4 := B8.cell 4 _ rfl
          clear B8 B9 hT9 hS9 hE9 hL9 HLk HSs HEs
          go_wp2_with fail
          refine HBg.out.mono ?_
          rintro e wz ⟨rfl, hbz9⟩
          have z2 := (HB9.out.step hbz9).cell 2 _ rfl
          have hbz : Below w.heap.size w wz := hbw8.trans (((HT9.out.below (B := w.heap.size) (by have := hbw8.size; omega) (fun b e => by omega)).trans (hbz9.mono (by have := HT9.out.size; have := hbw8.size; omega))))
          clear x2 x3 y0 y1 y4 f2 f3 HBg HB9
          go_wp2
          go_ret
          exact ⟨rfl, hbz⟩
        · obtain rfl : k = c2 := by omega
          obtain ⟨A9, c9, e9, hc9⟩ := HRc8.out.form
          rw [HLN.out] at e9 hc9
          rw [show kept.length - k = 0 by omega] at e9 hc9
          subst e9
          have hT9 : Turn (fun b => b = X) w8 ((w8.setCell ⟨X, 2, none⟩ (.slice (some a1) 0 0)).setCell ⟨X, 3, none⟩ (.slice (some a2) 0 0)) := ((Turn.refl (fun b => b = X) w8).put (q := X) rfl 2 _).put (q := X) rfl 3 _
          have B9 := (B8.set 2 (by simp) (.slice (some a1) 0 0)).set 3 (by simp) (.slice (some a2) 0 0)
          have hS9 : SlR ((w8.setCell ⟨X, 2, none⟩ (.slice (some a1) 0 0)).setCell ⟨X, 3, none⟩ (.slice (some a2) 0 0)) Fs (.slice (some a1) 0 0) kd := (HLk.out.1 (.slice (some a1) 0 0) (by have g := Sg_drop' HSs.out (by omega) hk; rw [show kept.length - k = 0 by omega] at g ⊢; exact g)).keep (fun q hq => hT9.cell (HFs8.out _ hq).1 (fun e => nX.2 (e ▸ hq)))
          have hE9 : SlE ((w8.setCell ⟨X, 2, none⟩ (.slice (some a1) 0 0)).setCell ⟨X, 3, none⟩ (.slice (some a2) 0 0)) Fs (.slice (some a2) 0 0) kd := (HLk.out.2 (.slice (some a2) 0 0) (by have g := Sg_drop' HEs.out (by omega) hk; rw [show kept.length - k = 0 by omega] at g ⊢; exact g)).keep (fun q hq => hT9.cell (HFs8.out _ hq).1 (fun e => nX.2 (e ▸ hq)))
          have hL9 : Recs ((w8.setCell ⟨X, 2, none⟩ (.slice (some a1) 0 0)).setCell ⟨X, 3, none⟩ (.slice (some a2) 0 0)) (fun b => wx.heap.size ≤ b ∧ b < w8.heap.size) (.slice A9 0 c9) ((kd.take kd.length).map Q.told) := by
            rw [← HLL.out]
            exact HRc8.out.keep (fun q hq => hT9.cell hq.2 (fun e => by have := hq.1; omega))
          have HBg := Lib.hid (begins7_any (Fl := fun b => wx.heap.size ≤ b ∧ b < w8.heap.size) (da := da) (va := va) (syn := syn) (j := kd.length) hL9 (fun b g => Nat.lt_of_lt_of_le g.2 hT9.size) hS9 hE9 (fun b g => Nat.lt_of_lt_of_le (HFs8.out b g).1 hT9.size) (Nat.le_refl _) (by have := HKd.out; omega))
          have HB9 := Lib.hid B9
          have HT9 := Lib.hid hT9
          have x2 := B8.cell 2 _ rfl
          have x3 := B8.cell 3 _ rfl
          have f2 := B8.fz 2 (by simp)
          have f3 := B8.fz 3 (by simp)
          have y0 := B8.cell 0 _ rfl
          have y1 := B8.cell 1 _ rfl
          have y4 := B8.cell 4 _ rfl
          clear B8 B9 hT9 hS9 hE9 hL9 HLk HSs HEs
          go_wp2_with fail
          refine HBg.out.mono ?_
          rintro e wz ⟨rfl, hbz9⟩
          have z2 := (HB9.out.step hbz9).cell 2 _ rfl
          have hbz : Below w.heap.size w wz := hbw8.trans (((HT9.out.below (B := w.heap.size) (by have := hbw8.size; omega) (fun b e => by omega)).trans (hbz9.mono (by have := HT9.out.size; have := hbw8.size; omega))))
          clear x2 x3 y0 y1 y4 f2 f3 HBg HB9
          go_wp2
          go_ret
          exact ⟨rfl, hbz⟩
end

end Go.Proofs.Ytnjhbmjhldfdpaa
