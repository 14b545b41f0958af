/-
  Walks of layer scan's laws: ScanStill.
-/
import Derived.Test.YtnjhbmjhldfdpaaScBackW
namespace Go.Proofs.Ytnjhbmjhldfdpaa
open Go.RowKit

section
variable {H : World → (Nat → Prop) → Value → D.Dk → Prop}

set_option maxRecDepth 100000 in
theorem free_zero (w : World) : Calls Try.prog 28 #[.agg #[.slice none 0 0, .slice none 0 0, .slice none 0 0, .int .i64 0, .int .i64 0, .int .u32 0, .int .u32 0, .int .u32 0]] w fun e w' => e = .returned (.int .i64 0) ∧ Below w.heap.size w w' := by
  have hb : Below w.heap.size w (w.alloc (.cells #[.slice none 0 0, .slice none 0 0, .slice none 0 0, .int .i64 0, .int .i64 0, .int .u32 0, .int .u32 0, .int .u32 0] 73)) := (Below.refl _ _).alloc (Nat.le_refl _) _
  go_enter Try.func28, Try.ntmps28
  go_wp2
  go_ret
  exact ⟨rfl, hb⟩

set_option maxRecDepth 100000 in
set_option maxHeartbeats 8000000 in
theorem ScanStill_walk (K : DiskOk H) (KF : FrameOk) (v : Value) (l : List Dd) (w : World) (Gd : Nat → Prop) (hd : Dds w Gd v l) (hG : ∀ b, Gd b → b < w.heap.size) (hln : l.length ≤ 9223372036854775807) (from_ : Nat) (hfr : from_ < 4294967296) :
    Calls Try.prog 8 #[v, .int .u32 (from_ : Int)] w fun e w' => e = .returned (.bool true) ∧ Below w.heap.size w w' := by
  have HD := Lib.hid hd
  obtain ⟨Ad, capd, rfl, hcd⟩ : ∃ A cap, v = .slice A l.length cap ∧ l.length ≤ cap := by
    obtain ⟨A, cap, e, hc, _⟩ := hd
    exact ⟨A, cap, e, hc⟩
  clear hd
  have HA := Lib.hid (awake7_any K KF w)
  go_enter Try.func8, Try.ntmps8
  go_wp2_with fail
  refine HA.out.mono ?_
  rintro e w1 ⟨rfl, hb1⟩
  have hs1 := hb1.size
  have HFw := Lib.hid (few6_any _ l w1 Gd (HD.out.below hb1 hG) hln)
  obtain ⟨fb, hfb⟩ : ∃ b, b = few6 l := ⟨_, rfl⟩
  rw [← hfb] at HFw
  have HFB := Lib.hid hfb
  clear HA hfb
  go_wp2_with fail
  refine HFw.out.mono ?_
  rintro e w1' ⟨rfl, rfl⟩
  clear HFw
  cases fb with
  | false =>
    go_wp2
    go_ret
    exact ⟨rfl, hb1⟩
  | true =>
    have HRn := Lib.hid (run7_any K KF _ l w1 Gd (HD.out.below hb1 hG) (fun b g => by have := hG b g; omega) HFB.out.symm)
    go_wp2_with fail
    refine HRn.out.mono ?_
    rintro e w2 ⟨da, va, vs, ve, r, L, kept, syn, n, F, Fs, rfl, hn30, hpm, hmk⟩
    have hkn := hpm.len
    have hsk := hpm.kp.le
    obtain ⟨A1, c1, rfl, hc1⟩ := Sg_form hmk.ss
    obtain ⟨A2, c2, rfl, hc2⟩ := Sg_form hmk.es
    have hba : Below w2.heap.size w2 (w2.alloc (.cells #[.pointer (some da), .pointer (some va), .slice A1 kept.length c1, .slice A2 kept.length c2, .int .i64 (syn : Int)] 55)) := (Below.refl _ _).alloc (Nat.le_refl _) _
    have hza : (w2.alloc (.cells #[.pointer (some da), .pointer (some va), .slice A1 kept.length c1, .slice A2 kept.length c2, .int .i64 (syn : Int)] 55)).heap.size = w2.heap.size + 1 := by simp
    have hzaa := Nat.le_of_eq hza
    have hzab := Nat.le_of_eq hza.symm
    have B3 := Bk.new w2 [.pointer (some da), .pointer (some va), .slice A1 kept.length c1, .slice A2 kept.length c2, .int .i64 (syn : Int)] 55 rfl
    have HM := Lib.hid (hmk.below K hba)
    have hbw : Below w.heap.size w (w2.alloc (.cells #[.pointer (some da), .pointer (some va), .slice A1 kept.length c1, .slice A2 kept.length c2, .int .i64 (syn : Int)] 55)) := hb1.trans ((hmk.below K hba).low.mono hs1)
    have nX : ¬ F w2.heap.size ∧ ¬ Fs w2.heap.size := ⟨fun g => by have := hmk.rp.lt _ g; omega, fun g => by have := (hmk.hFs _ g).2.1; omega⟩
    have hXw : w1.heap.size ≤ w2.heap.size := hmk.low.size
    have HPM := Lib.hid hpm
    have hmay := hpm.kp.hist.may
    have htop := hmay.top
    have hln2 := hmay.ln
    clear HRn hmk hpm hza hba hmay
    have x0 := B3.cell 0 _ rfl
    have x1 := B3.cell 1 _ rfl
    go_wp2_with fail
    generalize w2.alloc (.cells #[.pointer (some da), .pointer (some va), .slice A1 kept.length c1, .slice A2 kept.length c2, .int .i64 (syn : Int)] 55) = w3 at *
    generalize w2.heap.size = X at *
    obtain ⟨Fd, hFd, hHd⟩ := HM.out.rp.disk
    have HCp := Lib.hid (K.copy hHd)
    have HB3 := Lib.hid B3
    obtain ⟨LL, hLL⟩ : ∃ LL, LL = Q.all r.d 2 8 3 from_ := ⟨_, rfl⟩
    obtain ⟨N, hN⟩ : ∃ N, N = Q.behind from_ LL := ⟨_, rfl⟩
    have HLL := Lib.hid hLL
    have HN := Lib.hid hN
    clear hLL hN B3 x1
    refine HCp.out.mono ?_
    rintro e wc ⟨vw, rfl, hHc, hbc⟩
    obtain ⟨cw, rfl⟩ := K.ptr hHc
    have HHc := Lib.hid hHc
    have HMc := Lib.hid (HM.out.below K hbc)
    have HBc := Lib.hid (HB3.out.step hbc)
    have HRc := Lib.hid HMc.out.rp
    have HHd := Lib.hid (K.below hHd hbc)
    clear HCp hHc hHd x0
    go_wp2_with fail
    have HK1 : Hid (∀ w', Below wc.heap.size wc w' → (w'.cell? ⟨X, 0, none⟩ = some (.pointer (some da)) ∧ w'.cell? ⟨X, 1, none⟩ = some (.pointer (some va)) ∧ Below wc.heap.size wc w')) := Lib.hid fun w' hb => ⟨(HBc.out.step hb).cell 0 _ rfl, (HBc.out.step hb).cell 1 _ rfl, hb⟩
    have HPl1 : Hid (∀ w', (w'.cell? ⟨X, 0, none⟩ = some (.pointer (some da)) ∧ w'.cell? ⟨X, 1, none⟩ = some (.pointer (some va)) ∧ Below wc.heap.size wc w') → Calls Try.prog 18 #[] w' fun e w'' => e = .returned (.agg #[.int .i64 2, .int .i64 8, .int .u32 3]) ∧ (w''.cell? ⟨X, 0, none⟩ = some (.pointer (some da)) ∧ w''.cell? ⟨X, 1, none⟩ = some (.pointer (some va)) ∧ Below wc.heap.size wc w'')) := Lib.hid fun w' hS => (place7_any w').mono (fun e w'' ⟨he, hb⟩ => ⟨he, HK1.out _ (hS.2.2.trans (hb.mono hS.2.2.size))⟩)
    have HRd1 : Hid (∀ w', (w'.cell? ⟨X, 0, none⟩ = some (.pointer (some da)) ∧ w'.cell? ⟨X, 1, none⟩ = some (.pointer (some va)) ∧ Below wc.heap.size wc w') → Calls Try.prog 14 #[.pointer (some da), .agg #[.int .i64 2, .int .i64 8, .int .u32 3], .int .u32 (from_ : Int)] w' fun e w'' => ∃ vk, e = .returned (.tuple #[vk, .int .u32 (N : Int)]) ∧ Recs w'' (fun b => wc.heap.size ≤ b ∧ b < w''.heap.size) vk LL ∧ (w''.cell? ⟨X, 0, none⟩ = some (.pointer (some da)) ∧ w''.cell? ⟨X, 1, none⟩ = some (.pointer (some va)) ∧ Below wc.heap.size wc w'')) := Lib.hid fun w' hS => (ring_scan K KF (HRc.out.below K hS.2.2) 2 8 3 from_ (by decide) (by decide) (by decide) (by omega)).mono (fun e w'' ⟨vk, he, hrc, hb⟩ => by
      rw [← HLL.out] at he hrc; rw [← HN.out] at he
      exact ⟨vk, he, hrc.wider (fun b g => ⟨Nat.le_trans hS.2.2.size g.1, g.2⟩), HK1.out _ (hS.2.2.trans (hb.mono hS.2.2.size))⟩)
    have hbd1 : Below wc.heap.size wc wc.drew := (Below.refl _ _).drew
    go_region_held3 (fun w' => (w'.cell? ⟨X, 0, none⟩ = some (.pointer (some da)) ∧ w'.cell? ⟨X, 1, none⟩ = some (.pointer (some va)) ∧ Below wc.heap.size wc w'))
      (first | with_reducible exact HK1.out _ hbd1 | with_reducible assumption)
      (first
        | (go_at_call 18
           with_reducible refine (HPl1.out _ (by assumption)).mono ?_
           rintro e4 w4 ⟨rfl, hS4⟩)
        | (go_at_call 14
           with_reducible refine (HRd1.out _ (by assumption)).mono ?_
           rintro e6 w6 ⟨vk, rfl, hrc6, hS6⟩))
    have hb6 := hS6.2.2
    obtain ⟨A9, c9, rfl, hc9⟩ := hrc6.form
    have HM6 := Lib.hid (HMc.out.below K hb6)
    have HB6 := Lib.hid (HBc.out.step hb6)
    have HR6 := Lib.hid HM6.out.rp
    clear hS6 hrc6 HK1 HPl1 HRd1 hbd1 hS4
    go_wp2_with fail
    have HK1b : Hid (∀ w', Below w6.heap.size w6 w' → (w'.cell? ⟨X, 0, none⟩ = some (.pointer (some da)) ∧ w'.cell? ⟨X, 1, none⟩ = some (.pointer (some va)) ∧ Below w6.heap.size w6 w')) := Lib.hid fun w' hb => ⟨(HB6.out.step hb).cell 0 _ rfl, (HB6.out.step hb).cell 1 _ rfl, hb⟩
    have HPl1b : Hid (∀ w', (w'.cell? ⟨X, 0, none⟩ = some (.pointer (some da)) ∧ w'.cell? ⟨X, 1, none⟩ = some (.pointer (some va)) ∧ Below w6.heap.size w6 w') → Calls Try.prog 18 #[] w' fun e w'' => e = .returned (.agg #[.int .i64 2, .int .i64 8, .int .u32 3]) ∧ (w''.cell? ⟨X, 0, none⟩ = some (.pointer (some da)) ∧ w''.cell? ⟨X, 1, none⟩ = some (.pointer (some va)) ∧ Below w6.heap.size w6 w'')) := Lib.hid fun w' hS => (place7_any w').mono (fun e w'' ⟨he, hb⟩ => ⟨he, HK1b.out _ (hS.2.2.trans (hb.mono hS.2.2.size))⟩)
    have HRd1b : Hid (∀ w', (w'.cell? ⟨X, 0, none⟩ = some (.pointer (some da)) ∧ w'.cell? ⟨X, 1, none⟩ = some (.pointer (some va)) ∧ Below w6.heap.size w6 w') → Calls Try.prog 14 #[.pointer (some da), .agg #[.int .i64 2, .int .i64 8, .int .u32 3], .int .u32 (from_ : Int)] w' fun e w'' => ∃ vkb, e = .returned (.tuple #[vkb, .int .u32 (N : Int)]) ∧ Recs w'' (fun b => w6.heap.size ≤ b ∧ b < w''.heap.size) vkb LL ∧ (w''.cell? ⟨X, 0, none⟩ = some (.pointer (some da)) ∧ w''.cell? ⟨X, 1, none⟩ = some (.pointer (some va)) ∧ Below w6.heap.size w6 w'')) := Lib.hid fun w' hS => (ring_scan K KF (HR6.out.below K hS.2.2) 2 8 3 from_ (by decide) (by decide) (by decide) (by omega)).mono (fun e w'' ⟨vkb, he, hrc, hb⟩ => by
      rw [← HLL.out] at he hrc; rw [← HN.out] at he
      exact ⟨vkb, he, hrc.wider (fun b g => ⟨Nat.le_trans hS.2.2.size g.1, g.2⟩), HK1b.out _ (hS.2.2.trans (hb.mono hS.2.2.size))⟩)
    have hbd1b : Below w6.heap.size w6 w6.drew := (Below.refl _ _).drew
    go_region_held3 (fun w' => (w'.cell? ⟨X, 0, none⟩ = some (.pointer (some da)) ∧ w'.cell? ⟨X, 1, none⟩ = some (.pointer (some va)) ∧ Below w6.heap.size w6 w'))
      (first | with_reducible exact HK1b.out _ hbd1b | with_reducible assumption)
      (first
        | (go_at_call 18
           with_reducible refine (HPl1b.out _ (by assumption)).mono ?_
           rintro e4b w4b ⟨rfl, hS4b⟩)
        | (go_at_call 14
           with_reducible refine (HRd1b.out _ (by assumption)).mono ?_
           rintro e6b w6b ⟨vkb, rfl, hrc6b, hS6b⟩))
    have hb6b := hS6b.2.2
    obtain ⟨A8, c8, rfl, hc8⟩ := hrc6b.form
    have hbcy := below_two hb6 hb6b
    have HHy := Lib.hid (K.below HHc.out hbcy)
    have HDy := Lib.hid (K.below HHd.out hbcy)
    have HMy := Lib.hid (HMc.out.below K hbcy)
    have HBy := Lib.hid (HBc.out.step hbcy)
    clear hS6b hrc6b HK1b HPl1b HRd1b hbd1b hS4b
    obtain ⟨wy, hwy⟩ : ∃ wy, wy = w6b := ⟨_, rfl⟩
    rw [← hwy] at HHy HDy HMy HBy hbcy ⊢
    clear hwy hb6b
    have HK3 : Hid (∀ w', Below wy.heap.size wy w' → (w'.cell? ⟨X, 0, none⟩ = some (.pointer (some da)) ∧ Below wy.heap.size wy w')) := Lib.hid fun w' hb => ⟨(HBy.out.step hb).cell 0 _ rfl, hb⟩
    obtain ⟨pn, hpn⟩ : ∃ pn, pn = r.d.row.length := ⟨_, rfl⟩
    have HPN := Lib.hid hpn
    have HPa : Hid (∀ w', (w'.cell? ⟨X, 0, none⟩ = some (.pointer (some da)) ∧ Below wy.heap.size wy w') → Calls Try.prog 26 #[.pointer (some cw)] w' fun e w'' => e = .returned (.int .i64 (pn : Int)) ∧ (w''.cell? ⟨X, 0, none⟩ = some (.pointer (some da)) ∧ Below wy.heap.size wy w'')) := Lib.hid fun w' hS => (K.pending (K.below HHy.out hS.2)).mono (fun e w'' ⟨he, hb⟩ => ⟨by rw [HPN.out]; exact he, HK3.out _ (hS.2.trans (hb.mono hS.2.size))⟩)
    have HPb : Hid (∀ w', (w'.cell? ⟨X, 0, none⟩ = some (.pointer (some da)) ∧ Below wy.heap.size wy w') → Calls Try.prog 26 #[.pointer (some da)] w' fun e w'' => e = .returned (.int .i64 (pn : Int)) ∧ (w''.cell? ⟨X, 0, none⟩ = some (.pointer (some da)) ∧ Below wy.heap.size wy w'')) := Lib.hid fun w' hS => (K.pending (K.below HDy.out hS.2)).mono (fun e w'' ⟨he, hb⟩ => ⟨by rw [HPN.out]; exact he, HK3.out _ (hS.2.trans (hb.mono hS.2.size))⟩)
    have hbd3 : Below wy.heap.size wy wy.drew := (Below.refl _ _).drew
    clear hpn
    go_wp2_with fail
    go_region_held3 (fun w' => (w'.cell? ⟨X, 0, none⟩ = some (.pointer (some da)) ∧ Below wy.heap.size wy w'))
      (first | with_reducible exact HK3.out _ hbd3 | with_reducible assumption)
      (first
        | (go_at_call 26
           with_reducible refine (HPa.out _ (by assumption)).mono ?_
           rintro e7 w7 ⟨rfl, hS7⟩)
        | (go_at_call 26
           with_reducible refine (HPb.out _ (by assumption)).mono ?_
           rintro e8 w8 ⟨rfl, hS8⟩))
    have hb8 := hS8.2
    have HH8 := Lib.hid (K.below HHy.out hb8)
    have HD8 := Lib.hid (K.below HDy.out hb8)
    have HM8 := Lib.hid (HMy.out.below K hb8)
    have HB8 := Lib.hid (HBy.out.step hb8)
    have hbw8 : Below w.heap.size w w8 := hb1.trans (HM8.out.low.mono hs1)
    clear hS7 hS8 HK3 HPa HPb hbd3
    go_wp2_with fail
    go_loopw [12] (fun i wr => ∃ k : Nat, k ≤ 12 ∧ i = .int .i64 (k : Int) ∧ Below w8.heap.size w8 wr) (fun i _ => 12 - (intOf i).toNat)
    case atStart => exact ⟨0, Nat.zero_le _, rfl, Below.refl _ _⟩
    case round =>
      obtain ⟨k, hk, rfl, hbr⟩ := hrel
      by_cases hlt : k < 12
      · have hlt' : (k : Int) < 12 := by omega
        have HRa := Lib.hid (K.read (k : Int) (K.below HH8.out hbr) (by omega) (by omega))
        go_wp2_with fail
        refine HRa.out.mono ?_
        rintro e wa ⟨va1, l1, k1, rfl, hr1, hsa, hba⟩
        have hbra := below_two hbr hba
        have HRb := Lib.hid (K.read (k : Int) (K.below HD8.out hbra) (by omega) (by omega))
        have c0 := (HB8.out.step hbra).cell 0 _ rfl
        have HSa := Lib.hid hsa
        obtain ⟨Aa, ca, rfl, hca⟩ := Sg_form hsa
        clear HRa hsa
        go_wp2_with fail
        refine HRb.out.mono ?_
        rintro e wb ⟨vb1, l2, k2, rfl, hr2, hsb, hbb⟩
        have hbrb := below_two hbra hbb
        obtain ⟨hll, hkk⟩ : l1 = l2 ∧ k1 = k2 := by
          rw [hr1] at hr2
          simp only [Value.tuple.injEq, Array.mk.injEq, List.cons.injEq, Value.string.injEq, ByteArray.mk.injEq, Value.int.injEq, true_and, and_true] at hr2
          exact ⟨by simpa using hr2.1, hr2.2⟩
        subst hll hkk
        have hcv1 := conv_sg (HSa.out.below hbb (fun b g => g.2))
        have hcv2 := conv_sg hsb
        obtain ⟨Ab, cb, rfl, hcb⟩ := Sg_form hsb
        clear HRb c0 hr1 hr2 hsb HSa
        go_wp2_with fail
        go_roundw
        case rel => exact ⟨k + 1, by omega, by go_num, hbrb⟩
        case measure => simp [intOf]; omega
      · obtain rfl : k = 12 := by omega
        have HPl := Lib.hid (place7_any wr)
        go_wp2_with fail
        refine HPl.out.mono ?_
        rintro e wa ⟨rfl, hba⟩
        have HN0 := Lib.hid (scan_nil 2 8 3 from_ wa)
        clear HPl
        go_wp2_with fail
        refine HN0.out.mono ?_
        rintro e wb ⟨vn, rfl, hnr, hbb⟩
        obtain ⟨An, cn, rfl, _⟩ := hnr.form
        have hbrb := below_two (below_two hbr hba) hbb
        have c0 := (HB8.out.step hbrb).cell 0 _ rfl
        have HE0 := Lib.hid (scan_no da 0 0 0 from_ wb (by decide))
        clear HN0 hnr
        go_wp2_with fail
        refine HE0.out.mono ?_
        rintro e wd ⟨vm, rfl, hmr, hbd⟩
        obtain ⟨Am, cm, rfl, _⟩ := hmr.form
        have hbrd := below_two hbrb hbd
        have HFz := Lib.hid (free_zero wd)
        clear HE0 hmr c0
        go_wp2_with fail
        refine HFz.out.mono ?_
        rintro e we ⟨rfl, hbe⟩
        have HCt := Lib.hid (rcut_any 1 1 [] we (by decide) (by decide) (by decide))
        clear HFz
        go_wp2_with fail
        refine HCt.out.mono ?_
        rintro e wf ⟨vf, rfl, hown, hbf⟩
        have hcl : (R.cut 1 1 []).length = 1 := rfl
        rw [hcl] at hown
        obtain ⟨Af, cf, rfl, _⟩ : ∃ A cap, vf = .slice A 1 cap ∧ 1 ≤ cap := by
          obtain ⟨_, A, cap, e, hc, _⟩ := S.Sg.of_own hown
          exact ⟨A, cap, e, hc⟩
        have hbz := hbw8.trans ((below_two (below_two hbrd hbe) hbf).mono hbw8.size)
        clear HCt hown
        go_wp2
        go_ret
        exact ⟨rfl, hbz⟩
end

end Go.Proofs.Ytnjhbmjhldfdpaa
