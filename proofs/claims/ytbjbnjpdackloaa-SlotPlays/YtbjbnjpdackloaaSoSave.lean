/-
  Package slot: a checkpoint saved.
-/
import Derived.Test.YtbjbnjpdackloaaSoLoad
namespace Go.Proofs.Ytbjbnjpdackloaa
open Go.RowKit

set_option maxRecDepth 100000 in
set_option maxHeartbeats 4000000 in
theorem save_out {w : World} {vd vb : Value} (hvb : ∃ A m c, vb = .slice A m c) {n : Nat} (hlen : LenIs w vd n) (hn : n ≤ 1024) {first size : Int} {gen : Nat} (hf0 : -9223372036854775808 ≤ first) (hf1 : first ≤ 9223372036854775807) (hm0 : -9223372036854775808 ≤ size) (hm1 : size ≤ 9223372036854775807) (hno : fitsB n first size = false) :
    Calls Try.prog 19 #[vd, .agg #[.int .i64 first, .int .i64 size], .int .u32 (gen : Int), vb] w fun e w' => e = .returned (.int .i64 1) ∧ Below w.heap.size w w' := by
  obtain ⟨A, m, c, rfl⟩ := hvb
  have P0 := Bk.new w [.int .i64 first, .int .i64 size] 23 rfl
  have hb0 : Below w.heap.size w (w.alloc (.cells #[.int .i64 first, .int .i64 size] 23)) := (Below.refl _ _).alloc (Nat.le_refl _) _
  have hz0 : w.heap.size < (w.alloc (.cells #[.int .i64 first, .int .i64 size] 23)).heap.size := by simp
  have HLen := Lib.hid hlen
  clear hlen
  have HFE := Lib.hid hno
  clear hno
  go_enter Try.func19, Try.ntmps19
  go_wp2_with fail
  generalize w.alloc (.cells #[.int .i64 first, .int .i64 size] 23) = w0 at *
  obtain ⟨C, hC⟩ : ∃ C : World → Prop, C = fun w' => Below w0.heap.size w0 w' := ⟨_, rfl⟩
  have HC0 : Hid (∀ w', C w' → w'.cell? ⟨w.heap.size, 0, none⟩ = some (.int .i64 first)) := Lib.hid fun w' hb => (P0.step (by rw [hC] at hb; exact hb)).cell 0 _ rfl
  have HC1 : Hid (∀ w', C w' → w'.cell? ⟨w.heap.size, 1, none⟩ = some (.int .i64 size)) := Lib.hid fun w' hb => (P0.step (by rw [hC] at hb; exact hb)).cell 1 _ rfl
  have HCb : Hid (∀ w', C w' → Below w0.heap.size w0 w') := Lib.hid fun w' hb => by rw [hC] at hb; exact hb
  have HCm : Hid (∀ w', Below w0.heap.size w0 w' → C w') := Lib.hid fun w' hb => by rw [hC]; exact hb
  have HB0 : Hid (Below w.heap.size w w0) := Lib.hid hb0
  clear hC
  have HL : Hid (∀ w', C w' → Calls Try.prog 32 #[vd] w' fun e w'' => e = .returned (.int .i64 (n : Int)) ∧ C w'') :=
    Lib.hid fun w' hS => (HLen.out w' (below_two HB0.out (HCb.out w' hS))).mono (fun e w'' ⟨he, hb⟩ => ⟨he, HCm.out _ ((HCb.out w' hS).trans (hb.mono (HCb.out w' hS).size))⟩)
  have HFt : Hid (∀ w', C w' → Calls Try.prog 31 #[.agg #[.int .i64 first, .int .i64 size], .int .i64 (n : Int)] w' fun e w'' => e = .returned (.bool false) ∧ C w'') :=
    Lib.hid fun w' hS => (slot_fits first size n w' hn hf0 hf1 hm0 hm1).mono (fun e w'' ⟨he, hb⟩ => ⟨by rw [he, HFE.out], HCm.out _ ((HCb.out w' hS).trans (hb.mono (HCb.out w' hS).size))⟩)
  have HCd : Hid (C { w0 with drawn := w0.drawn + 1 }) := Lib.hid (HCm.out _ (Below.refl _ _).drew)
  generalize hpe : w.heap.size = p at HC0 HC1 ⊢
  clear P0
  refine wp_region_quiet (C := C) (by kernel_rfl) (by kernel_rfl) HCd.out ?_
  show wpQuiet _ _ _ _ [_, _, _, _, _, _, _, _, _] _
  refine wpQuiet_step (fun K hK => ?_)
  go_simp
  first
    | (refine hK _ ?_; clear hK K)
    | (refine ⟨_, fun w hw => (by first | exact HL.out w hw | exact HFt.out w hw | exact rfl | exact ⟨rfl, rfl⟩), hK _ ?_⟩; clear hK K)
    | (refine ⟨.agg #[.int .i64 first, .int .i64 size], fun w hw => (by have c0 := HC0.out w hw; have c1 := HC1.out w hw; go_simp), hK _ ?_⟩; clear hK K)
  refine wpQuiet_step (fun K hK => ?_)
  go_simp
  first
    | (refine hK _ ?_; clear hK K)
    | (refine ⟨_, fun w hw => (by first | exact HL.out w hw | exact HFt.out w hw | exact rfl | exact ⟨rfl, rfl⟩), hK _ ?_⟩; clear hK K)
    | (refine ⟨.agg #[.int .i64 first, .int .i64 size], fun w hw => (by have c0 := HC0.out w hw; have c1 := HC1.out w hw; go_simp), hK _ ?_⟩; clear hK K)
  refine wpQuiet_step (fun K hK => ?_)
  go_simp
  first
    | (refine hK _ ?_; clear hK K)
    | (refine ⟨_, fun w hw => (by first | exact HL.out w hw | exact HFt.out w hw | exact rfl | exact ⟨rfl, rfl⟩), hK _ ?_⟩; clear hK K)
    | (refine ⟨.agg #[.int .i64 first, .int .i64 size], fun w hw => (by have c0 := HC0.out w hw; have c1 := HC1.out w hw; go_simp), hK _ ?_⟩; clear hK K)
  refine wpQuiet_step (fun K hK => ?_)
  go_simp
  first
    | (refine hK _ ?_; clear hK K)
    | (refine ⟨_, fun w hw => (by first | exact HL.out w hw | exact HFt.out w hw | exact rfl | exact ⟨rfl, rfl⟩), hK _ ?_⟩; clear hK K)
    | (refine ⟨.agg #[.int .i64 first, .int .i64 size], fun w hw => (by have c0 := HC0.out w hw; have c1 := HC1.out w hw; go_simp), hK _ ?_⟩; clear hK K)
  refine wpQuiet_step (fun K hK => ?_)
  go_simp
  first
    | (refine hK _ ?_; clear hK K)
    | (refine ⟨_, fun w hw => (by first | exact HL.out w hw | exact HFt.out w hw | exact rfl | exact ⟨rfl, rfl⟩), hK _ ?_⟩; clear hK K)
    | (refine ⟨.agg #[.int .i64 first, .int .i64 size], fun w hw => (by have c0 := HC0.out w hw; have c1 := HC1.out w hw; go_simp), hK _ ?_⟩; clear hK K)
  refine wpQuiet_step (fun K hK => ?_)
  go_simp
  first
    | (refine hK _ ?_; clear hK K)
    | (refine ⟨_, fun w hw => (by first | exact HL.out w hw | exact HFt.out w hw | exact rfl | exact ⟨rfl, rfl⟩), hK _ ?_⟩; clear hK K)
    | (refine ⟨.agg #[.int .i64 first, .int .i64 size], fun w hw => (by have c0 := HC0.out w hw; have c1 := HC1.out w hw; go_simp), hK _ ?_⟩; clear hK K)
  refine wpQuiet_step (fun K hK => ?_)
  go_simp
  first
    | (refine hK _ ?_; clear hK K)
    | (refine ⟨_, fun w hw => (by first | exact HL.out w hw | exact HFt.out w hw | exact rfl | exact ⟨rfl, rfl⟩), hK _ ?_⟩; clear hK K)
    | (refine ⟨.agg #[.int .i64 first, .int .i64 size], fun w hw => (by have c0 := HC0.out w hw; have c1 := HC1.out w hw; go_simp), hK _ ?_⟩; clear hK K)
  refine wpQuiet_step (fun K hK => ?_)
  go_simp
  first
    | (refine hK _ ?_; clear hK K)
    | (refine ⟨_, fun w hw => (by first | exact HL.out w hw | exact HFt.out w hw | exact rfl | exact ⟨rfl, rfl⟩), hK _ ?_⟩; clear hK K)
    | (refine ⟨.agg #[.int .i64 first, .int .i64 size], fun w hw => (by have c0 := HC0.out w hw; have c1 := HC1.out w hw; go_simp), hK _ ?_⟩; clear hK K)
  refine wpQuiet_step (fun K hK => ?_)
  go_simp
  first
    | (refine hK _ ?_; clear hK K)
    | (refine ⟨_, fun w hw => (by first | exact HL.out w hw | exact HFt.out w hw | exact rfl | exact ⟨rfl, rfl⟩), hK _ ?_⟩; clear hK K)
    | (refine ⟨.agg #[.int .i64 first, .int .i64 size], fun w hw => (by have c0 := HC0.out w hw; have c1 := HC1.out w hw; go_simp), hK _ ?_⟩; clear hK K)
  refine wpQuiet_nil (fun w2 hw2 => ?_)
  have hb2 := HCb.out w2 hw2
  have c0 := HC0.out w2 hw2
  have c1 := HC1.out w2 hw2
  clear HL HFt HCd
  go_wp2_with fail
  go_ret
  exact ⟨rfl, below_two HB0.out hb2⟩

set_option maxRecDepth 100000 in
set_option maxHeartbeats 4000000 in
theorem save_zero {w : World} {vd vb : Value} (hvb : ∃ A m c, vb = .slice A m c) {n : Nat} (hlen : LenIs w vd n) (hn : n ≤ 1024) {first size : Int} (hf0 : -9223372036854775808 ≤ first) (hf1 : first ≤ 9223372036854775807) (hm0 : -9223372036854775808 ≤ size) (hm1 : size ≤ 9223372036854775807) (hno : fitsB n first size = true) :
    Calls Try.prog 19 #[vd, .agg #[.int .i64 first, .int .i64 size], .int .u32 ((0 : Nat) : Int), vb] w fun e w' => e = .returned (.int .i64 1) ∧ Below w.heap.size w w' := by
  obtain ⟨A, m, c, rfl⟩ := hvb
  have P0 := Bk.new w [.int .i64 first, .int .i64 size] 23 rfl
  have hb0 : Below w.heap.size w (w.alloc (.cells #[.int .i64 first, .int .i64 size] 23)) := (Below.refl _ _).alloc (Nat.le_refl _) _
  have hz0 : w.heap.size < (w.alloc (.cells #[.int .i64 first, .int .i64 size] 23)).heap.size := by simp
  have HLen := Lib.hid hlen
  clear hlen
  have HFE := Lib.hid hno
  clear hno
  go_enter Try.func19, Try.ntmps19
  go_wp2_with fail
  generalize w.alloc (.cells #[.int .i64 first, .int .i64 size] 23) = w0 at *
  obtain ⟨C, hC⟩ : ∃ C : World → Prop, C = fun w' => Below w0.heap.size w0 w' := ⟨_, rfl⟩
  have HC0 : Hid (∀ w', C w' → w'.cell? ⟨w.heap.size, 0, none⟩ = some (.int .i64 first)) := Lib.hid fun w' hb => (P0.step (by rw [hC] at hb; exact hb)).cell 0 _ rfl
  have HC1 : Hid (∀ w', C w' → w'.cell? ⟨w.heap.size, 1, none⟩ = some (.int .i64 size)) := Lib.hid fun w' hb => (P0.step (by rw [hC] at hb; exact hb)).cell 1 _ rfl
  have HCb : Hid (∀ w', C w' → Below w0.heap.size w0 w') := Lib.hid fun w' hb => by rw [hC] at hb; exact hb
  have HCm : Hid (∀ w', Below w0.heap.size w0 w' → C w') := Lib.hid fun w' hb => by rw [hC]; exact hb
  have HB0 : Hid (Below w.heap.size w w0) := Lib.hid hb0
  clear hC
  have HL : Hid (∀ w', C w' → Calls Try.prog 32 #[vd] w' fun e w'' => e = .returned (.int .i64 (n : Int)) ∧ C w'') :=
    Lib.hid fun w' hS => (HLen.out w' (below_two HB0.out (HCb.out w' hS))).mono (fun e w'' ⟨he, hb⟩ => ⟨he, HCm.out _ ((HCb.out w' hS).trans (hb.mono (HCb.out w' hS).size))⟩)
  have HFt : Hid (∀ w', C w' → Calls Try.prog 31 #[.agg #[.int .i64 first, .int .i64 size], .int .i64 (n : Int)] w' fun e w'' => e = .returned (.bool true) ∧ C w'') :=
    Lib.hid fun w' hS => (slot_fits first size n w' hn hf0 hf1 hm0 hm1).mono (fun e w'' ⟨he, hb⟩ => ⟨by rw [he, HFE.out], HCm.out _ ((HCb.out w' hS).trans (hb.mono (HCb.out w' hS).size))⟩)
  have HCd : Hid (C { w0 with drawn := w0.drawn + 1 }) := Lib.hid (HCm.out _ (Below.refl _ _).drew)
  generalize hpe : w.heap.size = p at HC0 HC1 ⊢
  clear P0
  refine wp_region_quiet (C := C) (by kernel_rfl) (by kernel_rfl) HCd.out ?_
  show wpQuiet _ _ _ _ [_, _, _, _, _, _, _, _, _] _
  refine wpQuiet_step (fun K hK => ?_)
  go_simp
  first
    | (refine hK _ ?_; clear hK K)
    | (refine ⟨_, fun w hw => (by first | exact HL.out w hw | exact HFt.out w hw | exact rfl | exact ⟨rfl, rfl⟩), hK _ ?_⟩; clear hK K)
    | (refine ⟨.agg #[.int .i64 first, .int .i64 size], fun w hw => (by have c0 := HC0.out w hw; have c1 := HC1.out w hw; go_simp), hK _ ?_⟩; clear hK K)
  refine wpQuiet_step (fun K hK => ?_)
  go_simp
  first
    | (refine hK _ ?_; clear hK K)
    | (refine ⟨_, fun w hw => (by first | exact HL.out w hw | exact HFt.out w hw | exact rfl | exact ⟨rfl, rfl⟩), hK _ ?_⟩; clear hK K)
    | (refine ⟨.agg #[.int .i64 first, .int .i64 size], fun w hw => (by have c0 := HC0.out w hw; have c1 := HC1.out w hw; go_simp), hK _ ?_⟩; clear hK K)
  refine wpQuiet_step (fun K hK => ?_)
  go_simp
  first
    | (refine hK _ ?_; clear hK K)
    | (refine ⟨_, fun w hw => (by first | exact HL.out w hw | exact HFt.out w hw | exact rfl | exact ⟨rfl, rfl⟩), hK _ ?_⟩; clear hK K)
    | (refine ⟨.agg #[.int .i64 first, .int .i64 size], fun w hw => (by have c0 := HC0.out w hw; have c1 := HC1.out w hw; go_simp), hK _ ?_⟩; clear hK K)
  refine wpQuiet_step (fun K hK => ?_)
  go_simp
  first
    | (refine hK _ ?_; clear hK K)
    | (refine ⟨_, fun w hw => (by first | exact HL.out w hw | exact HFt.out w hw | exact rfl | exact ⟨rfl, rfl⟩), hK _ ?_⟩; clear hK K)
    | (refine ⟨.agg #[.int .i64 first, .int .i64 size], fun w hw => (by have c0 := HC0.out w hw; have c1 := HC1.out w hw; go_simp), hK _ ?_⟩; clear hK K)
  refine wpQuiet_step (fun K hK => ?_)
  go_simp
  first
    | (refine hK _ ?_; clear hK K)
    | (refine ⟨_, fun w hw => (by first | exact HL.out w hw | exact HFt.out w hw | exact rfl | exact ⟨rfl, rfl⟩), hK _ ?_⟩; clear hK K)
    | (refine ⟨.agg #[.int .i64 first, .int .i64 size], fun w hw => (by have c0 := HC0.out w hw; have c1 := HC1.out w hw; go_simp), hK _ ?_⟩; clear hK K)
  refine wpQuiet_step (fun K hK => ?_)
  go_simp
  first
    | (refine hK _ ?_; clear hK K)
    | (refine ⟨_, fun w hw => (by first | exact HL.out w hw | exact HFt.out w hw | exact rfl | exact ⟨rfl, rfl⟩), hK _ ?_⟩; clear hK K)
    | (refine ⟨.agg #[.int .i64 first, .int .i64 size], fun w hw => (by have c0 := HC0.out w hw; have c1 := HC1.out w hw; go_simp), hK _ ?_⟩; clear hK K)
  refine wpQuiet_step (fun K hK => ?_)
  go_simp
  first
    | (refine hK _ ?_; clear hK K)
    | (refine ⟨_, fun w hw => (by first | exact HL.out w hw | exact HFt.out w hw | exact rfl | exact ⟨rfl, rfl⟩), hK _ ?_⟩; clear hK K)
    | (refine ⟨.agg #[.int .i64 first, .int .i64 size], fun w hw => (by have c0 := HC0.out w hw; have c1 := HC1.out w hw; go_simp), hK _ ?_⟩; clear hK K)
  refine wpQuiet_step (fun K hK => ?_)
  go_simp
  first
    | (refine hK _ ?_; clear hK K)
    | (refine ⟨_, fun w hw => (by first | exact HL.out w hw | exact HFt.out w hw | exact rfl | exact ⟨rfl, rfl⟩), hK _ ?_⟩; clear hK K)
    | (refine ⟨.agg #[.int .i64 first, .int .i64 size], fun w hw => (by have c0 := HC0.out w hw; have c1 := HC1.out w hw; go_simp), hK _ ?_⟩; clear hK K)
  refine wpQuiet_step (fun K hK => ?_)
  go_simp
  first
    | (refine hK _ ?_; clear hK K)
    | (refine ⟨_, fun w hw => (by first | exact HL.out w hw | exact HFt.out w hw | exact rfl | exact ⟨rfl, rfl⟩), hK _ ?_⟩; clear hK K)
    | (refine ⟨.agg #[.int .i64 first, .int .i64 size], fun w hw => (by have c0 := HC0.out w hw; have c1 := HC1.out w hw; go_simp), hK _ ?_⟩; clear hK K)
  refine wpQuiet_nil (fun w2 hw2 => ?_)
  have hb2 := HCb.out w2 hw2
  have c0 := HC0.out w2 hw2
  have c1 := HC1.out w2 hw2
  clear HL HFt HCd
  go_wp2_with fail
  go_ret
  exact ⟨rfl, below_two HB0.out hb2⟩


/-- what the loop over a checkpoint's frames keeps: B the number of blocks when they were cut -/
structure SLp (H : World → (Nat → Prop) → Value → D.Dk → Prop) (w : World) (F : Nat → Prop) (B : Nat) (va : Addr) (d : D.Dk) (base size gen : Nat) (rec : List UInt8) (vf : Value) (k : Nat) (wr : World) : Prop where
  ex : ∃ Fd, H wr Fd (.pointer (some va)) (G.lay base size d (G.firsts gen 0 rec k)) ∧ (∀ b, Fd b → F b ∨ (B ≤ b ∧ b < wr.heap.size))
  fr : Frs wr (fun b => w.heap.size ≤ b ∧ b < B) vf (R.cut gen 0 rec)
  turn : Turn F w wr
  B0 : w.heap.size ≤ B
  B1 : B ≤ wr.heap.size

section
variable {H : World → (Nat → Prop) → Value → D.Dk → Prop}

set_option maxRecDepth 100000 in
set_option maxHeartbeats 4000000 in
theorem save_more (K : DiskOk H) (KF : FrameOk) {w : World} {F : Nat → Prop} {va : Addr} {d : D.Dk} (h : H w F (.pointer (some va)) d) {firstN sizeN gen : Nat} (hm : Z.May d firstN sizeN) (hfn : firstN ≤ 1024) {Gb : Nat → Prop} {vb : Value} {rec : List UInt8} (hB : SlB w Gb vb rec) (hGb : ∀ b, Gb b → b < w.heap.size) (hl : rec.length ≤ 140737488355328) (hg1 : 1 ≤ gen) (hg : gen < 4294967296) (hrow : d.row.length + sizeN ≤ 1000) :
    Calls Try.prog 19 #[.pointer (some va), .agg #[.int .i64 (firstN : Int), .int .i64 (sizeN : Int)], .int .u32 (gen : Int), vb] w fun e w' => (sizeN < R.many rec.length ∧ e = .returned (.int .i64 3) ∧ Below w.heap.size w w') ∨ (R.many rec.length ≤ sizeN ∧ e = .returned (.int .i64 0) ∧ (∃ F', H w' F' (.pointer (some va)) (Z.save d firstN sizeN gen rec) ∧ ∀ b, F' b → F b ∨ S.New w w' b) ∧ Turn F w w') := by
  have HH := Lib.hid h
  have hn := (K.fit h).2.2
  have hlen := LenIs.of K h
  have hlt0 := K.lt h
  have HFE := Lib.hid (fits_may hm)
  have hs1 := hm.s1
  have hs2 := hm.s2
  have HM := Lib.hid hm
  have hslot := hm.slot (Nat.mod_lt gen (show 0 < 2 by decide))
  have HBd := Lib.hid hB
  obtain ⟨Ab, capb, rfl, hcb⟩ := Sg_form hB
  have HNl := Lib.hid (rfl : d.secs.length = d.secs.length)
  clear h hm hB
  obtain ⟨n, hnn⟩ : ∃ n, n = d.secs.length := ⟨_, rfl⟩
  rw [← hnn] at hn hlen HFE hslot
  clear hnn
  have hf0 : -9223372036854775808 ≤ (firstN : Int) := by omega
  have hf1 : (firstN : Int) ≤ 9223372036854775807 := by omega
  have hm0 : -9223372036854775808 ≤ (sizeN : Int) := by omega
  have hm1 : (sizeN : Int) ≤ 9223372036854775807 := by omega
  obtain ⟨vd, hvd⟩ : ∃ vd : Value, vd = .pointer (some va) := ⟨_, rfl⟩
  rw [← hvd] at hlen
  have hge : ((gen : Int) == 0) = false := by simp; omega
  have hge' : ¬ (gen : Int) = 0 := by omega
  have P0 := Bk.new w [.int .i64 (firstN : Int), .int .i64 (sizeN : Int)] 23 rfl
  have hb0 : Below w.heap.size w (w.alloc (.cells #[.int .i64 (firstN : Int), .int .i64 (sizeN : Int)] 23)) := (Below.refl _ _).alloc (Nat.le_refl _) _
  have hz0 : w.heap.size < (w.alloc (.cells #[.int .i64 (firstN : Int), .int .i64 (sizeN : Int)] 23)).heap.size := by simp
  have HLen := Lib.hid hlen
  clear hlen
  rw [hvd] at HLen
  subst hvd
  go_enter Try.func19, Try.ntmps19
  go_wp2_with fail
  generalize w.alloc (.cells #[.int .i64 (firstN : Int), .int .i64 (sizeN : Int)] 23) = w0 at *
  obtain ⟨C, hC⟩ : ∃ C : World → Prop, C = fun w' => Below w0.heap.size w0 w' := ⟨_, rfl⟩
  have HC0 : Hid (∀ w', C w' → w'.cell? ⟨w.heap.size, 0, none⟩ = some (.int .i64 (firstN : Int))) := Lib.hid fun w' hb => (P0.step (by rw [hC] at hb; exact hb)).cell 0 _ rfl
  have HC1 : Hid (∀ w', C w' → w'.cell? ⟨w.heap.size, 1, none⟩ = some (.int .i64 (sizeN : Int))) := Lib.hid fun w' hb => (P0.step (by rw [hC] at hb; exact hb)).cell 1 _ rfl
  have HCb : Hid (∀ w', C w' → Below w0.heap.size w0 w') := Lib.hid fun w' hb => by rw [hC] at hb; exact hb
  have HCm : Hid (∀ w', Below w0.heap.size w0 w' → C w') := Lib.hid fun w' hb => by rw [hC]; exact hb
  have HB0 : Hid (Below w.heap.size w w0) := Lib.hid hb0
  clear hC
  have HL : Hid (∀ w', C w' → Calls Try.prog 32 #[.pointer (some va)] w' fun e w'' => e = .returned (.int .i64 (n : Int)) ∧ C w'') :=
    Lib.hid fun w' hS => (HLen.out w' (below_two HB0.out (HCb.out w' hS))).mono (fun e w'' ⟨he, hb⟩ => ⟨he, HCm.out _ ((HCb.out w' hS).trans (hb.mono (HCb.out w' hS).size))⟩)
  have HFt : Hid (∀ w', C w' → Calls Try.prog 31 #[.agg #[.int .i64 (firstN : Int), .int .i64 (sizeN : Int)], .int .i64 (n : Int)] w' fun e w'' => e = .returned (.bool true) ∧ C w'') :=
    Lib.hid fun w' hS => (slot_fits (firstN : Int) (sizeN : Int) n w' hn hf0 hf1 hm0 hm1).mono (fun e w'' ⟨he, hb⟩ => ⟨by rw [he, HFE.out], HCm.out _ ((HCb.out w' hS).trans (hb.mono (HCb.out w' hS).size))⟩)
  have HCd : Hid (C { w0 with drawn := w0.drawn + 1 }) := Lib.hid (HCm.out _ (Below.refl _ _).drew)
  generalize hpe : w.heap.size = p at HC0 HC1 ⊢
  clear P0
  refine wp_region_quiet (C := C) (by kernel_rfl) (by kernel_rfl) HCd.out ?_
  show wpQuiet _ _ _ _ [_, _, _, _, _, _, _, _, _] _
  refine wpQuiet_step (fun K hK => ?_)
  go_simp
  first
    | (refine hK _ ?_; clear hK K)
    | (refine ⟨_, fun w hw => (by first | exact HL.out w hw | exact HFt.out w hw | exact rfl | exact ⟨rfl, rfl⟩), hK _ ?_⟩; clear hK K)
    | (refine ⟨.agg #[.int .i64 (firstN : Int), .int .i64 (sizeN : Int)], fun w hw => (by have c0 := HC0.out w hw; have c1 := HC1.out w hw; go_simp), hK _ ?_⟩; clear hK K)
  refine wpQuiet_step (fun K hK => ?_)
  go_simp
  first
    | (refine hK _ ?_; clear hK K)
    | (refine ⟨_, fun w hw => (by first | exact HL.out w hw | exact HFt.out w hw | exact rfl | exact ⟨rfl, rfl⟩), hK _ ?_⟩; clear hK K)
    | (refine ⟨.agg #[.int .i64 (firstN : Int), .int .i64 (sizeN : Int)], fun w hw => (by have c0 := HC0.out w hw; have c1 := HC1.out w hw; go_simp), hK _ ?_⟩; clear hK K)
  refine wpQuiet_step (fun K hK => ?_)
  go_simp
  first
    | (refine hK _ ?_; clear hK K)
    | (refine ⟨_, fun w hw => (by first | exact HL.out w hw | exact HFt.out w hw | exact rfl | exact ⟨rfl, rfl⟩), hK _ ?_⟩; clear hK K)
    | (refine ⟨.agg #[.int .i64 (firstN : Int), .int .i64 (sizeN : Int)], fun w hw => (by have c0 := HC0.out w hw; have c1 := HC1.out w hw; go_simp), hK _ ?_⟩; clear hK K)
  refine wpQuiet_step (fun K hK => ?_)
  go_simp
  first
    | (refine hK _ ?_; clear hK K)
    | (refine ⟨_, fun w hw => (by first | exact HL.out w hw | exact HFt.out w hw | exact rfl | exact ⟨rfl, rfl⟩), hK _ ?_⟩; clear hK K)
    | (refine ⟨.agg #[.int .i64 (firstN : Int), .int .i64 (sizeN : Int)], fun w hw => (by have c0 := HC0.out w hw; have c1 := HC1.out w hw; go_simp), hK _ ?_⟩; clear hK K)
  refine wpQuiet_step (fun K hK => ?_)
  go_simp
  first
    | (refine hK _ ?_; clear hK K)
    | (refine ⟨_, fun w hw => (by first | exact HL.out w hw | exact HFt.out w hw | exact rfl | exact ⟨rfl, rfl⟩), hK _ ?_⟩; clear hK K)
    | (refine ⟨.agg #[.int .i64 (firstN : Int), .int .i64 (sizeN : Int)], fun w hw => (by have c0 := HC0.out w hw; have c1 := HC1.out w hw; go_simp), hK _ ?_⟩; clear hK K)
  refine wpQuiet_step (fun K hK => ?_)
  go_simp
  first
    | (refine hK _ ?_; clear hK K)
    | (refine ⟨_, fun w hw => (by first | exact HL.out w hw | exact HFt.out w hw | exact rfl | exact ⟨rfl, rfl⟩), hK _ ?_⟩; clear hK K)
    | (refine ⟨.agg #[.int .i64 (firstN : Int), .int .i64 (sizeN : Int)], fun w hw => (by have c0 := HC0.out w hw; have c1 := HC1.out w hw; go_simp), hK _ ?_⟩; clear hK K)
  refine wpQuiet_step (fun K hK => ?_)
  go_simp
  first
    | (refine hK _ ?_; clear hK K)
    | (refine ⟨_, fun w hw => (by first | exact HL.out w hw | exact HFt.out w hw | exact rfl | exact ⟨rfl, rfl⟩), hK _ ?_⟩; clear hK K)
    | (refine ⟨.agg #[.int .i64 (firstN : Int), .int .i64 (sizeN : Int)], fun w hw => (by have c0 := HC0.out w hw; have c1 := HC1.out w hw; go_simp), hK _ ?_⟩; clear hK K)
  refine wpQuiet_step (fun K hK => ?_)
  go_simp
  first
    | (refine hK _ ?_; clear hK K)
    | (refine ⟨_, fun w hw => (by first | exact HL.out w hw | exact HFt.out w hw | exact rfl | exact ⟨rfl, rfl⟩), hK _ ?_⟩; clear hK K)
    | (refine ⟨.agg #[.int .i64 (firstN : Int), .int .i64 (sizeN : Int)], fun w hw => (by have c0 := HC0.out w hw; have c1 := HC1.out w hw; go_simp), hK _ ?_⟩; clear hK K)
  refine wpQuiet_step (fun K hK => ?_)
  go_simp
  first
    | (refine hK _ ?_; clear hK K)
    | (refine ⟨_, fun w hw => (by first | exact HL.out w hw | exact HFt.out w hw | exact rfl | exact ⟨rfl, rfl⟩), hK _ ?_⟩; clear hK K)
    | (refine ⟨.agg #[.int .i64 (firstN : Int), .int .i64 (sizeN : Int)], fun w hw => (by have c0 := HC0.out w hw; have c1 := HC1.out w hw; go_simp), hK _ ?_⟩; clear hK K)
  refine wpQuiet_nil (fun w2 hw2 => ?_)
  have hb2 := HCb.out w2 hw2
  have c0 := HC0.out w2 hw2
  have c1 := HC1.out w2 hw2
  clear HL HFt HCd
  have hbw2 := below_two HB0.out hb2
  have hC : Calls Try.prog 38 #[.int .u32 (gen : Int), .int .u32 0, .slice Ab rec.length capb] w2 fun e w' => ∃ v', e = .returned v' ∧ Frs w' (S.New w2 w') v' (R.cut gen 0 rec) ∧ Below w2.heap.size w2 w' := KF.cut gen 0 (HBd.out.below hbw2 hGb) (fun b g => Nat.lt_of_lt_of_le (hGb b g) hbw2.size) hg (by decide) hl
  have HC := Lib.hid hC
  clear hC c0 c1
  go_wp2_with fail
  refine HC.out.mono ?_
  rintro e w3 ⟨vf, rfl, hf3, hb3⟩
  have hs3 := hb3.size
  have hsw2 := hbw2.size
  have hbw3 := below_two hbw2 hb3
  have hw3C := HCm.out w3 (hb2.trans (hb3.mono hb2.size))
  have c0 := HC0.out w3 hw3C
  have c1 := HC1.out w3 hw3C
  have hcl := R.cut_len gen 0 rec
  obtain ⟨M, hM⟩ : ∃ M, M = R.many rec.length := ⟨_, rfl⟩
  rw [← hM] at hcl
  have HMM := Lib.hid hM
  have hM1 := R.many_pos rec.length
  rw [← hM] at hM1
  have hMb : M ≤ 140737488355329 := by rw [hM]; unfold R.many; split <;> omega
  obtain ⟨Af, capf, rfl, hcf⟩ : ∃ A cap, vf = .slice A M cap ∧ M ≤ cap := by
    obtain ⟨A, cap, e, hc, _⟩ := hf3
    rw [hcl] at e hc
    exact ⟨A, cap, e, hc⟩
  have HCL := Lib.hid hcl
  have HFS := Lib.hid (hf3.wider (G := fun b => w.heap.size ≤ b ∧ b < w3.heap.size) (fun b g => ⟨by have := g.1; omega, g.2⟩))
  clear HC hf3 hcl hM
  by_cases hfull : sizeN < M
  · have hfull' : (sizeN : Int) < (M : Int) := by omega
    go_wp2_with fail
    go_ret
    exact Or.inl ⟨by rw [← HMM.out]; exact hfull, rfl, hbw3⟩
  · have hfull' : ¬ (sizeN : Int) < (M : Int) := by omega
    obtain ⟨r, hr⟩ : ∃ r, r = gen % 2 := ⟨_, rfl⟩
    have hq1 : (gen : Int).tmod 2 = (r : Int) := by rw [Int.tmod_eq_emod_of_nonneg (by omega)]; omega
    have hq2 : (gen : Int) % 2 = (r : Int) := by omega
    have hr2 : r < 2 := by omega
    obtain ⟨bs, hbs⟩ : ∃ bs, bs = Z.at_ firstN sizeN r := ⟨_, rfl⟩
    rw [← hr, ← hbs] at hslot
    have HBS : Hid (bs = Z.at_ firstN sizeN (gen % 2)) := Lib.hid (by rw [hbs, hr])
    have hBg : Calls Try.prog 39 #[.agg #[.int .i64 (firstN : Int), .int .i64 (sizeN : Int)], .int .i64 (r : Int)] w3 fun e w' => e = .returned (.int .i64 (bs : Int)) ∧ Below w3.heap.size w3 w' := by
      rw [hbs]
      exact slot_begin firstN sizeN r w3 hfn hs2 hr2
    have HBg := Lib.hid hBg
    clear hr hbs hBg
    go_wp2_with fail
    refine HBg.out.mono ?_
    rintro e w4 ⟨rfl, hb4⟩
    have hs4 := hb4.size
    have hbw4 := below_two hbw3 hb4
    have HS : Hid (SLp H w F w3.heap.size va d bs sizeN gen rec (.slice Af M capf) 0 w4) := Lib.hid ⟨⟨F, K.below HH.out hbw4, fun b g => Or.inl g⟩, HFS.out.below hb4 (fun b g => g.2), Turn.of_below hbw4, by omega, hs4⟩
    clear HBg HFS c0 c1
    go_wp2_with fail
    go_loopw [39] (fun i wr => ∃ j : Nat, j ≤ M ∧ i = .int .i64 j ∧ SLp H w F w3.heap.size va d bs sizeN gen rec (.slice Af M capf) j wr) (fun i _ => M - (intOf i).toNat)
    case atStart => exact ⟨0, Nat.zero_le _, rfl, HS.out⟩
    case round =>
      clear HS
      obtain ⟨j, hj, rfl, ⟨Fd, hHd, hFd⟩, fr', trn, B0, B1⟩ := hrel
      by_cases hlt : j < M
      · have hlt' : (j : Int) < (M : Int) := by omega
        have hj0 : (0 : Int) ≤ (j : Int) := by omega
        have hcj : j < (R.cut gen 0 rec).length := by rw [HCL.out]; exact hlt
        obtain ⟨a, capa, vb5, e5, _, hFa, x0, X1, X2, X3, hb5⟩ := fr'.nth j hcj
        rw [HCL.out] at e5
        cases e5
        rw [R.cut_at] at x0 X1 X2 hb5
        have hnum : (R.frameOf gen 0 rec j).Num := ⟨hg, Nat.mod_lt _ (by decide)⟩
        have hfit := G.frameOf_fits gen 0 rec j
        have HAt := Lib.hid ((Z.seq_at (base := bs) (size := sizeN) gen (show j < R.many rec.length by rw [← HMM.out]; exact hlt) (by rw [← HMM.out]; omega) hs2).2)
        obtain ⟨g, hgg⟩ : ∃ g, g = R.frameOf gen 0 rec j := ⟨_, rfl⟩
        rw [← hgg] at x0 X1 X2 hb5 hnum hfit HAt
        have HG := Lib.hid hgg
        clear hgg
        obtain ⟨A5, cap5, rfl, hc5⟩ := Sg_form hb5
        have nG : ∀ b, (w.heap.size ≤ b ∧ b < w3.heap.size) → ¬ Fd b := fun b g f => (hFd b f).elim (fun f => by have := hlt0 b f; omega) (fun f => by omega)
        have hbA : Below wr.heap.size wr (wr.alloc (.cells #[.int .u32 (g.epoch : Int), .int .u32 (g.seq : Int), .int .u8 (g.flag.toNat : Int), .slice A5 g.body.length cap5] 77)) := (Below.refl _ _).alloc (Nat.le_refl _) _
        have hsA : (wr.alloc (.cells #[.int .u32 (g.epoch : Int), .int .u32 (g.seq : Int), .int .u8 (g.flag.toNat : Int), .slice A5 g.body.length cap5] 77)).heap.size = wr.heap.size + 1 := by simp
        have HPk := Lib.hid (KF.pack (w := wr.alloc (.cells #[.int .u32 (g.epoch : Int), .int .u32 (g.seq : Int), .int .u8 (g.flag.toNat : Int), .slice A5 g.body.length cap5] 77)) (v := .agg #[.int .u32 (g.epoch : Int), .int .u32 (g.seq : Int), .int .u8 (g.flag.toNat : Int), .slice A5 g.body.length cap5]) (f := g) ⟨_, rfl, hb5.below hbA (fun b g => by omega)⟩ (fun b g => by omega) hnum (by omega))
        have lsec : (R.sector g).length ≤ 64 := Nat.le_of_eq (R.sector_len hfit)
        rw [show packE g = 0 by rw [packE, if_pos hfit], show packB g = R.sector g by rw [packB, if_pos hfit]] at HPk
        obtain ⟨sec, hsec⟩ : ∃ sec, sec = R.sector g := ⟨_, rfl⟩
        rw [← hsec] at HPk lsec
        have HSec := Lib.hid hsec
        clear hsec hnum hfit
        obtain ⟨dk, hdk'⟩ : ∃ dk, dk = G.lay bs sizeN d (G.firsts gen 0 rec j) := ⟨_, rfl⟩
        have hdk : dk.row.length ≤ 1000 := by rw [hdk', G.firsts_row hs1 (by have := HM.out.slot (Nat.mod_lt gen (show 0 < 2 by decide)); rw [HBS.out]; exact this)]; omega
        rw [← hdk'] at hHd
        have HDE : Hid (dk.write ((bs : Int) + (j : Int)) sec = G.lay bs sizeN d (G.firsts gen 0 rec (j + 1))) := Lib.hid (by rw [G.firsts_succ, G.lay_snoc, ← hdk', ← HG.out, ← HSec.out, HAt.out, show ((bs + j : Nat) : Int) = (bs : Int) + (j : Int) by omega])
        clear hdk'
        have HHa := Lib.hid (K.below hHd hbA)
        have HFa := Lib.hid (fr'.below hbA (fun b g => by omega))
        have HTa := Lib.hid (trn.on hbA)
        clear hb5 hHd
        go_wp2_with fail
        refine HPk.out.mono ?_
        rintro e w5 ⟨vs, rfl, hsl5, hb5⟩
        clear HPk x0 X1 X2 X3 hbA fr'
        generalize wr.alloc (.cells #[.int .u32 (g.epoch : Int), .int .u32 (g.seq : Int), .int .u8 (g.flag.toNat : Int), .slice A5 g.body.length cap5] 77) = wa at *
        obtain ⟨A6, cap6, rfl, hc6⟩ := Sg_form hsl5
        have hs5 := hb5.size
        have HWr := Lib.hid (K.write (S.New wa w5) (.slice A6 sec.length cap6) sec ((bs : Int) + (j : Int)) (K.below HHa.out hb5) hsl5 (fun b g => g.2) hdk (by omega) (by omega) (by omega))
        rw [HDE.out] at HWr
        have HF5 := Lib.hid (HFa.out.below hb5 (fun b g => by omega))
        have HT5 := Lib.hid (HTa.out.on hb5)
        clear hsl5 HHa HFa HTa
        go_wp2_with fail
        refine HWr.out.mono ?_
        rintro e w6 ⟨rfl, hH6, ht6⟩
        have HNX : Hid (SLp H w F w3.heap.size va d bs sizeN gen rec (.slice (some a) M capf) (j + 1) w6) := Lib.hid (by
          have hs6 := ht6.size
          refine ⟨⟨More Fd w5 w6, hH6, ?_⟩, ?_, ?_, B0, by omega⟩
          · rintro b (g | g)
            · exact (hFd b g).imp id (fun g => ⟨g.1, by omega⟩)
            · exact Or.inr ⟨by have := g.1; omega, g.2⟩
          · exact HF5.out.keep (fun x hx => ht6.cell (by omega) (nG _ hx))
          · exact HT5.out.more ht6 (fun b hb g => (hFd b g).elim id (fun g => by omega)))
        clear hH6 ht6 HWr HF5 HT5
        go_wp2_with fail
        go_roundw
        case rel => exact ⟨j + 1, by omega, by go_num, HNX.out⟩
        case measure => simp [intOf]; omega
      · obtain rfl : M = j := by omega
        have hlt' : ¬ (M : Int) < (M : Int) := by omega
        have hst := trn.size
        have HE : Hid (∃ F', H wr F' (.pointer (some va)) (Z.save d firstN sizeN gen rec) ∧ ∀ b, F' b → F b ∨ S.New w wr b) := Lib.hid ⟨Fd, by
          have := hHd
          rw [show G.firsts gen 0 rec M = R.cut gen 0 rec by rw [HMM.out, G.firsts_all], HBS.out] at this
          exact this, fun b g => (hFd b g).imp id (fun g => ⟨by omega, g.2⟩)⟩
        clear hHd fr'
        go_wp2_with fail
        go_ret
        exact Or.inr ⟨by rw [← HMM.out]; omega, rfl, HE.out, trn⟩

/-- what Save tells, and how the disk is then, whatever ints say the area -/
def savE (d : D.Dk) (first size : Int) (gen : Nat) (rec : List UInt8) : Int := if fitsB d.secs.length first size = true ∧ gen ≠ 0 then (if R.many rec.length ≤ size.toNat then 0 else 3) else 1
def savD (d : D.Dk) (first size : Int) (gen : Nat) (rec : List UInt8) : D.Dk := if (fitsB d.secs.length first size = true ∧ gen ≠ 0) ∧ R.many rec.length ≤ size.toNat then Z.save d first.toNat size.toNat gen rec else d

theorem save_any (K : DiskOk H) (KF : FrameOk) {w : World} {F : Nat → Prop} {vd : Value} {d : D.Dk} (h : H w F vd d) {first size : Int} {gen : Nat} (hf0 : -9223372036854775808 ≤ first) (hf1 : first ≤ 9223372036854775807) (hm0 : -9223372036854775808 ≤ size) (hm1 : size ≤ 9223372036854775807) {Gb : Nat → Prop} {vb : Value} {rec : List UInt8} (hB : SlB w Gb vb rec) (hGb : ∀ b, Gb b → b < w.heap.size) (hl : rec.length ≤ 140737488355328) (hg : gen < 4294967296) (hrow : d.row.length + d.secs.length / 2 ≤ 1000) :
    Calls Try.prog 19 #[vd, .agg #[.int .i64 first, .int .i64 size], .int .u32 (gen : Int), vb] w fun e w' => e = .returned (.int .i64 (savE d first size gen rec)) ∧ (∃ F', H w' F' vd (savD d first size gen rec) ∧ ∀ b, F' b → F b ∨ S.New w w' b) ∧ Turn F w w' := by
  have hn := (K.fit h).2.2
  have hlen := LenIs.of K h
  have hsl : ∃ A m c, vb = .slice A m c := by obtain ⟨A, c, e, _⟩ := Sg_form hB; exact ⟨_, _, _, e⟩
  obtain ⟨va, rfl⟩ := K.ptr h
  by_cases hf : fitsB d.secs.length first size = true
  · by_cases h0 : gen = 0
    · subst h0
      refine (save_zero hsl hlen hn hf0 hf1 hm0 hm1 hf).mono ?_
      rintro e w' ⟨rfl, hb⟩
      rw [savE, if_neg (fun g => g.2 rfl), savD, if_neg (fun g => g.1.2 rfl)]
      exact ⟨rfl, ⟨F, K.below h hb, fun b g => Or.inl g⟩, Turn.of_below hb⟩
    · obtain ⟨f, s, rfl, rfl, hM, hf10⟩ := may_of hn hf
      have hs := hM.fits
      refine (save_more K KF h hM hf10 hB hGb hl (by omega) hg (by omega)).mono ?_
      unfold savE savD
      rw [if_pos ⟨hf, h0⟩, Int.toNat_natCast, Int.toNat_natCast]
      rintro e w' (⟨hlt, rfl, hb⟩ | ⟨hle, rfl, hx, ht⟩)
      · rw [if_neg (by omega), if_neg (fun g => by have := g.2; omega)]
        exact ⟨rfl, ⟨F, K.below h hb, fun b g => Or.inl g⟩, Turn.of_below hb⟩
      · rw [if_pos hle, if_pos ⟨⟨hf, h0⟩, hle⟩]
        exact ⟨rfl, hx, ht⟩
  · refine (save_out hsl hlen hn hf0 hf1 hm0 hm1 (by simpa using hf)).mono ?_
    rintro e w' ⟨rfl, hb⟩
    rw [savE, if_neg (fun g => hf g.1), savD, if_neg (fun g => hf g.1.1)]
    exact ⟨rfl, ⟨F, K.below h hb, fun b g => Or.inl g⟩, Turn.of_below hb⟩
theorem save_nil (w : World) {first size : Int} {gen : Nat} (hf0 : -9223372036854775808 ≤ first) (hf1 : first ≤ 9223372036854775807) (hm0 : -9223372036854775808 ≤ size) (hm1 : size ≤ 9223372036854775807) {vb : Value} (hvb : ∃ A m c, vb = .slice A m c) :
    Calls Try.prog 19 #[.pointer none, .agg #[.int .i64 first, .int .i64 size], .int .u32 (gen : Int), vb] w fun e w' => e = .returned (.int .i64 1) ∧ Below w.heap.size w w' :=
  save_out hvb (LenIs.nil w) (by decide) hf0 hf1 hm0 hm1 (decide_eq_false (by omega))
end

end Go.Proofs.Ytbjbnjpdackloaa
