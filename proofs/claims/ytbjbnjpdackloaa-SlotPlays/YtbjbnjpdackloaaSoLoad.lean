/-
  Package slot: areas that may not be; what is loaded.
-/
import Derived.Test.YtbjbnjpdackloaaSoOne
import Derived.Deep.QuietTactic
namespace Go.Proofs.Ytbjbnjpdackloaa
open Go.RowKit

/-- how many sectors a pointer's disk has -/
def LenIs (w : World) (vd : Value) (n : Nat) : Prop := ∀ w', Below w.heap.size w w' → Calls Try.prog 32 #[vd] w' fun e w'' => e = .returned (.int .i64 (n : Int)) ∧ Below w'.heap.size w' w''

theorem LenIs.of {H : World → (Nat → Prop) → Value → D.Dk → Prop} (K : DiskOk H) {w : World} {F : Nat → Prop} {vd : Value} {d : D.Dk} (h : H w F vd d) : LenIs w vd d.secs.length := fun _ hb => K.len (K.below h hb)
set_option maxRecDepth 100000 in
theorem LenIs.nil (w : World) : LenIs w (.pointer none) 0 := fun w' _ => by
  go_enter Try.func32, Try.ntmps32
  go_wp2
  go_ret
  exact ⟨rfl, Below.refl _ _⟩
theorem LenIs.below {w w' : World} {vd : Value} {n : Nat} (h : LenIs w vd n) (hb : Below w.heap.size w w') : LenIs w' vd n := fun w2 hb2 => h w2 (below_two hb hb2)

set_option maxRecDepth 100000 in
set_option maxHeartbeats 4000000 in
theorem one_out' {w : World} {vd : Value} {n : Nat} (hlen : LenIs w vd n) (hn : n ≤ 1024) {first size which : Int} (hf0 : -9223372036854775808 ≤ first) (hf1 : first ≤ 9223372036854775807) (hm0 : -9223372036854775808 ≤ size) (hm1 : size ≤ 9223372036854775807) (hno : fitsB n first size = false) :
    Calls Try.prog 16 #[vd, .agg #[.int .i64 first, .int .i64 size], .int .i64 which] w (Tell w none) := by
  have P0 := Bk.new w [.int .i64 first, .int .i64 size] 23 rfl
  have hb0 : Below w.heap.size w (w.alloc (.cells #[.int .i64 first, .int .i64 size] 23)) := (Below.refl _ _).alloc (Nat.le_refl _) _
  have hz0 : w.heap.size < (w.alloc (.cells #[.int .i64 first, .int .i64 size] 23)).heap.size := by simp
  have HLen := Lib.hid hlen
  clear hlen
  have HFE := Lib.hid hno
  clear hno
  go_enter Try.func16, Try.ntmps16
  go_wp2_with fail
  generalize w.alloc (.cells #[.int .i64 first, .int .i64 size] 23) = w0 at *
  obtain ⟨C, hC⟩ : ∃ C : World → Prop, C = fun w' => Below w0.heap.size w0 w' := ⟨_, rfl⟩
  have HC0 : Hid (∀ w', C w' → w'.cell? ⟨w.heap.size, 0, none⟩ = some (.int .i64 first)) := Lib.hid fun w' hb => (P0.step (by rw [hC] at hb; exact hb)).cell 0 _ rfl
  have HC1 : Hid (∀ w', C w' → w'.cell? ⟨w.heap.size, 1, none⟩ = some (.int .i64 size)) := Lib.hid fun w' hb => (P0.step (by rw [hC] at hb; exact hb)).cell 1 _ rfl
  have HCb : Hid (∀ w', C w' → Below w0.heap.size w0 w') := Lib.hid fun w' hb => by rw [hC] at hb; exact hb
  have HCm : Hid (∀ w', Below w0.heap.size w0 w' → C w') := Lib.hid fun w' hb => by rw [hC]; exact hb
  have HB0 : Hid (Below w.heap.size w w0) := Lib.hid hb0
  clear hC
  have HL : Hid (∀ w', C w' → Calls Try.prog 32 #[vd] w' fun e w'' => e = .returned (.int .i64 (n : Int)) ∧ C w'') :=
    Lib.hid fun w' hS => (HLen.out w' (below_two HB0.out (HCb.out w' hS))).mono (fun e w'' ⟨he, hb⟩ => ⟨he, HCm.out _ ((HCb.out w' hS).trans (hb.mono (HCb.out w' hS).size))⟩)
  have HFt : Hid (∀ w', C w' → Calls Try.prog 31 #[.agg #[.int .i64 first, .int .i64 size], .int .i64 (n : Int)] w' fun e w'' => e = .returned (.bool false) ∧ C w'') :=
    Lib.hid fun w' hS => (slot_fits first size n w' hn hf0 hf1 hm0 hm1).mono (fun e w'' ⟨he, hb⟩ => ⟨by rw [he, HFE.out], HCm.out _ ((HCb.out w' hS).trans (hb.mono (HCb.out w' hS).size))⟩)
  have HCd : Hid (C { w0 with drawn := w0.drawn + 1 }) := Lib.hid (HCm.out _ (Below.refl _ _).drew)
  generalize hpe : w.heap.size = p at HC0 HC1 ⊢
  clear P0
  refine wp_region_quiet (C := C) (by kernel_rfl) (by kernel_rfl) HCd.out ?_
  show wpQuiet _ _ _ _ [_, _, _, _, _, _, _, _, _, _, _, _, _] _
  refine wpQuiet_step (fun K hK => ?_)
  go_simp
  first
    | (refine hK _ ?_; clear hK K)
    | (refine ⟨_, fun w hw => (by first | exact HL.out w hw | exact HFt.out w hw | exact rfl | exact ⟨rfl, rfl⟩), hK _ ?_⟩; clear hK K)
    | (refine ⟨.agg #[.int .i64 first, .int .i64 size], fun w hw => (by have c0 := HC0.out w hw; have c1 := HC1.out w hw; go_simp), hK _ ?_⟩; clear hK K)
  refine wpQuiet_step (fun K hK => ?_)
  go_simp
  first
    | (refine hK _ ?_; clear hK K)
    | (refine ⟨_, fun w hw => (by first | exact HL.out w hw | exact HFt.out w hw | exact rfl | exact ⟨rfl, rfl⟩), hK _ ?_⟩; clear hK K)
    | (refine ⟨.agg #[.int .i64 first, .int .i64 size], fun w hw => (by have c0 := HC0.out w hw; have c1 := HC1.out w hw; go_simp), hK _ ?_⟩; clear hK K)
  refine wpQuiet_step (fun K hK => ?_)
  go_simp
  first
    | (refine hK _ ?_; clear hK K)
    | (refine ⟨_, fun w hw => (by first | exact HL.out w hw | exact HFt.out w hw | exact rfl | exact ⟨rfl, rfl⟩), hK _ ?_⟩; clear hK K)
    | (refine ⟨.agg #[.int .i64 first, .int .i64 size], fun w hw => (by have c0 := HC0.out w hw; have c1 := HC1.out w hw; go_simp), hK _ ?_⟩; clear hK K)
  refine wpQuiet_step (fun K hK => ?_)
  go_simp
  first
    | (refine hK _ ?_; clear hK K)
    | (refine ⟨_, fun w hw => (by first | exact HL.out w hw | exact HFt.out w hw | exact rfl | exact ⟨rfl, rfl⟩), hK _ ?_⟩; clear hK K)
    | (refine ⟨.agg #[.int .i64 first, .int .i64 size], fun w hw => (by have c0 := HC0.out w hw; have c1 := HC1.out w hw; go_simp), hK _ ?_⟩; clear hK K)
  refine wpQuiet_step (fun K hK => ?_)
  go_simp
  first
    | (refine hK _ ?_; clear hK K)
    | (refine ⟨_, fun w hw => (by first | exact HL.out w hw | exact HFt.out w hw | exact rfl | exact ⟨rfl, rfl⟩), hK _ ?_⟩; clear hK K)
    | (refine ⟨.agg #[.int .i64 first, .int .i64 size], fun w hw => (by have c0 := HC0.out w hw; have c1 := HC1.out w hw; go_simp), hK _ ?_⟩; clear hK K)
  refine wpQuiet_step (fun K hK => ?_)
  go_simp
  first
    | (refine hK _ ?_; clear hK K)
    | (refine ⟨_, fun w hw => (by first | exact HL.out w hw | exact HFt.out w hw | exact rfl | exact ⟨rfl, rfl⟩), hK _ ?_⟩; clear hK K)
    | (refine ⟨.agg #[.int .i64 first, .int .i64 size], fun w hw => (by have c0 := HC0.out w hw; have c1 := HC1.out w hw; go_simp), hK _ ?_⟩; clear hK K)
  refine wpQuiet_step (fun K hK => ?_)
  go_simp
  first
    | (refine hK _ ?_; clear hK K)
    | (refine ⟨_, fun w hw => (by first | exact HL.out w hw | exact HFt.out w hw | exact rfl | exact ⟨rfl, rfl⟩), hK _ ?_⟩; clear hK K)
    | (refine ⟨.agg #[.int .i64 first, .int .i64 size], fun w hw => (by have c0 := HC0.out w hw; have c1 := HC1.out w hw; go_simp), hK _ ?_⟩; clear hK K)
  refine wpQuiet_step (fun K hK => ?_)
  go_simp
  first
    | (refine hK _ ?_; clear hK K)
    | (refine ⟨_, fun w hw => (by first | exact HL.out w hw | exact HFt.out w hw | exact rfl | exact ⟨rfl, rfl⟩), hK _ ?_⟩; clear hK K)
    | (refine ⟨.agg #[.int .i64 first, .int .i64 size], fun w hw => (by have c0 := HC0.out w hw; have c1 := HC1.out w hw; go_simp), hK _ ?_⟩; clear hK K)
  refine wpQuiet_step (fun K hK => ?_)
  go_simp
  first
    | (refine hK _ ?_; clear hK K)
    | (refine ⟨_, fun w hw => (by first | exact HL.out w hw | exact HFt.out w hw | exact rfl | exact ⟨rfl, rfl⟩), hK _ ?_⟩; clear hK K)
    | (refine ⟨.agg #[.int .i64 first, .int .i64 size], fun w hw => (by have c0 := HC0.out w hw; have c1 := HC1.out w hw; go_simp), hK _ ?_⟩; clear hK K)
  refine wpQuiet_step (fun K hK => ?_)
  go_simp
  first
    | (refine hK _ ?_; clear hK K)
    | (refine ⟨_, fun w hw => (by first | exact HL.out w hw | exact HFt.out w hw | exact rfl | exact ⟨rfl, rfl⟩), hK _ ?_⟩; clear hK K)
    | (refine ⟨.agg #[.int .i64 first, .int .i64 size], fun w hw => (by have c0 := HC0.out w hw; have c1 := HC1.out w hw; go_simp), hK _ ?_⟩; clear hK K)
  refine wpQuiet_step (fun K hK => ?_)
  go_simp
  first
    | (refine hK _ ?_; clear hK K)
    | (refine ⟨_, fun w hw => (by first | exact HL.out w hw | exact HFt.out w hw | exact rfl | exact ⟨rfl, rfl⟩), hK _ ?_⟩; clear hK K)
    | (refine ⟨.agg #[.int .i64 first, .int .i64 size], fun w hw => (by have c0 := HC0.out w hw; have c1 := HC1.out w hw; go_simp), hK _ ?_⟩; clear hK K)
  refine wpQuiet_step (fun K hK => ?_)
  go_simp
  first
    | (refine hK _ ?_; clear hK K)
    | (refine ⟨_, fun w hw => (by first | exact HL.out w hw | exact HFt.out w hw | exact rfl | exact ⟨rfl, rfl⟩), hK _ ?_⟩; clear hK K)
    | (refine ⟨.agg #[.int .i64 first, .int .i64 size], fun w hw => (by have c0 := HC0.out w hw; have c1 := HC1.out w hw; go_simp), hK _ ?_⟩; clear hK K)
  refine wpQuiet_step (fun K hK => ?_)
  go_simp
  first
    | (refine hK _ ?_; clear hK K)
    | (refine ⟨_, fun w hw => (by first | exact HL.out w hw | exact HFt.out w hw | exact rfl | exact ⟨rfl, rfl⟩), hK _ ?_⟩; clear hK K)
    | (refine ⟨.agg #[.int .i64 first, .int .i64 size], fun w hw => (by have c0 := HC0.out w hw; have c1 := HC1.out w hw; go_simp), hK _ ?_⟩; clear hK K)
  refine wpQuiet_nil (fun w2 hw2 => ?_)
  have hb2 := HCb.out w2 hw2
  have c0 := HC0.out w2 hw2
  have c1 := HC1.out w2 hw2
  clear HL HFt HCd
  go_wp2_with fail
  go_ret3
  exact ⟨.slice none 0 0, rfl, S.Sg.nil _ _ _ _ _, below_two HB0.out hb2⟩

set_option maxRecDepth 100000 in
set_option maxHeartbeats 4000000 in
theorem one_neg {w : World} {vd : Value} {n : Nat} (hlen : LenIs w vd n) (hn : n ≤ 1024) {first size which : Int} (hf0 : -9223372036854775808 ≤ first) (hf1 : first ≤ 9223372036854775807) (hm0 : -9223372036854775808 ≤ size) (hm1 : size ≤ 9223372036854775807) (hno : fitsB n first size = true) (hw : which < 0) :
    Calls Try.prog 16 #[vd, .agg #[.int .i64 first, .int .i64 size], .int .i64 which] w (Tell w none) := by
  have P0 := Bk.new w [.int .i64 first, .int .i64 size] 23 rfl
  have hb0 : Below w.heap.size w (w.alloc (.cells #[.int .i64 first, .int .i64 size] 23)) := (Below.refl _ _).alloc (Nat.le_refl _) _
  have hz0 : w.heap.size < (w.alloc (.cells #[.int .i64 first, .int .i64 size] 23)).heap.size := by simp
  have HLen := Lib.hid hlen
  clear hlen
  have HFE := Lib.hid hno
  clear hno
  go_enter Try.func16, Try.ntmps16
  go_wp2_with fail
  generalize w.alloc (.cells #[.int .i64 first, .int .i64 size] 23) = w0 at *
  obtain ⟨C, hC⟩ : ∃ C : World → Prop, C = fun w' => Below w0.heap.size w0 w' := ⟨_, rfl⟩
  have HC0 : Hid (∀ w', C w' → w'.cell? ⟨w.heap.size, 0, none⟩ = some (.int .i64 first)) := Lib.hid fun w' hb => (P0.step (by rw [hC] at hb; exact hb)).cell 0 _ rfl
  have HC1 : Hid (∀ w', C w' → w'.cell? ⟨w.heap.size, 1, none⟩ = some (.int .i64 size)) := Lib.hid fun w' hb => (P0.step (by rw [hC] at hb; exact hb)).cell 1 _ rfl
  have HCb : Hid (∀ w', C w' → Below w0.heap.size w0 w') := Lib.hid fun w' hb => by rw [hC] at hb; exact hb
  have HCm : Hid (∀ w', Below w0.heap.size w0 w' → C w') := Lib.hid fun w' hb => by rw [hC]; exact hb
  have HB0 : Hid (Below w.heap.size w w0) := Lib.hid hb0
  clear hC
  have HL : Hid (∀ w', C w' → Calls Try.prog 32 #[vd] w' fun e w'' => e = .returned (.int .i64 (n : Int)) ∧ C w'') :=
    Lib.hid fun w' hS => (HLen.out w' (below_two HB0.out (HCb.out w' hS))).mono (fun e w'' ⟨he, hb⟩ => ⟨he, HCm.out _ ((HCb.out w' hS).trans (hb.mono (HCb.out w' hS).size))⟩)
  have HFt : Hid (∀ w', C w' → Calls Try.prog 31 #[.agg #[.int .i64 first, .int .i64 size], .int .i64 (n : Int)] w' fun e w'' => e = .returned (.bool true) ∧ C w'') :=
    Lib.hid fun w' hS => (slot_fits first size n w' hn hf0 hf1 hm0 hm1).mono (fun e w'' ⟨he, hb⟩ => ⟨by rw [he, HFE.out], HCm.out _ ((HCb.out w' hS).trans (hb.mono (HCb.out w' hS).size))⟩)
  have HCd : Hid (C { w0 with drawn := w0.drawn + 1 }) := Lib.hid (HCm.out _ (Below.refl _ _).drew)
  generalize hpe : w.heap.size = p at HC0 HC1 ⊢
  clear P0
  refine wp_region_quiet (C := C) (by kernel_rfl) (by kernel_rfl) HCd.out ?_
  show wpQuiet _ _ _ _ [_, _, _, _, _, _, _, _, _, _, _, _, _] _
  refine wpQuiet_step (fun K hK => ?_)
  go_simp
  first
    | (refine hK _ ?_; clear hK K)
    | (refine ⟨_, fun w hw => (by first | exact HL.out w hw | exact HFt.out w hw | exact rfl | exact ⟨rfl, rfl⟩), hK _ ?_⟩; clear hK K)
    | (refine ⟨.agg #[.int .i64 first, .int .i64 size], fun w hw => (by have c0 := HC0.out w hw; have c1 := HC1.out w hw; go_simp), hK _ ?_⟩; clear hK K)
  refine wpQuiet_step (fun K hK => ?_)
  go_simp
  first
    | (refine hK _ ?_; clear hK K)
    | (refine ⟨_, fun w hw => (by first | exact HL.out w hw | exact HFt.out w hw | exact rfl | exact ⟨rfl, rfl⟩), hK _ ?_⟩; clear hK K)
    | (refine ⟨.agg #[.int .i64 first, .int .i64 size], fun w hw => (by have c0 := HC0.out w hw; have c1 := HC1.out w hw; go_simp), hK _ ?_⟩; clear hK K)
  refine wpQuiet_step (fun K hK => ?_)
  go_simp
  first
    | (refine hK _ ?_; clear hK K)
    | (refine ⟨_, fun w hw => (by first | exact HL.out w hw | exact HFt.out w hw | exact rfl | exact ⟨rfl, rfl⟩), hK _ ?_⟩; clear hK K)
    | (refine ⟨.agg #[.int .i64 first, .int .i64 size], fun w hw => (by have c0 := HC0.out w hw; have c1 := HC1.out w hw; go_simp), hK _ ?_⟩; clear hK K)
  refine wpQuiet_step (fun K hK => ?_)
  go_simp
  first
    | (refine hK _ ?_; clear hK K)
    | (refine ⟨_, fun w hw => (by first | exact HL.out w hw | exact HFt.out w hw | exact rfl | exact ⟨rfl, rfl⟩), hK _ ?_⟩; clear hK K)
    | (refine ⟨.agg #[.int .i64 first, .int .i64 size], fun w hw => (by have c0 := HC0.out w hw; have c1 := HC1.out w hw; go_simp), hK _ ?_⟩; clear hK K)
  refine wpQuiet_step (fun K hK => ?_)
  go_simp
  first
    | (refine hK _ ?_; clear hK K)
    | (refine ⟨_, fun w hw => (by first | exact HL.out w hw | exact HFt.out w hw | exact rfl | exact ⟨rfl, rfl⟩), hK _ ?_⟩; clear hK K)
    | (refine ⟨.agg #[.int .i64 first, .int .i64 size], fun w hw => (by have c0 := HC0.out w hw; have c1 := HC1.out w hw; go_simp), hK _ ?_⟩; clear hK K)
  refine wpQuiet_step (fun K hK => ?_)
  go_simp
  first
    | (refine hK _ ?_; clear hK K)
    | (refine ⟨_, fun w hw => (by first | exact HL.out w hw | exact HFt.out w hw | exact rfl | exact ⟨rfl, rfl⟩), hK _ ?_⟩; clear hK K)
    | (refine ⟨.agg #[.int .i64 first, .int .i64 size], fun w hw => (by have c0 := HC0.out w hw; have c1 := HC1.out w hw; go_simp), hK _ ?_⟩; clear hK K)
  refine wpQuiet_step (fun K hK => ?_)
  go_simp
  first
    | (refine hK _ ?_; clear hK K)
    | (refine ⟨_, fun w hw => (by first | exact HL.out w hw | exact HFt.out w hw | exact rfl | exact ⟨rfl, rfl⟩), hK _ ?_⟩; clear hK K)
    | (refine ⟨.agg #[.int .i64 first, .int .i64 size], fun w hw => (by have c0 := HC0.out w hw; have c1 := HC1.out w hw; go_simp), hK _ ?_⟩; clear hK K)
  refine wpQuiet_step (fun K hK => ?_)
  go_simp
  first
    | (refine hK _ ?_; clear hK K)
    | (refine ⟨_, fun w hw => (by first | exact HL.out w hw | exact HFt.out w hw | exact rfl | exact ⟨rfl, rfl⟩), hK _ ?_⟩; clear hK K)
    | (refine ⟨.agg #[.int .i64 first, .int .i64 size], fun w hw => (by have c0 := HC0.out w hw; have c1 := HC1.out w hw; go_simp), hK _ ?_⟩; clear hK K)
  refine wpQuiet_step (fun K hK => ?_)
  go_simp
  first
    | (refine hK _ ?_; clear hK K)
    | (refine ⟨_, fun w hw => (by first | exact HL.out w hw | exact HFt.out w hw | exact rfl | exact ⟨rfl, rfl⟩), hK _ ?_⟩; clear hK K)
    | (refine ⟨.agg #[.int .i64 first, .int .i64 size], fun w hw => (by have c0 := HC0.out w hw; have c1 := HC1.out w hw; go_simp), hK _ ?_⟩; clear hK K)
  refine wpQuiet_step (fun K hK => ?_)
  go_simp
  first
    | (refine hK _ ?_; clear hK K)
    | (refine ⟨_, fun w hw => (by first | exact HL.out w hw | exact HFt.out w hw | exact rfl | exact ⟨rfl, rfl⟩), hK _ ?_⟩; clear hK K)
    | (refine ⟨.agg #[.int .i64 first, .int .i64 size], fun w hw => (by have c0 := HC0.out w hw; have c1 := HC1.out w hw; go_simp), hK _ ?_⟩; clear hK K)
  refine wpQuiet_step (fun K hK => ?_)
  go_simp
  first
    | (refine hK _ ?_; clear hK K)
    | (refine ⟨_, fun w hw => (by first | exact HL.out w hw | exact HFt.out w hw | exact rfl | exact ⟨rfl, rfl⟩), hK _ ?_⟩; clear hK K)
    | (refine ⟨.agg #[.int .i64 first, .int .i64 size], fun w hw => (by have c0 := HC0.out w hw; have c1 := HC1.out w hw; go_simp), hK _ ?_⟩; clear hK K)
  refine wpQuiet_step (fun K hK => ?_)
  go_simp
  first
    | (refine hK _ ?_; clear hK K)
    | (refine ⟨_, fun w hw => (by first | exact HL.out w hw | exact HFt.out w hw | exact rfl | exact ⟨rfl, rfl⟩), hK _ ?_⟩; clear hK K)
    | (refine ⟨.agg #[.int .i64 first, .int .i64 size], fun w hw => (by have c0 := HC0.out w hw; have c1 := HC1.out w hw; go_simp), hK _ ?_⟩; clear hK K)
  refine wpQuiet_step (fun K hK => ?_)
  go_simp
  first
    | (refine hK _ ?_; clear hK K)
    | (refine ⟨_, fun w hw => (by first | exact HL.out w hw | exact HFt.out w hw | exact rfl | exact ⟨rfl, rfl⟩), hK _ ?_⟩; clear hK K)
    | (refine ⟨.agg #[.int .i64 first, .int .i64 size], fun w hw => (by have c0 := HC0.out w hw; have c1 := HC1.out w hw; go_simp), hK _ ?_⟩; clear hK K)
  refine wpQuiet_nil (fun w2 hw2 => ?_)
  have hb2 := HCb.out w2 hw2
  have c0 := HC0.out w2 hw2
  have c1 := HC1.out w2 hw2
  clear HL HFt HCd
  go_wp2_with fail
  go_ret3
  exact ⟨.slice none 0 0, rfl, S.Sg.nil _ _ _ _ _, below_two HB0.out hb2⟩

set_option maxRecDepth 100000 in
set_option maxHeartbeats 4000000 in
theorem one_big {w : World} {vd : Value} {n : Nat} (hlen : LenIs w vd n) (hn : n ≤ 1024) {first size which : Int} (hf0 : -9223372036854775808 ≤ first) (hf1 : first ≤ 9223372036854775807) (hm0 : -9223372036854775808 ≤ size) (hm1 : size ≤ 9223372036854775807) (hno : fitsB n first size = true) (hw : 1 < which) :
    Calls Try.prog 16 #[vd, .agg #[.int .i64 first, .int .i64 size], .int .i64 which] w (Tell w none) := by
  have P0 := Bk.new w [.int .i64 first, .int .i64 size] 23 rfl
  have hb0 : Below w.heap.size w (w.alloc (.cells #[.int .i64 first, .int .i64 size] 23)) := (Below.refl _ _).alloc (Nat.le_refl _) _
  have hz0 : w.heap.size < (w.alloc (.cells #[.int .i64 first, .int .i64 size] 23)).heap.size := by simp
  have HLen := Lib.hid hlen
  clear hlen
  have HFE := Lib.hid hno
  clear hno
  have hw0 : ¬ which < 0 := by omega
  go_enter Try.func16, Try.ntmps16
  go_wp2_with fail
  generalize w.alloc (.cells #[.int .i64 first, .int .i64 size] 23) = w0 at *
  obtain ⟨C, hC⟩ : ∃ C : World → Prop, C = fun w' => Below w0.heap.size w0 w' := ⟨_, rfl⟩
  have HC0 : Hid (∀ w', C w' → w'.cell? ⟨w.heap.size, 0, none⟩ = some (.int .i64 first)) := Lib.hid fun w' hb => (P0.step (by rw [hC] at hb; exact hb)).cell 0 _ rfl
  have HC1 : Hid (∀ w', C w' → w'.cell? ⟨w.heap.size, 1, none⟩ = some (.int .i64 size)) := Lib.hid fun w' hb => (P0.step (by rw [hC] at hb; exact hb)).cell 1 _ rfl
  have HCb : Hid (∀ w', C w' → Below w0.heap.size w0 w') := Lib.hid fun w' hb => by rw [hC] at hb; exact hb
  have HCm : Hid (∀ w', Below w0.heap.size w0 w' → C w') := Lib.hid fun w' hb => by rw [hC]; exact hb
  have HB0 : Hid (Below w.heap.size w w0) := Lib.hid hb0
  clear hC
  have HL : Hid (∀ w', C w' → Calls Try.prog 32 #[vd] w' fun e w'' => e = .returned (.int .i64 (n : Int)) ∧ C w'') :=
    Lib.hid fun w' hS => (HLen.out w' (below_two HB0.out (HCb.out w' hS))).mono (fun e w'' ⟨he, hb⟩ => ⟨he, HCm.out _ ((HCb.out w' hS).trans (hb.mono (HCb.out w' hS).size))⟩)
  have HFt : Hid (∀ w', C w' → Calls Try.prog 31 #[.agg #[.int .i64 first, .int .i64 size], .int .i64 (n : Int)] w' fun e w'' => e = .returned (.bool true) ∧ C w'') :=
    Lib.hid fun w' hS => (slot_fits first size n w' hn hf0 hf1 hm0 hm1).mono (fun e w'' ⟨he, hb⟩ => ⟨by rw [he, HFE.out], HCm.out _ ((HCb.out w' hS).trans (hb.mono (HCb.out w' hS).size))⟩)
  have HCd : Hid (C { w0 with drawn := w0.drawn + 1 }) := Lib.hid (HCm.out _ (Below.refl _ _).drew)
  generalize hpe : w.heap.size = p at HC0 HC1 ⊢
  clear P0
  refine wp_region_quiet (C := C) (by kernel_rfl) (by kernel_rfl) HCd.out ?_
  show wpQuiet _ _ _ _ [_, _, _, _, _, _, _, _, _, _, _, _, _] _
  refine wpQuiet_step (fun K hK => ?_)
  go_simp
  first
    | (refine hK _ ?_; clear hK K)
    | (refine ⟨_, fun w hw => (by first | exact HL.out w hw | exact HFt.out w hw | exact rfl | exact ⟨rfl, rfl⟩), hK _ ?_⟩; clear hK K)
    | (refine ⟨.agg #[.int .i64 first, .int .i64 size], fun w hw => (by have c0 := HC0.out w hw; have c1 := HC1.out w hw; go_simp), hK _ ?_⟩; clear hK K)
  refine wpQuiet_step (fun K hK => ?_)
  go_simp
  first
    | (refine hK _ ?_; clear hK K)
    | (refine ⟨_, fun w hw => (by first | exact HL.out w hw | exact HFt.out w hw | exact rfl | exact ⟨rfl, rfl⟩), hK _ ?_⟩; clear hK K)
    | (refine ⟨.agg #[.int .i64 first, .int .i64 size], fun w hw => (by have c0 := HC0.out w hw; have c1 := HC1.out w hw; go_simp), hK _ ?_⟩; clear hK K)
  refine wpQuiet_step (fun K hK => ?_)
  go_simp
  first
    | (refine hK _ ?_; clear hK K)
    | (refine ⟨_, fun w hw => (by first | exact HL.out w hw | exact HFt.out w hw | exact rfl | exact ⟨rfl, rfl⟩), hK _ ?_⟩; clear hK K)
    | (refine ⟨.agg #[.int .i64 first, .int .i64 size], fun w hw => (by have c0 := HC0.out w hw; have c1 := HC1.out w hw; go_simp), hK _ ?_⟩; clear hK K)
  refine wpQuiet_step (fun K hK => ?_)
  go_simp
  first
    | (refine hK _ ?_; clear hK K)
    | (refine ⟨_, fun w hw => (by first | exact HL.out w hw | exact HFt.out w hw | exact rfl | exact ⟨rfl, rfl⟩), hK _ ?_⟩; clear hK K)
    | (refine ⟨.agg #[.int .i64 first, .int .i64 size], fun w hw => (by have c0 := HC0.out w hw; have c1 := HC1.out w hw; go_simp), hK _ ?_⟩; clear hK K)
  refine wpQuiet_step (fun K hK => ?_)
  go_simp
  first
    | (refine hK _ ?_; clear hK K)
    | (refine ⟨_, fun w hw => (by first | exact HL.out w hw | exact HFt.out w hw | exact rfl | exact ⟨rfl, rfl⟩), hK _ ?_⟩; clear hK K)
    | (refine ⟨.agg #[.int .i64 first, .int .i64 size], fun w hw => (by have c0 := HC0.out w hw; have c1 := HC1.out w hw; go_simp), hK _ ?_⟩; clear hK K)
  refine wpQuiet_step (fun K hK => ?_)
  go_simp
  first
    | (refine hK _ ?_; clear hK K)
    | (refine ⟨_, fun w hw => (by first | exact HL.out w hw | exact HFt.out w hw | exact rfl | exact ⟨rfl, rfl⟩), hK _ ?_⟩; clear hK K)
    | (refine ⟨.agg #[.int .i64 first, .int .i64 size], fun w hw => (by have c0 := HC0.out w hw; have c1 := HC1.out w hw; go_simp), hK _ ?_⟩; clear hK K)
  refine wpQuiet_step (fun K hK => ?_)
  go_simp
  first
    | (refine hK _ ?_; clear hK K)
    | (refine ⟨_, fun w hw => (by first | exact HL.out w hw | exact HFt.out w hw | exact rfl | exact ⟨rfl, rfl⟩), hK _ ?_⟩; clear hK K)
    | (refine ⟨.agg #[.int .i64 first, .int .i64 size], fun w hw => (by have c0 := HC0.out w hw; have c1 := HC1.out w hw; go_simp), hK _ ?_⟩; clear hK K)
  refine wpQuiet_step (fun K hK => ?_)
  go_simp
  first
    | (refine hK _ ?_; clear hK K)
    | (refine ⟨_, fun w hw => (by first | exact HL.out w hw | exact HFt.out w hw | exact rfl | exact ⟨rfl, rfl⟩), hK _ ?_⟩; clear hK K)
    | (refine ⟨.agg #[.int .i64 first, .int .i64 size], fun w hw => (by have c0 := HC0.out w hw; have c1 := HC1.out w hw; go_simp), hK _ ?_⟩; clear hK K)
  refine wpQuiet_step (fun K hK => ?_)
  go_simp
  first
    | (refine hK _ ?_; clear hK K)
    | (refine ⟨_, fun w hw => (by first | exact HL.out w hw | exact HFt.out w hw | exact rfl | exact ⟨rfl, rfl⟩), hK _ ?_⟩; clear hK K)
    | (refine ⟨.agg #[.int .i64 first, .int .i64 size], fun w hw => (by have c0 := HC0.out w hw; have c1 := HC1.out w hw; go_simp), hK _ ?_⟩; clear hK K)
  refine wpQuiet_step (fun K hK => ?_)
  go_simp
  first
    | (refine hK _ ?_; clear hK K)
    | (refine ⟨_, fun w hw => (by first | exact HL.out w hw | exact HFt.out w hw | exact rfl | exact ⟨rfl, rfl⟩), hK _ ?_⟩; clear hK K)
    | (refine ⟨.agg #[.int .i64 first, .int .i64 size], fun w hw => (by have c0 := HC0.out w hw; have c1 := HC1.out w hw; go_simp), hK _ ?_⟩; clear hK K)
  refine wpQuiet_step (fun K hK => ?_)
  go_simp
  first
    | (refine hK _ ?_; clear hK K)
    | (refine ⟨_, fun w hw => (by first | exact HL.out w hw | exact HFt.out w hw | exact rfl | exact ⟨rfl, rfl⟩), hK _ ?_⟩; clear hK K)
    | (refine ⟨.agg #[.int .i64 first, .int .i64 size], fun w hw => (by have c0 := HC0.out w hw; have c1 := HC1.out w hw; go_simp), hK _ ?_⟩; clear hK K)
  refine wpQuiet_step (fun K hK => ?_)
  go_simp
  first
    | (refine hK _ ?_; clear hK K)
    | (refine ⟨_, fun w hw => (by first | exact HL.out w hw | exact HFt.out w hw | exact rfl | exact ⟨rfl, rfl⟩), hK _ ?_⟩; clear hK K)
    | (refine ⟨.agg #[.int .i64 first, .int .i64 size], fun w hw => (by have c0 := HC0.out w hw; have c1 := HC1.out w hw; go_simp), hK _ ?_⟩; clear hK K)
  refine wpQuiet_step (fun K hK => ?_)
  go_simp
  first
    | (refine hK _ ?_; clear hK K)
    | (refine ⟨_, fun w hw => (by first | exact HL.out w hw | exact HFt.out w hw | exact rfl | exact ⟨rfl, rfl⟩), hK _ ?_⟩; clear hK K)
    | (refine ⟨.agg #[.int .i64 first, .int .i64 size], fun w hw => (by have c0 := HC0.out w hw; have c1 := HC1.out w hw; go_simp), hK _ ?_⟩; clear hK K)
  refine wpQuiet_nil (fun w2 hw2 => ?_)
  have hb2 := HCb.out w2 hw2
  have c0 := HC0.out w2 hw2
  have c1 := HC1.out w2 hw2
  clear HL HFt HCd
  go_wp2_with fail
  go_ret3
  exact ⟨.slice none 0 0, rfl, S.Sg.nil _ _ _ _ _, below_two HB0.out hb2⟩


section
variable {H : World → (Nat → Prop) → Value → D.Dk → Prop}

theorem one_any (K : DiskOk H) (KF : FrameOk) {w : World} {F : Nat → Prop} {vd : Value} {d : D.Dk} (h : H w F vd d) {first size which : Int} (hf0 : -9223372036854775808 ≤ first) (hf1 : first ≤ 9223372036854775807) (hm0 : -9223372036854775808 ≤ size) (hm1 : size ≤ 9223372036854775807) :
    Calls Try.prog 16 #[vd, .agg #[.int .i64 first, .int .i64 size], .int .i64 which] w (Tell w (oneI d first size which)) := by
  have hn := (K.fit h).2.2
  have hl := LenIs.of K h
  obtain ⟨va, rfl⟩ := K.ptr h
  by_cases hf : fitsB d.secs.length first size = true
  · by_cases h0 : which < 0
    · rw [oneI, if_neg (by omega)]
      exact one_neg hl hn hf0 hf1 hm0 hm1 hf h0
    · by_cases h1 : 1 < which
      · rw [oneI, if_neg (by omega)]
        exact one_big hl hn hf0 hf1 hm0 hm1 hf h1
      · obtain ⟨f, s, rfl, rfl, hM, hf10⟩ := may_of hn hf
        obtain ⟨k, rfl⟩ := Int.eq_ofNat_of_zero_le (show 0 ≤ which by omega)
        rw [oneI_may hM (by omega)]
        exact one_yes K KF h hM hf10 (by omega)
  · rw [oneI, if_neg (fun g => hf g.1)]
    exact one_out' hl hn hf0 hf1 hm0 hm1 (by simpa using hf)
end

theorem oG_some {o : Option (Nat × List UInt8)} {x : Nat × List UInt8} (h : o = some x) : oG o = x.1 := by rw [h]; rfl

set_option maxRecDepth 100000 in
set_option maxHeartbeats 4000000 in
/-- both slots looked at -/
theorem load_of_ones {w : World} {vd : Value} (hvd : ∃ a, vd = .pointer a) {first size : Int} {oo : Nat → Option (Nat × List UInt8)} (h1 : ∀ k x, oo k = some x → 1 ≤ x.1 ∧ x.1 < 4294967296)
    (ho : ∀ k : Nat, k < 2 → ∀ w', Below w.heap.size w w' → Calls Try.prog 16 #[vd, .agg #[.int .i64 first, .int .i64 size], .int .i64 (k : Int)] w' (Tell w' (oo k))) :
    Calls Try.prog 14 #[vd, .agg #[.int .i64 first, .int .i64 size]] w (Tell w (upd (upd none (oo 0)) (oo 1))) := by
  obtain ⟨va, rfl⟩ := hvd
  have P0 := Bk.new w [.int .i64 first, .int .i64 size] 23 rfl
  have hb0 : Below w.heap.size w (w.alloc (.cells #[.int .i64 first, .int .i64 size] 23)) := (Below.refl _ _).alloc (Nat.le_refl _) _
  have hz0 : w.heap.size < (w.alloc (.cells #[.int .i64 first, .int .i64 size] 23)).heap.size := by simp
  have HO := Lib.hid ho
  have H1 := Lib.hid h1
  clear ho h1
  obtain ⟨st, hst⟩ : ∃ st : Nat → Option (Nat × List UInt8), st = fun k => if k = 0 then none else if k = 1 then upd none (oo 0) else upd (upd none (oo 0)) (oo 1) := ⟨_, rfl⟩
  have HS0 : Hid (st 0 = none) := Lib.hid (by rw [hst]; rfl)
  have HS2 : Hid (st 2 = upd (upd none (oo 0)) (oo 1)) := Lib.hid (by rw [hst]; rfl)
  have HSt : Hid (∀ k, k < 2 → st (k + 1) = upd (st k) (oo k)) := Lib.hid (fun k hk => by
    rw [hst]
    rcases (show k = 0 ∨ k = 1 by omega) with rfl | rfl <;> rfl)
  have HSn : Hid (∀ k, k ≤ 2 → ∀ x, st k = some x → 1 ≤ x.1 ∧ x.1 < 4294967296) := Lib.hid (fun k => by
    induction k with
    | zero => intro _ x hx; rw [HS0.out] at hx; cases hx
    | succ k ih =>
      intro hk x hx
      rw [HSt.out k (by omega)] at hx
      cases ho : oo k with
      | none => rw [ho] at hx; exact ih (by omega) x hx
      | some y =>
        rw [ho] at hx
        simp only [upd] at hx
        split at hx
        · cases hx; exact H1.out k _ ho
        · exact ih (by omega) x hx)
  rw [← HS2.out]
  clear hst HS2
  go_enter Try.func14, Try.ntmps14
  go_wp2_with fail
  generalize w.alloc (.cells #[.int .i64 first, .int .i64 size] 23) = w0 at *
  go_loopw [7, 8, 13] (fun nw wl i wr => ∃ k : Nat, k ≤ 2 ∧ i = .int .i64 (k : Int) ∧ nw = .int .u32 (oG (st k) : Int) ∧ SlB wr (S.New w wr) wl (oB (st k)) ∧ Bk wr w.heap.size [.int .i64 first, .int .i64 size] ∧ Below w.heap.size w wr) (fun _ _ i _ => 2 - (intOf i).toNat)
  case atStart => exact ⟨0, by omega, rfl, by rw [HS0.out]; rfl, by rw [HS0.out]; exact S.Sg.nil _ _ _ _ _, P0, hb0⟩
  case round =>
    clear P0 hb0 hz0
    obtain ⟨k, hk, rfl, rfl, hsl, P, hb⟩ := hrel
    obtain ⟨A, cap, rfl, hc⟩ := Sg_form hsl
    have HSL := Lib.hid hsl
    obtain ⟨s, hs⟩ : ∃ s, s = st k := ⟨_, rfl⟩
    rw [← hs] at hc HSL ⊢
    have HSS := Lib.hid hs
    have hsn : ∀ x, s = some x → 1 ≤ x.1 ∧ x.1 < 4294967296 := fun x hx => HSn.out k hk x (by rw [← HSS.out]; exact hx)
    clear hs hsl
    obtain ⟨G, hG⟩ : ∃ G, G = oG s := ⟨_, rfl⟩
    rw [← hG]
    have HG := Lib.hid hG
    have hG32 : G < 4294967296 := by
      rw [hG]
      cases s with
      | none => decide
      | some x => exact (hsn x rfl).2
    clear hG
    by_cases hlt : k < 2
    · have hlt' : (k : Int) < 2 := by omega
      have p0 := P.cell 0 _ rfl
      have p1 := P.cell 1 _ rfl
      have HC := Lib.hid (HO.out k hlt wr hb)
      have HUp := Lib.hid (HSt.out k hlt)
      obtain ⟨o, hoo⟩ : ∃ o, o = oo k := ⟨_, rfl⟩
      rw [← hoo] at HC HUp
      rw [← HSS.out] at HUp
      have hon : ∀ x, o = some x → 1 ≤ x.1 ∧ x.1 < 4294967296 := fun x hx => H1.out k x (by rw [← hoo]; exact hx)
      clear hoo
      have HP := Lib.hid P
      clear P
      go_wp2_with fail
      refine HC.out.mono ?_
      rintro e w1 ⟨vb, rfl, hB1, hb1⟩
      have hs1 := hb1.size
      have hsr := hb.size
      have hbw := below_two hb hb1
      have P1 := HP.out.step hb1
      have HW1 := Lib.hid ((HSL.out.below hb1 (fun b g => g.2)).wider (G := S.New w w1) (fun b g => ⟨g.1, by have := g.2; omega⟩))
      have HB1 := Lib.hid (hB1.wider (G := S.New w w1) (fun b g => ⟨by have := g.1; omega, g.2⟩))
      obtain ⟨Ab, capb, rfl, hcb⟩ := Sg_form hB1
      clear p0 p1 HC hB1
      cases o with
      | none =>
        rw [show (none : Option (Nat × List UInt8)).isSome = false from rfl] at *
        go_wp2_with fail
        go_roundw
        case rel => exact ⟨k + 1, by omega, by go_num, by rw [HUp.out, HG.out]; rfl, by rw [HUp.out]; exact HW1.out, P1, hbw⟩
        case measure => simp [intOf]; omega
      | some x =>
        rw [show (some x).isSome = true from rfl] at *
        rw [show oG (some x) = x.1 from rfl] at *
        have hx := hon x rfl
        obtain ⟨g, hg⟩ : ∃ g, g = x.1 := ⟨_, rfl⟩
        rw [← hg] at hx ⊢
        have HGX := Lib.hid hg
        clear hg
        by_cases hgt : G < g
        · have hgt' : (G : Int) < (g : Int) := by omega
          have HE : Hid (upd s (some x) = some x) := Lib.hid (by
            show (if oG s < x.1 then some x else s) = some x
            rw [if_pos (by have := HG.out; have := HGX.out; omega)])
          go_wp2_with fail
          go_roundw
          case rel => exact ⟨k + 1, by omega, by go_num, by rw [HUp.out, HE.out, HGX.out]; rfl, by rw [HUp.out, HE.out]; exact HB1.out, P1, hbw⟩
          case measure => simp [intOf]; omega
        · have hgt' : ¬ (G : Int) < (g : Int) := by omega
          have HE : Hid (upd s (some x) = s) := Lib.hid (by
            show (if oG s < x.1 then some x else s) = s
            rw [if_neg (by have := HG.out; have := HGX.out; omega)])
          go_wp2_with fail
          go_roundw
          case rel => exact ⟨k + 1, by omega, by go_num, by rw [HUp.out, HE.out, HG.out], by rw [HUp.out, HE.out]; exact HW1.out, P1, hbw⟩
          case measure => simp [intOf]; omega
    · have hlt' : ¬ (k : Int) < 2 := by omega
      obtain rfl : k = 2 := by omega
      have HV : Hid (((G : Int) != 0) = (st 2).isSome) := Lib.hid (by
        rw [← HSS.out]
        cases s with
        | none => have := HG.out; rw [show G = 0 from this]; rfl
        | some x =>
          have := (hsn x rfl).1
          have e1 : G = x.1 := HG.out
          show _ = true
          simp
          omega)
      go_wp2_with fail
      go_ret3
      refine ⟨.slice A (oB s).length cap, ret_v ?_, ?_, hb⟩
      · rw [← HV.out, ← HSS.out, ← HG.out]
        rfl
      · rw [← HSS.out]
        exact HSL.out

section
variable {H : World → (Nat → Prop) → Value → D.Dk → Prop}

theorem load_any (K : DiskOk H) (KF : FrameOk) {w : World} {F : Nat → Prop} {vd : Value} {d : D.Dk} (h : H w F vd d) {first size : Int} (hf0 : -9223372036854775808 ≤ first) (hf1 : first ≤ 9223372036854775807) (hm0 : -9223372036854775808 ≤ size) (hm1 : size ≤ 9223372036854775807) :
    Calls Try.prog 14 #[vd, .agg #[.int .i64 first, .int .i64 size]] w (Tell w (loadI d first size)) := by
  obtain ⟨va, hva⟩ := K.ptr h
  have := load_of_ones (w := w) (first := first) (size := size) (oo := fun k => oneI d first size (k : Int)) ⟨_, hva⟩ (fun k x hx => by have := oneI_num hx; omega) (fun k hk w' hb => one_any K KF (K.below h hb) hf0 hf1 hm0 hm1)
  rw [show upd (upd none (oneI d first size ((0 : Nat) : Int))) (oneI d first size ((1 : Nat) : Int)) = loadI d first size from load_upd d first size] at this
  exact this
theorem load_nil (w : World) {first size : Int} (hf0 : -9223372036854775808 ≤ first) (hf1 : first ≤ 9223372036854775807) (hm0 : -9223372036854775808 ≤ size) (hm1 : size ≤ 9223372036854775807) : Calls Try.prog 14 #[.pointer none, .agg #[.int .i64 first, .int .i64 size]] w (Tell w none) :=
  load_of_ones (oo := fun _ => none) ⟨_, rfl⟩ (fun k x hx => by cases hx) (fun k hk w' hb => one_out' ((LenIs.nil w).below hb) (by decide) hf0 hf1 hm0 hm1 (decide_eq_false (by omega)))
end

end Go.Proofs.Ytbjbnjpdackloaa
