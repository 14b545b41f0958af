/-
  The landed ring: a new one; one that is nil.
-/
import Derived.Test.YtfpojbnidoeohaaRgPtr
namespace Go.Proofs.Ytfpojbnidoeohaa
open Go.RowKit

section
variable {H : World → (Nat → Prop) → Value → D.Dk → Prop} {w : World} {F : Nat → Prop} {v vd : Value} {r : G.Rg} {d : D.Dk}

theorem mayB_fits {n : Nat} {first many : Int} {low next : Nat} : mayB n first many low next = (fitsB n first many && decide (low ≤ next ∧ (next : Int) ≤ low + many ∧ next ≤ 1073741824)) := by
  unfold mayB fitsB
  rw [← Bool.decide_and, decide_eq_decide]
  omega

set_option maxRecDepth 100000 in
set_option maxHeartbeats 2000000 in
theorem ring_new (K : DiskOk H) (h : H w F vd d) (first many : Int) (epoch low next : Nat) (hf0 : -9223372036854775808 ≤ first) (hf1 : first ≤ 9223372036854775807) (hm0 : -9223372036854775808 ≤ many) (hm1 : many ≤ 9223372036854775807) (he : epoch < 4294967296) (hl : low < 4294967296) (hx : next < 4294967296) :
    Calls Try.prog 11 #[vd, .agg #[.int .i64 first, .int .i64 many, .int .u32 (epoch : Int)], .int .u32 (low : Int), .int .u32 (next : Int)] w fun e w' =>
      Below w.heap.size w w' ∧ ((mayB d.secs.length first many low next = false ∧ e = .returned (.pointer none)) ∨ (mayB d.secs.length first many low next = true ∧ ∃ v, e = .returned v ∧ Rp H w' (More F w w') v vd ⟨d, first.toNat, many.toNat, epoch, low, next⟩)) := by
  have HH := Lib.hid h
  have hd1024 := (K.fit h).2.2
  have HLT := Lib.hid (K.lt h)
  obtain ⟨va, rfl⟩ := K.ptr h
  clear h
  have P0 := Bk.new w [.int .i64 first, .int .i64 many, .int .u32 (epoch : Int)] 24 rfl
  have hb0 : Below w.heap.size w (w.alloc (.cells #[.int .i64 first, .int .i64 many, .int .u32 (epoch : Int)] 24)) := (Below.refl _ _).alloc (Nat.le_refl _) _
  have hz0 : w.heap.size < (w.alloc (.cells #[.int .i64 first, .int .i64 many, .int .u32 (epoch : Int)] 24)).heap.size := by simp
  obtain ⟨n, hn⟩ : ∃ n, n = d.secs.length := ⟨_, rfl⟩
  rw [← hn] at hd1024
  have HN := Lib.hid hn
  rw [← hn]
  clear hn
  go_enter Try.func11, Try.ntmps11
  go_wp2_with fail
  generalize w.alloc (.cells #[.int .i64 first, .int .i64 many, .int .u32 (epoch : Int)] 24) = w0 at *
  have HP0 := Lib.hid P0
  have HK : Hid (∀ w', Below w0.heap.size w0 w' → w'.cell? ⟨w.heap.size, 0, none⟩ = some (.int .i64 first) ∧ w'.cell? ⟨w.heap.size, 1, none⟩ = some (.int .i64 many) ∧ w'.cell? ⟨w.heap.size, 2, none⟩ = some (.int .u32 (epoch : Int)) ∧ Below w0.heap.size w0 w') :=
    Lib.hid fun w' hb => ⟨(HP0.out.step hb).cell 0 _ rfl, (HP0.out.step hb).cell 1 _ rfl, (HP0.out.step hb).cell 2 _ rfl, hb⟩
  generalize hpe : w.heap.size = p at *
  have HB0 : Hid (Below w.heap.size w w0) := Lib.hid (by rw [hpe]; exact hb0)
  clear hpe
  have HL : Hid (∀ w', (w'.cell? ⟨p, 0, none⟩ = some (.int .i64 first) ∧ w'.cell? ⟨p, 1, none⟩ = some (.int .i64 many) ∧ w'.cell? ⟨p, 2, none⟩ = some (.int .u32 (epoch : Int)) ∧ Below w0.heap.size w0 w') → Calls Try.prog 31 #[.pointer (some va)] w' fun e w'' => e = .returned (.int .i64 (n : Int)) ∧ (w''.cell? ⟨p, 0, none⟩ = some (.int .i64 first) ∧ w''.cell? ⟨p, 1, none⟩ = some (.int .i64 many) ∧ w''.cell? ⟨p, 2, none⟩ = some (.int .u32 (epoch : Int)) ∧ Below w0.heap.size w0 w'')) :=
    Lib.hid fun w' hS => (K.len (K.below (K.below HH.out HB0.out) hS.2.2.2)).mono (fun e w'' ⟨he, hb⟩ => ⟨by rw [HN.out]; exact he, HK.out _ (hS.2.2.2.trans (hb.mono hS.2.2.2.size))⟩)
  have HFt : Hid (∀ w', (w'.cell? ⟨p, 0, none⟩ = some (.int .i64 first) ∧ w'.cell? ⟨p, 1, none⟩ = some (.int .i64 many) ∧ w'.cell? ⟨p, 2, none⟩ = some (.int .u32 (epoch : Int)) ∧ Below w0.heap.size w0 w') → Calls Try.prog 30 #[.agg #[.int .i64 first, .int .i64 many, .int .u32 (epoch : Int)], .int .i64 (n : Int)] w' fun e w'' => e = .returned (.bool (fitsB n first many)) ∧ (w''.cell? ⟨p, 0, none⟩ = some (.int .i64 first) ∧ w''.cell? ⟨p, 1, none⟩ = some (.int .i64 many) ∧ w''.cell? ⟨p, 2, none⟩ = some (.int .u32 (epoch : Int)) ∧ Below w0.heap.size w0 w'')) :=
    Lib.hid fun w' hS => (ring_fits first many epoch n w' hd1024 hf0 hf1 hm0 hm1).mono (fun e w'' ⟨he, hb⟩ => ⟨he, HK.out _ (hS.2.2.2.trans (hb.mono hS.2.2.2.size))⟩)
  have hbd : Below w0.heap.size w0 w0.drew := (Below.refl _ _).drew
  obtain ⟨ft, hft⟩ : ∃ ft, ft = fitsB n first many := ⟨_, rfl⟩
  rw [← hft] at HFt
  have HFE := Lib.hid hft
  clear hft P0
  go_region_held3 (fun w' => w'.cell? ⟨p, 0, none⟩ = some (.int .i64 first) ∧ w'.cell? ⟨p, 1, none⟩ = some (.int .i64 many) ∧ w'.cell? ⟨p, 2, none⟩ = some (.int .u32 (epoch : Int)) ∧ Below w0.heap.size w0 w')
    (first | exact HK.out _ hbd | assumption)
    (first
      | (go_at_call 31
         with_reducible refine (HL.out _ (by assumption)).mono ?_
         rintro e1 w1 ⟨rfl, hS1⟩)
      | (go_at_call 30
         with_reducible refine (HFt.out _ (by assumption)).mono ?_
         rintro e2 w2 ⟨rfl, hS2⟩))
  all_goals (
    have hb2 := hS2.2.2.2
    clear HL HFt hbd
    cases ft)
  · have HR := Lib.hid (show mayB n first many low next = false by rw [mayB_fits, ← HFE.out]; rfl)
    go_wp2
    go_ret
    exact ⟨below_two HB0.out hb2, Or.inl ⟨HR.out, rfl⟩⟩
  · have hfit : 0 ≤ first ∧ 1 ≤ many ∧ first + many ≤ n := of_decide_eq_true HFE.out.symm
    obtain ⟨g1, g2, g3⟩ := hfit
    have hc1 := hS2.2.1
    have hc0 := hS2.1
    have hc2 := hS2.2.2.1
    by_cases h1 : low ≤ next
    · have h1' : ¬ (next : Int) < (low : Int) := by omega
      have h1'' : (low : Int) ≤ (next : Int) := by omega
      by_cases h2 : (next : Int) - (low : Int) ≤ many
      · have h2' : ¬ many < (next : Int) - (low : Int) := by omega
        by_cases h3 : next ≤ 1073741824
        · have h3' : ¬ (1073741824 : Int) < (next : Int) := by omega
          have HR := Lib.hid (show mayB n first many low next = true from decide_eq_true (by omega))
          have HNW := Lib.hid (Bk.new w2 [.int .i64 first, .int .i64 many, .int .u32 (epoch : Int), .pointer (some va), .int .u32 (low : Int), .int .u32 (next : Int)] 79 rfl)
          have hba : Below w2.heap.size w2 (w2.alloc (.cells #[.int .i64 first, .int .i64 many, .int .u32 (epoch : Int), .pointer (some va), .int .u32 (low : Int), .int .u32 (next : Int)] 79)) := (Below.refl _ _).alloc (Nat.le_refl _) _
          have hsa : (w2.alloc (.cells #[.int .i64 first, .int .i64 many, .int .u32 (epoch : Int), .pointer (some va), .int .u32 (low : Int), .int .u32 (next : Int)] 79)).heap.size = w2.heap.size + 1 := by simp
          go_wp2
          go_ret
          have hbz := below_two HB0.out hb2
          have hs0 := HB0.out.size
          have hs2 := hb2.size
          have hsz := hbz.size
          generalize w2.alloc (.cells #[.int .i64 first, .int .i64 many, .int .u32 (epoch : Int), .pointer (some va), .int .u32 (low : Int), .int .u32 (next : Int)] 79) = w3 at *
          have hb3 : Below w.heap.size w w3 := below_two hbz hba
          refine ⟨hb3, Or.inr ⟨HR.out, _, rfl, ?_⟩⟩
          have e1 : ((first.toNat : Nat) : Int) = first := by omega
          have e2 : ((many.toNat : Nat) : Int) = many := by omega
          have hnn := HN.out
          refine ⟨⟨he, hl, hx, ?_, ?_, ?_⟩, ⟨?_, ?_, h1, ?_, h3⟩, ?_, w2.heap.size, F, rfl, ?_, ?_, ?_, ?_, K.below HH.out hb3⟩
          · show first.toNat ≤ 1024; omega
          · show 1 ≤ many.toNat; omega
          · show many.toNat ≤ 1024; omega
          · show 1 ≤ many.toNat; omega
          · show first.toNat + many.toNat ≤ d.secs.length; omega
          · show next ≤ low + many.toNat; omega
          · rintro b (g | g)
            · have := HLT.out b g; omega
            · exact g.2
          · show Bk w3 w2.heap.size [.int .i64 ((first.toNat : Nat) : Int), .int .i64 ((many.toNat : Nat) : Int), .int .u32 (epoch : Int), .pointer (some va), .int .u32 (low : Int), .int .u32 (next : Int)]
            rw [e1, e2]
            exact HNW.out
          · exact Or.inr ⟨by omega, by omega⟩
          · intro g; have := HLT.out _ g; omega
          · exact fun b g => Or.inl g
        · have h3' : (1073741824 : Int) < (next : Int) := by omega
          have HR := Lib.hid (show mayB n first many low next = false from decide_eq_false (by omega))
          go_wp2
          go_ret
          exact ⟨below_two HB0.out hb2, Or.inl ⟨HR.out, rfl⟩⟩
      · have h2' : many < (next : Int) - (low : Int) := by omega
        have HR := Lib.hid (show mayB n first many low next = false from decide_eq_false (by omega))
        go_wp2
        go_ret
        exact ⟨below_two HB0.out hb2, Or.inl ⟨HR.out, rfl⟩⟩
    · have h1' : (next : Int) < (low : Int) := by omega
      have HR := Lib.hid (show mayB n first many low next = false from decide_eq_false (by omega))
      go_wp2
      go_ret
      exact ⟨below_two HB0.out hb2, Or.inl ⟨HR.out, rfl⟩⟩

end

section
variable {w : World} {vb : Value}

set_option maxRecDepth 100000 in
theorem ring_new_nil (first many : Int) (epoch low next : Nat) : Calls Try.prog 11 #[.pointer none, .agg #[.int .i64 first, .int .i64 many, .int .u32 (epoch : Int)], .int .u32 (low : Int), .int .u32 (next : Int)] w fun e w' => e = .returned (.pointer none) ∧ Below w.heap.size w w' := by
  have hb0 : Below w.heap.size w (w.alloc (.cells #[.int .i64 first, .int .i64 many, .int .u32 (epoch : Int)] 24)) := (Below.refl _ _).alloc (Nat.le_refl _) _
  go_enter Try.func11, Try.ntmps11
  go_wp2_with fail
  go_quiet (fail)
  go_wp2
  go_ret
  exact ⟨rfl, below_drewN hb0 _⟩

set_option maxRecDepth 100000 in
theorem ring_nil_append : Calls Try.prog 27 #[.pointer none, vb] w fun e w' => e = .returned (.tuple #[.int .u32 0, .int .i64 1]) ∧ Below w.heap.size w w' := by
  go_enter Try.func27, Try.ntmps27
  go_wp2
  go_ret2
  exact ⟨rfl, Below.refl _ _⟩
set_option maxRecDepth 100000 in
theorem ring_nil_trunc (low : Int) : Calls Try.prog 28 #[.pointer none, .int .u32 low] w fun e w' => e = .returned (.tuple #[]) ∧ Below w.heap.size w w' := by
  go_enter Try.func28, Try.ntmps28
  go_wp2
  go_end0
  exact ⟨rfl, Below.refl _ _⟩
set_option maxRecDepth 100000 in
theorem ring_nil_low : Calls Try.prog 16 #[.pointer none] w fun e w' => e = .returned (.int .u32 0) ∧ Below w.heap.size w w' := by
  go_enter Try.func16, Try.ntmps16
  go_wp2
  go_ret
  exact ⟨rfl, Below.refl _ _⟩
set_option maxRecDepth 100000 in
theorem ring_nil_next : Calls Try.prog 17 #[.pointer none] w fun e w' => e = .returned (.int .u32 0) ∧ Below w.heap.size w w' := by
  go_enter Try.func17, Try.ntmps17
  go_wp2
  go_ret
  exact ⟨rfl, Below.refl _ _⟩
set_option maxRecDepth 100000 in
theorem ring_nil_free : Calls Try.prog 18 #[.pointer none] w fun e w' => e = .returned (.int .i64 0) ∧ Below w.heap.size w w' := by
  go_enter Try.func18, Try.ntmps18
  go_wp2
  go_ret
  exact ⟨rfl, Below.refl _ _⟩
end

end Go.Proofs.Ytfpojbnidoeohaa
