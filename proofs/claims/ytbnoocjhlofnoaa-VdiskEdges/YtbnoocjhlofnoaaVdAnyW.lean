/-
  The laws VdiskTorn, VdiskKeeps and VdiskCopies, walked, at whatever input.
-/
import Derived.Test.YtbnoocjhlofnoaaVdTornW
namespace Go.Proofs.Ytbnoocjhlofnoaa
open Go.RowKit

section
variable {H : World → (Nat → Prop) → Value → D.Dk → Prop}

set_option maxRecDepth 100000 in
set_option maxHeartbeats 1000000 in
theorem torn_any (K : DiskOk H) (v vb vk : Value) (l : List Deed) (bs : List (List UInt8)) (keep : List Bool) (w : World) (G : Nat → Prop) (hd : Deeds w G v l) (hbs : Arrs w G vb bs) (hkp : SlT w G vk keep) (hG : ∀ b, G b → b < w.heap.size) (hl : l.length ≤ 9223372036854775807) (hbl : bs.length ≤ 9223372036854775807) :
    Calls Try.prog 5 #[v, vb, vk] w fun e w' => e = .returned (.bool true) ∧ Below w.heap.size w w' := by
  cases hf : fewM l
  · have HD := Lib.hid hd
    obtain ⟨A, cap, rfl, hc, _⟩ := hd
    clear hbs hkp
    go_enter Try.func5, Try.ntmps5
    go_wp2_with fail
    refine (vawake_any K _).mono ?_
    rintro e w1 ⟨rfl, hb1⟩
    have HF1 := Lib.hid (by have := few_any (.slice A l.length cap) l w1 G (HD.out.below hb1 hG) hl; rw [hf] at this; exact this)
    go_wp2_with fail
    refine HF1.out.mono ?_
    rintro e w1' ⟨rfl, rfl⟩
    go_wp2_with fail
    go_ret
    exact ⟨rfl, hb1⟩
  · exact torn_yes K v vb vk l bs keep w G hd hbs hkp hG hf hbl

set_option maxRecDepth 100000 in
set_option maxHeartbeats 1000000 in
theorem keeps_any (K : DiskOk H) (v v' : Value) (l more : List Deed) (w : World) (G : Nat → Prop) (hd : Deeds w G v l) (hd' : Deeds w G v' more) (hG : ∀ b, G b → b < w.heap.size) (hl : l.length ≤ 9223372036854775807) (hl' : more.length ≤ 9223372036854775807) :
    Calls Try.prog 6 #[v, v'] w fun e w' => e = .returned (.bool true) ∧ Below w.heap.size w w' := by
  have HD := Lib.hid hd
  have HD' := Lib.hid hd'
  cases hf : fewM l
  · obtain ⟨A, cap, rfl, hc, _⟩ := hd
    clear hd'
    go_enter Try.func6, Try.ntmps6
    go_wp2_with fail
    refine (vawake_any K _).mono ?_
    rintro e w1 ⟨rfl, hb1⟩
    have HF1 := Lib.hid (by have := few_any (.slice A l.length cap) l w1 G (HD.out.below hb1 hG) hl; rw [hf] at this; exact this)
    go_wp2_with fail
    refine HF1.out.mono ?_
    rintro e w1' ⟨rfl, rfl⟩
    go_wp2_with fail
    go_ret
    exact ⟨rfl, hb1⟩
  · cases hf' : fewM more
    · obtain ⟨A, cap, rfl, hc, _⟩ := hd
      obtain ⟨A', cap', rfl, hc', _⟩ := hd'
      go_enter Try.func6, Try.ntmps6
      go_wp2_with fail
      refine (vawake_any K _).mono ?_
      rintro e w1 ⟨rfl, hb1⟩
      have HF1 := Lib.hid (by have := few_any (.slice A l.length cap) l w1 G (HD.out.below hb1 hG) hl; rw [hf] at this; exact this)
      have HF2 := Lib.hid (by have := few_any (.slice A' more.length cap') more w1 G (HD'.out.below hb1 hG) hl'; rw [hf'] at this; exact this)
      go_wp2_with fail
      refine HF1.out.mono ?_
      rintro e w1' ⟨rfl, rfl⟩
      go_wp2_with fail
      refine HF2.out.mono ?_
      rintro e w1' ⟨rfl, rfl⟩
      go_wp2_with fail
      go_ret
      exact ⟨rfl, hb1⟩
    · exact keeps_yes K v v' l more w G hd hd' hG hf hf'

set_option maxRecDepth 100000 in
set_option maxHeartbeats 1000000 in
theorem copies_any (K : DiskOk H) (v : Value) (l : List Deed) (c0 c1 c2 c3 : Value) (X : Deed) (w : World) (G : Nat → Prop) (hd : Deeds w G v l) (hv : DeedV w G c0 c1 c2 c3 X) (hok : X.Ok) (hG : ∀ b, G b → b < w.heap.size) (hl : l.length ≤ 9223372036854775807) :
    Calls Try.prog 7 #[v, .agg #[c0, c1, c2, c3]] w fun e w' => e = .returned (.bool true) ∧ Below w.heap.size w w' := by
  have HD := Lib.hid hd
  by_cases hg : fewM l = true ∧ X.b.length ≤ 100
  · exact copies_yes K v l c0 c1 c2 c3 X w G hd hv hok hG hg.1 hg.2
  · have hbl := hok.bl
    obtain ⟨A, cap, rfl, hc, _⟩ := hd
    obtain ⟨rfl, rfl, hv2, hv3⟩ := hv
    obtain ⟨Ab, capb, rfl, hcb⟩ := Sg_form hv2
    obtain ⟨Ak, capk, rfl, hck⟩ := Sg_form hv3
    clear hv2 hv3
    have hba : Below w.heap.size w (w.alloc (.cells #[.int .i64 X.kind, .int .i64 X.at_, .slice Ab X.b.length capb, .slice Ak X.keep.length capk] 37)) := (Below.refl _ _).alloc (Nat.le_refl _) _
    have Q0 := B4.new w (.int .i64 X.kind) (.int .i64 X.at_) (.slice Ab X.b.length capb) (.slice Ak X.keep.length capk) 37 rfl
    cases hf : fewM l
    · go_enter Try.func7, Try.ntmps7
      go_wp2_with fail
      refine (vawake_any K _).mono ?_
      rintro e w1 ⟨rfl, hb1⟩
      have hb1' := below_two hba hb1
      have HF1 := Lib.hid (by have := few_any (.slice A l.length cap) l w1 G (HD.out.below hb1' hG) hl; rw [hf] at this; exact this)
      go_wp2_with fail
      refine HF1.out.mono ?_
      rintro e w1' ⟨rfl, rfl⟩
      go_wp2_with fail
      go_ret
      exact ⟨rfl, hb1'⟩
    · have hbl2 : decide ((100 : Int) < (X.b.length : Int)) = true := decide_eq_true (by have : ¬ X.b.length ≤ 100 := fun h => hg ⟨hf, h⟩; omega)
      go_enter Try.func7, Try.ntmps7
      go_wp2_with fail
      refine (vawake_any K _).mono ?_
      rintro e w1 ⟨rfl, hb1⟩
      have hb1' := below_two hba hb1
      have HF1 := Lib.hid (by have := few_any (.slice A l.length cap) l w1 G (HD.out.below hb1' hG) hl; rw [hf] at this; exact this)
      obtain ⟨_, q0, q1, q2, q3⟩ := Q0.step hb1
      go_wp2_with fail
      refine HF1.out.mono ?_
      rintro e w1' ⟨rfl, rfl⟩
      go_wp2_with fail
      go_ret
      exact ⟨rfl, hb1'⟩
end

end Go.Proofs.Ytbnoocjhlofnoaa
