/-
  Walks of the document's disk: bytes, and zeros behind them.
-/
import Derived.Test.YtfpojbnidoeohaaSlTypes
import Derived.Test.YtfpojbnidoeohaaVdiskMath
import Derived.Deep.RegionHeld3
import Derived.Lib.SmallJoins
namespace Go.Proofs.Ytfpojbnidoeohaa
open Go.RowKit

theorem elS : S.El Try.prog 33 9 1 16 := info_el (z := .string ⟨#[]⟩) Try.underlying33 (by kernel_rfl) rfl
theorem elI : S.El Try.prog 34 3 1 8 := info_el (z := .int .i64 0) Try.underlying34 (by kernel_rfl) rfl
theorem elT : S.El Try.prog 107 4 1 1 := info_el (z := .bool false) Try.underlying107 (by kernel_rfl) rfl

theorem own_bytes {w : World} {base : Nat} {v : Value} {a b : List UInt8} (h : w.ownsRow base 5 1 v (a.length + b.length) (bytesV a ++ bytesV b)) : w.ownsRow base 5 1 v (a ++ b).length (bytesV (a ++ b)) := by
  rw [bytesV_append, List.length_append]; exact h

set_option maxHeartbeats 1000000 in
set_option maxRecDepth 100000 in
theorem full_any (v : Value) (l : List UInt8) (w : World) (F : Nat → Prop) (hF : ∀ b, F b → b < w.heap.size) (h : SlB w F v l) (hl : l.length ≤ 1000000) :
    Calls Try.prog 32 #[v] w fun e w' => e = .returned (.string ⟨(D.full l).toArray⟩) ∧ Below w.heap.size w w' := by
  have hb0 : Below w.heap.size w (w.alloc (.cells #[] 5)) := (Below.refl _ _).alloc (Nat.le_refl _) _
  have HS := Lib.hid (h.below hb0 hF)
  go_enter Try.func32, Try.ntmps32
  go_wp2_with (at_builtin; refine S.wpList_append_sg elB rfl _ _ rfl (base := w.heap.size) (xs := []) (cs := bytesV l) rfl rfl (S.own_none 5 1 rfl (Nat.le_refl _)) HS.out (bytesV_one l) (by omega) (by omega) (by simp) ?_)
  intro v1 w1 hown hgrow _
  have hb1 : Below w.heap.size w w1 := hb0.grown hgrow hb0.size (fun j hj => by simp [Value.ownBlock] at hj; omega)
  clear HS hgrow
  go_wp2_with fail
  go_loopw [3] (fun v wr => ∃ L : List UInt8, D.full L = D.full l ∧ L.length ≤ 1000000 ∧ wr.ownsRow w.heap.size 5 1 v L.length (bytesV L) ∧ Below w.heap.size w wr) (fun v _ => 64 - (match v with | .slice _ n _ => n | _ => 0))
  case atStart => exact ⟨l, rfl, hl, hown, hb1⟩
  case round =>
    clear hown hb1
    obtain ⟨L, hL, hLl, hown, hb⟩ := hrel
    have HL := Lib.hid hL
    clear hL
    obtain ⟨A, cap, rfl, hc⟩ : ∃ A cap, u3 = .slice A L.length cap ∧ L.length ≤ cap := by
      obtain ⟨_, A, cap, e, hc, _⟩ := S.Sg.of_own hown
      exact ⟨A, cap, e, hc⟩
    by_cases hlt : L.length < 64
    · go_wp2_with (at_builtin; refine S.wpList_append_sg elB rfl _ _ rfl (base := w.heap.size) (xs := bytesV L) (cs := bytesV [0]) rfl rfl (hown.alloc _) (S.Sg.one wr 5 (.int .u8 0)) (bytesV_one _) (by omega) (by omega) (by have := hb.size; simp; omega) ?_)
      intro v2 w2 hown2 hgrow2 _
      have HN := Lib.hid (own_bytes (b := [0]) hown2)
      have HB := Lib.hid (S.below_app (hb.alloc hb.size _) (Nat.le_refl _) (hown.alloc _) hgrow2)
      obtain ⟨A2, cap2, rfl, hc2⟩ : ∃ A cap, v2 = .slice A (L.length + 1) cap ∧ L.length + 1 ≤ cap := by
        obtain ⟨_, A, cap, e, hc, _⟩ := S.Sg.of_own hown2
        exact ⟨A, cap, e, hc⟩
      clear hown2 hgrow2 hown hb
      go_wp2
      go_roundw
      case rel => exact ⟨L ++ [0], by rw [D.full_snoc hlt, HL.out], by simp; omega, HN.out, HB.out⟩
      case measure => simp; omega
    · have hcv := conv_own hown
      go_wp2
      go_ret
      exact ⟨ret_v (by rw [← HL.out, D.full_whole hlt]; rfl), hb⟩

end Go.Proofs.Ytfpojbnidoeohaa
