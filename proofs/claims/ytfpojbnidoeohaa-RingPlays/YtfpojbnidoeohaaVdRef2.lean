/-
  Walks of the document's disk: a new one.
-/
import Derived.Test.YtfpojbnidoeohaaVdRef1
import Derived.Test.YtfpojbnidoeohaaBlk
import Derived.Deep.RegionLaw
namespace Go.Proofs.Ytfpojbnidoeohaa
open Go.RowKit

/-- v is the document's disk d, in blocks of which F holds -/
def Rd (w : World) (F : Nat → Prop) (v : Value) (d : D.Dk) : Prop :=
  ∃ a b c, v = .agg #[a, b, c] ∧ SlS w F a d.secs ∧ SlI w F b (d.row.map (·.1)) ∧ SlS w F c (d.row.map (·.2))

section
variable {w w' : World} {F G : Nat → Prop} {B : Nat} {v : Value} {d : D.Dk}

theorem Rd.keep (h : Rd w F v d) (hk : ∀ p : Addr, F p.block → w'.cell? p = w.cell? p) : Rd w' F v d := by
  obtain ⟨a, b, c, e, h1, h2, h3⟩ := h
  exact ⟨a, b, c, e, h1.keep hk, h2.keep hk, h3.keep hk⟩
theorem Rd.below (h : Rd w F v d) (hb : Below B w w') (hF : ∀ b, F b → b < B) : Rd w' F v d := h.keep fun _ hp => hb.cell (hF _ hp)
theorem Rd.wider (h : Rd w F v d) (hF : ∀ b, F b → G b) : Rd w G v d := by
  obtain ⟨a, b, c, e, h1, h2, h3⟩ := h
  exact ⟨a, b, c, e, h1.wider hF, h2.wider hF, h3.wider hF⟩
theorem Rd.set (h : Rd w F v d) {p : Nat} (hp : ¬ F p) (o : Nat) (u : Value) : Rd (w.setCell ⟨p, o, none⟩ u) F v d := by
  obtain ⟨a, b, c, e, h1, h2, h3⟩ := h
  exact ⟨a, b, c, e, h1.set hp o u, h2.set hp o u, h3.set hp o u⟩
theorem Rd.form (h : Rd w F v d) : ∃ A1 c1 A2 c2 A3 c3, v = .agg #[.slice A1 d.secs.length c1, .slice A2 d.row.length c2, .slice A3 d.row.length c3] := by
  obtain ⟨a, b, c, rfl, ⟨_, A1, c1, rfl, _⟩, ⟨_, A2, c2, rfl, _⟩, ⟨_, A3, c3, rfl, _⟩⟩ := h
  exact ⟨A1, c1, A2, c2, A3, c3, by rw [List.length_map, List.length_map]⟩
end

theorem undDisk : Try.prog.underlying 36 = some (.struct (Try.prog.fieldsOf 36)) := by kernel_rfl
theorem infoDisk : (Try.prog.info? 36).map (·.size) = some 3 := by kernel_rfl

abbrev nilV : Value := .slice none 0 0

theorem own_str {w : World} {base : Nat} {v : Value} {a b : List (List UInt8)} (h : w.ownsRow base 9 1 v (a.length + b.length) (strV a ++ strV b)) : w.ownsRow base 9 1 v (a ++ b).length (strV (a ++ b)) := by
  rw [strV_append, List.length_append]; exact h

set_option maxRecDepth 100000 in
set_option maxHeartbeats 1000000 in
theorem rnew_any (n : Nat) (w : World) (hn : n ≤ 1024) :
    Calls Try.prog 12 #[.int .i64 n] w fun e w' => ∃ v, e = .returned v ∧ Rd w' (S.New w w') v ⟨List.replicate n (D.full []), []⟩ ∧ Below w.heap.size w w' := by
  have I0 := (B3.new w nilV nilV nilV 36 rfl).alloc (.cells #[nilV, nilV, nilV] 36)
  have J0 := B3.new (w.alloc (.cells #[nilV, nilV, nilV] 36)) nilV nilV nilV 36 (g := w.heap.size + 1) (by simp)
  have hb0 : Below w.heap.size w ((w.alloc (.cells #[nilV, nilV, nilV] 36)).alloc (.cells #[nilV, nilV, nilV] 36)) := ((Below.refl _ _).alloc (Nat.le_refl _) _).alloc (by simp) _
  have hz0 : ((w.alloc (.cells #[nilV, nilV, nilV] 36)).alloc (.cells #[nilV, nilV, nilV] 36)).heap.size = w.heap.size + 2 := by simp
  go_enter Try.func12, Try.ntmps12
  go_wp2_with fail
  go_loopw [4] (fun i wr => ∃ (k : Nat) (vs : Value), k ≤ n ∧ i = .int .i64 k ∧ B3 wr w.heap.size nilV nilV nilV ∧ B3 wr (w.heap.size + 1) vs nilV nilV ∧ wr.ownsRow (w.heap.size + 2) 9 1 vs (List.replicate k (D.full [])).length (strV (List.replicate k (D.full []))) ∧ Below w.heap.size w wr ∧ w.heap.size + 2 ≤ wr.heap.size) (fun i _ => n - (intOf i).toNat)
  case atStart => exact ⟨0, nilV, Nat.zero_le _, rfl, I0, J0, S.own_nil _ _ _ _, hb0, by simp⟩
  case round =>
    clear I0 J0 hb0 hz0
    obtain ⟨k, vs, hk, rfl, I, J, hown, hb, hz⟩ := hrel
    have hlen : (List.replicate k (D.full [])).length = k := by simp
    by_cases hlt : k < n
    · generalize hq : w.heap.size + 1 = q at J ⊢
      have hq2 : w.heap.size + 2 = q + 1 := by omega
      rw [hq2] at hown hz
      obtain ⟨A, cap, rfl, hc⟩ : ∃ A cap, vs = .slice A (List.replicate k (D.full [])).length cap ∧ (List.replicate k (D.full [])).length ≤ cap := by
        obtain ⟨_, A, cap, e, hc, _⟩ := S.Sg.of_own hown
        exact ⟨A, cap, e, hc⟩
      obtain ⟨z, hz'⟩ : ∃ z, z = D.full [] := ⟨_, rfl⟩
      have HF := Lib.hid (fun w => by have := full_any (.slice none 0 0) [] w (fun _ => False) (fun _ h => h.elim) (S.Sg.nil ..) (by simp); rw [← hz'] at this; exact this)
      rw [← hz'] at hown hlen hc J
      have HZ := Lib.hid hz'
      clear hz'
      obtain ⟨L, hL⟩ : ∃ L, L = List.replicate k z := ⟨_, rfl⟩
      rw [← hL] at hown hlen hc J
      have HL := Lib.hid hL
      clear hL
      have c0 := J.c0
      have hl' : L.length < 1024 := by omega
      clear hlen
      go_wp2_with fail
      go_region_law
        (first
          | (go_simp
             go_at_call 32
             refine (HF.out _).mono ?_
             rintro e w2 ⟨rfl, hbn⟩
             have I2 := I.drew.step hbn
             have J2 := J.drew.step hbn
             have hown2 := S.own_below hown.drew hbn
             have hb2 := hb.drew.trans (hbn.mono hb.drew.size)
             have hz2 : q + 1 ≤ w2.heap.size := Nat.le_trans hz hbn.size
             have hA := J2.c0
             have hA' := (J2.alloc (.cells #[.string ⟨z.toArray⟩] 9)).c0
             go_simp)
          | (refine S.step_append_sg elS (by rfl) _ _ (by rfl) (base := q + 1) (xs := strV L) (cs := strV [z]) (by rfl) (by rfl) (hown2.alloc _) (S.Sg.one w2 9 (.string ⟨z.toArray⟩)) (strV_one _) (by omega) (by omega) (by simp; omega) ?_
             intro v3 w3 hown3 hgrow3 _hbl
             obtain ⟨_, A3, cap3, rfl, hc3, _⟩ := S.Sg.of_own hown3
             have hbb := S.below_base (hown2.alloc _) (by simp; omega) hgrow3
             have I3 := (I2.alloc (.cells #[.string ⟨z.toArray⟩] 9)).below hbb (by omega)
             have J3 := (J2.alloc (.cells #[.string ⟨z.toArray⟩] 9)).below hbb (by omega)
             have hb3 := (hb2.alloc hb2.size (.cells #[.string ⟨z.toArray⟩] 9)).trans (hbb.mono (by omega))
             have hz3 : q + 1 ≤ w3.heap.size := Nat.le_trans hz2 (Nat.le_trans (by simp) hbb.size)
             have hA := J3.c0
             have hF := J3.f0))
      all_goals (try go_wp2)
      all_goals go_roundw
      all_goals first
        | exact ⟨k + 1, _, by omega, by go_num, I3.other (by omega) _ _, J3.set0 _, by
            rw [List.replicate_succ', ← HZ.out, ← HL.out, hq2]; exact S.own_set (own_str hown3) (by omega) _ _, hb3.setCell (by show _ ≤ q; omega) _, by
            rw [hq2]; simpa [World.setCell] using hz3⟩
        | (simp [intOf]; omega)
    · obtain rfl : k = n := by omega
      obtain ⟨A, cap, rfl, hc⟩ : ∃ A cap, vs = .slice A (List.replicate k (D.full [])).length cap ∧ (List.replicate k (D.full [])).length ≤ cap := by
        obtain ⟨_, A, cap, e, hc, _⟩ := S.Sg.of_own hown
        exact ⟨A, cap, e, hc⟩
      generalize hq : w.heap.size + 1 = q at J ⊢
      generalize hL : (List.replicate k (D.full [])).length = m at *
      obtain ⟨_, c0, c1, c2, f0, f1, f2⟩ := id I
      obtain ⟨_, d0, d1, d2, _⟩ := id J
      have I4 := I.setAll (.slice A m cap) nilV nilV
      have hown4 := S.own_set (S.own_set (S.own_set hown (p := w.heap.size) (by omega) 0 (.slice A m cap)) (p := w.heap.size) (by omega) 1 nilV) (p := w.heap.size) (by omega) 2 nilV
      have hb4 := ((hb.setCell (p := ⟨w.heap.size, 0, none⟩) (Nat.le_refl _) (.slice A m cap)).setCell (p := ⟨w.heap.size, 1, none⟩) (Nat.le_refl _) nilV).setCell (p := ⟨w.heap.size, 2, none⟩) (Nat.le_refl _) nilV
      clear hlen
      go_wp2_with fail
      refine bodyPost_ret (results_b3 rfl _ rfl I4 undDisk rfl infoDisk) rfl ?_
      subst hL
      exact ⟨_, rfl, ⟨_, _, _, rfl, (S.Sg.of_own hown4).wider (fun b h => ⟨by omega, h.2⟩), S.Sg.nil .., S.Sg.nil ..⟩, hb4⟩

end Go.Proofs.Ytfpojbnidoeohaa
