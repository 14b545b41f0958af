/-
  Walks of layer slot's laws: SlotSpares.
-/
import Derived.Test.YtbjbnjpdackloaaSoBss
namespace Go.Proofs.Ytbjbnjpdackloaa
open Go.RowKit

section
variable {H : World → (Nat → Prop) → Value → D.Dk → Prop}

/-- a disk behind so many savings -/
structure Sp (H : World → (Nat → Prop) → Value → D.Dk → Prop) (w wr : World) (da : Addr) (d : D.Dk) (k : Nat) (F : Nat → Prop) : Prop where
  hd : H wr F (.pointer (some da)) d
  len : d.secs.length = 12
  row : d.row.length ≤ 4 * k
  low : Below w.heap.size w wr
  f : ∀ b, F b → w.heap.size ≤ b

theorem Sp.next {w wr : World} {da : Addr} {d : D.Dk} {k : Nat} {F : Nat → Prop} (h : Sp H w wr da d k F) {b : List UInt8} {w' w'' : World} {F' : Nat → Prop} {g : Nat} (hb : Below wr.heap.size wr w') (hH : H w'' F' (.pointer (some da)) (if R.many b.length ≤ 4 then Z.save d 1 4 g b else d)) (hF : ∀ b, F' b → F b ∨ S.New w' w'' b) (ht : Turn F w' w'') :
    ∃ d', Sp H w w'' da d' (k + 1) F' := by
  have hs := hb.size
  have hl := h.low.size
  have low : Below w.heap.size w w'' := (below_two h.low hb).trans (ht.below (by omega) h.f)
  have hf : ∀ b, F' b → w.heap.size ≤ b := fun b g => (hF b g).elim (h.f b) (fun g => by have := g.1; omega)
  have hr := h.row
  by_cases hm : R.many b.length ≤ 4
  · rw [if_pos hm] at hH
    exact ⟨_, hH, (Z.save_len ..).trans h.len, by rw [Z.save_row (may8 h.len)]; omega, low, hf⟩
  · rw [if_neg hm] at hH
    exact ⟨_, hH, h.len, by omega, low, hf⟩

theorem sav_spares {d : D.Dk} (h : d.secs.length = 12) (gen : Nat) (b : List UInt8) : (savD d 1 4 gen b).secs.length = 12 ∧ ∀ i, (i < 1 + 4 * (gen % 2) ∨ 1 + 4 * (gen % 2) + 4 ≤ i) → (savD d 1 4 gen b).read i = d.read i := by
  unfold savD
  split
  · exact ⟨(Z.save_len ..).trans h, fun i hi => Z.save_spares (may8 h) i hi⟩
  · exact ⟨h, fun i _ => rfl⟩
theorem rdV_in {d : D.Dk} {k : Nat} (hk : k < d.secs.length) {l : List UInt8} {e : Int} (h : rdV d (k : Int) = .tuple #[.string ⟨l.toArray⟩, .int .i64 e]) : l = d.read k ∧ e = 0 := by
  rw [rdV, if_pos ⟨by omega, by omega⟩] at h
  simp only [Value.tuple.injEq, Array.mk.injEq, List.cons.injEq, Value.string.injEq, ByteArray.mk.injEq, Value.int.injEq, true_and, and_true, Int.toNat_natCast] at h
  exact ⟨h.1.symm, h.2.symm⟩

set_option maxRecDepth 100000 in
set_option maxHeartbeats 8000000 in
theorem SlotSpares_walk (K : DiskOk H) (KF : FrameOk) (w : World) (vo : Value) (olds : List (List UInt8)) (Go_ : Nat → Prop) (hO : Bs8 w Go_ vo olds) (hGo : ∀ x, Go_ x → x < w.heap.size) (hol : olds.length ≤ 9223372036854775807) (gen : Nat) (hgen : gen < 4294967296) (vb : Value) (b : List UInt8) (Gb : Nat → Prop) (hB : SlB w Gb vb b) (hG : ∀ x, Gb x → x < w.heap.size) (hbl : b.length ≤ 9223372036854775807) :
    Calls Try.prog 6 #[vo, .int .u32 (gen : Int), vb] w fun e w' => e = .returned (.bool true) ∧ Below w.heap.size w w' := by
  have HO := Lib.hid hO
  obtain ⟨Ao, capo, rfl, hco⟩ : ∃ A cap, vo = .slice A olds.length cap ∧ olds.length ≤ cap := by
    obtain ⟨A, cap, e, hc, _⟩ := hO
    exact ⟨A, cap, e, hc⟩
  clear hO
  have HB := Lib.hid hB
  obtain ⟨Ab, capb, rfl, hcb⟩ := Sg_form hB
  clear hB
  have HA := Lib.hid (awake8_any K KF w)
  go_enter Try.func6, Try.ntmps6
  go_wp2_with fail
  refine HA.out.mono ?_
  rintro e w1 ⟨rfl, hb1⟩
  have HN := Lib.hid (K.new 12 w1 (by decide) (by decide))
  clear HA
  go_wp2_with fail
  refine HN.out.mono ?_
  rintro e w2 ⟨vd, rfl, hH2, hb2⟩
  obtain ⟨da, rfl⟩ := K.ptr hH2
  have HH2 : Hid (H w2 (S.New w1 w2) (.pointer (some da)) newD8) := Lib.hid hH2
  have hs1 := hb1.size
  have hbw2 := below_two hb1 hb2
  have hF2 : ∀ b, S.New w1 w2 b → w.heap.size ≤ b := fun b g => Nat.le_trans hs1 g.1
  generalize S.New w1 w2 = F2 at *
  clear HN hH2 hb1 hb2
  by_cases h20 : 20 < olds.length
  · have h20' : (20 : Int) < (olds.length : Int) := by omega
    go_wp2
    go_ret
    exact ⟨rfl, hbw2⟩
  have h20' : ¬ (20 : Int) < (olds.length : Int) := by omega
  by_cases h300 : 300 < b.length
  · have h300' : (300 : Int) < (b.length : Int) := by omega
    go_wp2
    go_ret
    exact ⟨rfl, hbw2⟩
  have h300' : ¬ (300 : Int) < (b.length : Int) := by omega
  have HS : Hid (Sp H w w2 da newD8 0 F2) := Lib.hid ⟨HH2.out, new8_len, by decide, hbw2, hF2⟩
  clear HH2
  go_wp2_with fail
  go_loopw [9] (fun i wr => ∃ (k : Nat) (d : D.Dk) (F : Nat → Prop), k ≤ olds.length ∧ i = .int .i64 (k : Int) ∧ Sp H w wr da d k F) (fun i _ => olds.length - (intOf i).toNat)
  case atStart => exact ⟨0, newD8, F2, by omega, rfl, HS.out⟩
  case round =>
    clear HS
    obtain ⟨k, d, F, hk, rfl, hV⟩ := hrel
    have HV := Lib.hid hV
    have hlow := hV.low
    clear hV
    by_cases hlt : k < olds.length
    · have hlt' : (k : Int) < (olds.length : Int) := by omega
      obtain ⟨a, capa, vb5, e5, _, hGa, hxl, hx0, hx1⟩ := (HO.out.below hlow hGo).nth k hlt
      cases e5
      obtain ⟨A5, cap5, rfl, hc5⟩ := Sg_form hx1
      have HX1 := Lib.hid hx1
      obtain ⟨x, hx⟩ : ∃ x, x = olds[k] := ⟨_, rfl⟩
      rw [← hx] at hx0 hc5 hxl HX1
      have HXE := Lib.hid hx
      clear hx hx1
      have HX0 := Lib.hid hx0
      have hab : a.block < w.heap.size := hGo _ hGa
      have HKc : Hid (∀ w' : World, (∀ b, b < w.heap.size → w'.heap[b]? = wr.heap[b]?) → w'.cell? (a.add k) = some (.slice A5 x.length cap5)) := Lib.hid fun w' hb => (World.cell?_of_block (hb _ (by rw [S.add_block]; exact hab))).trans HX0.out
      have hsr := hlow.size
      have HAr : Hid (Calls Try.prog 20 #[] wr.drew fun e w' => e = .returned ar8 ∧ w'.cell? (a.add k) = some (.slice A5 x.length cap5) ∧ Below wr.heap.size wr w') :=
        Lib.hid ((area_any wr.drew).mono (fun e w' ⟨e1, hb⟩ => ⟨e1, HKc.out _ (fun b hb2 => hb.block b (Nat.lt_of_lt_of_le hb2 hsr)), ⟨hb.os, hb.tape, hb.output, hb.size, hb.block⟩⟩))
      have HSv : Hid (∀ w', Below wr.heap.size wr w' → Calls Try.prog 19 #[.pointer (some da), ar8, .int .u32 (IntKind.u32.wrap (IntKind.i64.wrap ((k : Int) + 1))), .slice A5 x.length cap5] w' fun e w'' => e = .returned (.int .i64 (if R.many x.length ≤ 4 then 0 else 3)) ∧ w''.cell? (a.add k) = some (.slice A5 x.length cap5) ∧ (∃ F', H w'' F' (.pointer (some da)) (if R.many x.length ≤ 4 then Z.save d 1 4 (k + 1) x else d) ∧ ∀ b, F' b → F b ∨ S.New w' w'' b) ∧ Turn F w' w'') :=
        Lib.hid fun w' hb => by
          have := sv8 K KF (gen := k + 1) (K.below HV.out.hd hb) HV.out.len (by have := HV.out.row; omega) (HX1.out.below (hb.mono hsr) hGo) (fun b g => Nat.lt_of_lt_of_le (hGo b g) (Nat.le_trans hsr hb.size)) hxl (by omega) (by omega) _ _ rfl rfl
          rw [show ((k + 1 : Nat) : Int) = IntKind.u32.wrap (IntKind.i64.wrap ((k : Int) + 1)) by rw [show IntKind.i64.wrap ((k : Int) + 1) = (k : Int) + 1 by rw [IntKind.wrap_i64]; omega, IntKind.wrap_u32]; omega] at this
          exact this.mono (fun e w'' ⟨e1, h2, h3⟩ => ⟨e1, HKc.out _ (fun b hb2 => (h3.block b (by have := hb.size; omega) (fun f => by have := HV.out.f b f; omega)).trans (hb.block b (by omega))), h2, h3⟩)
      have hj0 : (0 : Int) ≤ (k : Int) := by omega
      obtain ⟨E, hE⟩ : ∃ E : Int, E = if R.many x.length ≤ 4 then 0 else 3 := ⟨_, rfl⟩
      rw [← hE] at HSv
      clear hE
      have hk0 : wr.drew.cell? (a.add k) = some (.slice A5 x.length cap5) := hx0
      go_wp2_with fail
      go_region_held3 (fun w' => w'.cell? (a.add k) = some (.slice A5 x.length cap5))
        (first | with_reducible exact hk0 | with_reducible assumption)
        (first
          | (go_at_call 20
             with_reducible refine HAr.out.mono ?_
             rintro e1 w5 ⟨rfl, hS5, hb5⟩)
          | (go_at_call 19
             with_reducible refine (HSv.out _ hb5).mono ?_
             rintro e2 w6 ⟨rfl, hS6, ⟨F6, hH6, hF6⟩, ht6⟩))
      have HN := Lib.hid (HV.out.next (b := x) hb5 hH6 hF6 ht6)
      clear hS5 hS6 HAr HSv hH6 hF6 HKc HX0 hx0 hk0 hb5 ht6
      go_wp2_with fail
      go_roundw
      case rel =>
        obtain ⟨d', hd'⟩ := HN.out
        exact ⟨k + 1, d', _, by omega, by go_num, hd'⟩
      case measure => simp [intOf]; omega
    · obtain rfl : k = olds.length := by omega
      have hlt' : ¬ (olds.length : Int) < (olds.length : Int) := by omega
      have HCp := Lib.hid (K.copy HV.out.hd)
      have hsr := hlow.size
      go_wp2_with fail
      refine HCp.out.mono ?_
      rintro e w3 ⟨vc, rfl, hC3, hb3⟩
      obtain ⟨ca, rfl⟩ := K.ptr hC3
      have hbw3 := below_two hlow hb3
      have HC3 := Lib.hid hC3
      have HH3 := Lib.hid (K.below HV.out.hd hb3)
      have HAr := Lib.hid (area_any w3)
      have hlt3 := K.lt (K.below HV.out.hd hb3)
      have hltF := K.lt HV.out.hd
      clear HCp hC3
      go_wp2_with fail
      refine HAr.out.mono ?_
      rintro e w4 ⟨rfl, hb4⟩
      have hbw4 := below_two hbw3 hb4
      have HC4 := Lib.hid (K.below HC3.out hb4)
      have HSv := Lib.hid (save_any K KF (K.below HH3.out hb4) (first := 1) (size := 4) (gen := gen) (by decide) (by decide) (by decide) (by decide) (HB.out.below hbw4 hG) (fun x g => Nat.lt_of_lt_of_le (hG x g) hbw4.size) (by omega) hgen (by have := HV.out.row; have := HV.out.len; omega))
      have hsp := sav_spares HV.out.len gen b
      generalize savE d 1 4 gen b = E at *
      obtain ⟨d', hd'⟩ : ∃ d', d' = savD d 1 4 gen b := ⟨_, rfl⟩
      rw [← hd'] at HSv hsp
      obtain ⟨r, hr⟩ : ∃ r, r = gen % 2 := ⟨_, rfl⟩
      rw [← hr] at hsp
      have q1 : (gen : Int).tmod 2 = (r : Int) := by rw [Int.tmod_eq_emod_of_nonneg (by omega)]; omega
      have q2 : (gen : Int) % 2 = (r : Int) := by omega
      have hr2 : r < 2 := by omega
      have h12 := HV.out.len
      have h12' := hsp.1
      have HSp := Lib.hid hsp.2
      clear HAr HC3 HH3 hd' hr hsp
      go_wp2_with fail
      refine HSv.out.mono ?_
      rintro e w5 ⟨rfl, ⟨F5, hH5, hF5⟩, ht5⟩
      have hbw5 := hbw4.trans (ht5.below hbw4.size HV.out.f)
      have hs5 := ht5.size
      have HC5 := Lib.hid (K.turn HC4.out ht5 (fun x g f => by have := g.1; have := hltF x f; omega))
      have HH5 := Lib.hid hH5
      clear HSv HC4 hH5 ht5 hF5
      go_wp2_with fail
      go_loopw [12] (fun i wr => ∃ k : Nat, k ≤ 12 ∧ i = .int .i64 k ∧ Hid (Below w5.heap.size w5 wr)) (fun i _ => 12 - (intOf i).toNat)
      case atStart => exact ⟨0, by omega, rfl, Lib.hid (Below.refl _ _)⟩
      case round =>
        obtain ⟨k, hk, rfl, HW⟩ := hrel
        by_cases hk12 : k < 12
        · have hk12' : (k : Int) < 12 := by omega
          have HRa := Lib.hid (K.read (k : Int) (K.below HC5.out HW.out) (by omega) (by omega))
          go_wp2_with fail
          refine HRa.out.mono ?_
          rintro e w7 ⟨vb7, l7, k7, rfl, hrd7, hsl7, hb7⟩
          obtain ⟨rfl, rfl⟩ := rdV_in (by omega) hrd7
          have hW7 := below_two HW.out hb7
          have HRb := Lib.hid (K.read (k : Int) (K.below HH5.out hW7) (by omega) (by omega))
          obtain ⟨A7, cap7, rfl, hc7⟩ := Sg_form hsl7
          have HSL7 := Lib.hid hsl7
          clear HRa hrd7 hsl7
          go_wp2_with fail
          refine HRb.out.mono ?_
          rintro e w8 ⟨vb8, l8, k8, rfl, hrd8, hsl8, hb8⟩
          obtain ⟨rfl, rfl⟩ := rdV_in (by omega) hrd8
          have HW8 := Lib.hid (below_two hW7 hb8)
          obtain ⟨A8, cap8, rfl, hc8⟩ := Sg_form hsl8
          have hcv7 := conv_sg (HSL7.out.below hb8 (fun b g => g.2))
          have hcv8 := conv_sg hsl8
          clear HRb hrd8 hsl8 HSL7
          by_cases hlo : k < 1 + 4 * r
          · have hlo' : (k : Int) < 1 + 4 * (r : Int) := by omega
            rw [HSp.out k (Or.inl hlo)] at hcv8 hc8 ⊢
            generalize d.read k = S at *
            clear hb7 hb8
            go_wp2_with fail
            go_roundw
            case rel => exact ⟨k + 1, by omega, by go_num, HW8⟩
            case measure => simp [intOf]; omega
          · have hlo' : ¬ (k : Int) < 1 + 4 * (r : Int) := by omega
            by_cases hhi : 1 + 4 * r + 4 ≤ k
            · have hhi' : 1 + 4 * (r : Int) + 4 ≤ (k : Int) := by omega
              rw [HSp.out k (Or.inr hhi)] at hcv8 hc8 ⊢
              generalize d.read k = S at *
              clear hb7 hb8
              go_wp2_with fail
              go_roundw
              case rel => exact ⟨k + 1, by omega, by go_num, HW8⟩
              case measure => simp [intOf]; omega
            · have hhi' : ¬ 1 + 4 * (r : Int) + 4 ≤ (k : Int) := by omega
              clear hb7 hb8
              go_wp2_with fail
              go_roundw
              case rel => exact ⟨k + 1, by omega, by go_num, HW8⟩
              case measure => simp [intOf]; omega
        · have hk12' : ¬ (k : Int) < 12 := by omega
          have hbe := hbw5.trans (HW.out.mono hbw5.size)
          go_wp2
          go_ret
          exact ⟨rfl, hbe⟩
end

end Go.Proofs.Ytbjbnjpdackloaa
