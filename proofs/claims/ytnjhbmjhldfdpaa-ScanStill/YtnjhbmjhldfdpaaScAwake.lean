/-
  Walks of layer scan's laws: awake.
-/
import Derived.Test.YtnjhbmjhldfdpaaScLaw1
namespace Go.Proofs.Ytnjhbmjhldfdpaa
open Go.RowKit

theorem sc_info8 : (Try.prog.info? 5).map (fun i => (i.zero, i.size, i.bytes)) = some (some (.int .u8 0), 1, 1) := by kernel_rfl
theorem sc_made {w w' : World} (h : w.grownBy w' none) : Below w.heap.size w w' := (Below.refl _ _).grown h (Nat.le_refl _) (fun j hj => by cases hj)
theorem made60 {w w' : World} {g : Nat} (h : w'.ownsRow w.heap.size 5 1 (.slice (some ⟨g, 0, none⟩) 60 60) 60 (madeCells #[Value.int .u8 0] 60).toList) : SlB w' (fun b => w.heap.size ≤ b ∧ b < w'.heap.size) (.slice (some ⟨g, 0, none⟩) 60 60) z60 := by
  have := S.Sg.of_own h
  have e : (madeCells #[Value.int .u8 0] 60).toList = bytesV z60 := by rw [toList_madeCells_one]; simp [bytesV, z60]
  rw [e] at this
  exact this

/-- a constant's bytes in a block of their own -/
theorem sl_const (w : World) (l : List UInt8) (m : Nat × Nat) : SlB (w.alloc (.cells (bytesV l).toArray 5 m)) (fun b => b = w.heap.size) (.slice (some ⟨w.heap.size, 0, none⟩) l.length l.length) l :=
  ⟨by rw [bytesV_length]; omega, _, _, rfl, Nat.le_refl _, fun _ => ⟨_, rfl, rfl, fun j u hj => by
    rw [Addr.add_mid, cell_of_row _ _ _ (bytesV l).toArray 5 m (heap_alloc_new w _), Nat.zero_add]
    simpa using hj⟩⟩
theorem sl_bools (w : World) (l : List Bool) : SlT (w.alloc (.cells (boolV l).toArray 4)) (fun b => b = w.heap.size) (.slice (some ⟨w.heap.size, 0, none⟩) l.length l.length) l :=
  ⟨by rw [boolV_length]; omega, _, _, rfl, Nat.le_refl _, fun _ => ⟨_, rfl, rfl, fun j u hj => by
    rw [Addr.add_mid, cell_of_row _ _ _ (boolV l).toArray 4 (0, 0) (heap_alloc_new w _), Nat.zero_add]
    simpa using hj⟩⟩

theorem Recs.head {w : World} {F : Nat → Prop} {v : Value} {x : Nat × List UInt8} {L : List (Nat × List UInt8)} (h : Recs w F v (x :: L)) : ∃ a cap vb, v = .slice (some a) (L.length + 1) cap ∧ L.length + 1 ≤ cap ∧ w.cell? ⟨a.block, a.off + 1, none⟩ = some vb ∧ SlB w F vb x.2 := by
  obtain ⟨A, cap, e, hc, hx⟩ := h
  obtain ⟨a, rfl, hg, hx⟩ := hx (by simp)
  obtain ⟨vb, h0, h1, hv⟩ := hx 0 (by simp)
  exact ⟨a, cap, vb, e, hc, by rw [← h1, Nat.zero_mul, ap_add a 0], hv⟩

section
variable {H : World → (Nat → Prop) → Value → D.Dk → Prop}

/-- a record appended: what is told, and how the ring is then -/
theorem app7 (K : DiskOk H) (KF : FrameOk) {w : World} {F Gb : Nat → Prop} {v vd vb : Value} {r : G.Rg} {rec : List UInt8} (h : Rp H w F v vd r) (hs : SlB w Gb vb rec) (hG : ∀ b, Gb b → b < w.heap.size) (hl : rec.length ≤ 1000) (hr : r.d.row.length ≤ 900) (e : Int) (t : Nat) (r' : G.Rg) (he : r.err rec = e) (ht : r.told rec = t) (hr' : r.append rec = r') :
    Calls Try.prog 24 #[v, vb] w fun x w' => x = .returned (.tuple #[.int .u32 (t : Int), .int .i64 e]) ∧ ∃ F', Rp H w' F' v vd r' ∧ (∀ b, F' b → F b ∨ w.heap.size ≤ b) ∧ Turn F w w' := by
  refine (ring_append K KF h hs hG hl hr).mono ?_
  rintro x w' ⟨rfl, a1, a2⟩
  rw [he, ht]
  rw [hr'] at a1
  exact ⟨rfl, _, a1, fun b g => g.imp id (fun g => g.1), a2⟩

set_option maxRecDepth 100000 in
set_option maxHeartbeats 4000000 in
theorem awake7_any (K : DiskOk H) (KF : FrameOk) (w : World) : Calls Try.prog 9 #[] w fun e w' => e = .returned (.bool true) ∧ Below w.heap.size w w' := by
  have HN := Lib.hid (K.new 12 w (by decide) (by decide))
  obtain ⟨i5, hi5, hz0, hz1, hz2⟩ := info_parts sc_info8
  have HB5 := Lib.hid (show i5.bytes * 60 ≤ 281474976710656 by rw [hz2]; decide)
  clear hz2
  go_enter Try.func9, Try.ntmps9
  go_wp2_with fail
  refine HN.out.mono ?_
  rintro e w1 ⟨vd, rfl, hH1, hb1⟩
  obtain ⟨da, rfl⟩ := K.ptr hH1
  have HH1 := Lib.hid hH1
  have HP := Lib.hid (place7_any w1)
  have hs1 := hb1.size
  clear HN hH1
  go_wp2_with fail
  refine HP.out.mono ?_
  rintro e wp ⟨rfl, hbp⟩
  have HR := Lib.hid (ring_new K (K.below HH1.out hbp) 2 8 3 0 0 (by decide) (by decide) (by decide) (by decide) (by decide) (by decide) (by decide))
  clear HP
  have hsp := hbp.size
  go_wp2_with fail
  refine HR.out.mono ?_
  rintro e w2 ⟨hb2, h2⟩
  have hs2 := hb2.size
  obtain ⟨_, v, rfl, hP2⟩ : mayB (List.replicate 12 (D.full [])).length 2 8 0 0 = true ∧ ∃ v, e = .returned v ∧ Rp H w2 (More (S.New w w1) wp w2) v (.pointer (some da)) rb0 := by
    rcases h2 with ⟨h, _⟩ | h
    · exact absurd h (by decide)
    · exact h
  have hbw2 := below_two (below_two hb1 hbp) hb2
  have hF2 : ∀ b, More (S.New w w1) wp w2 b → w.heap.size ≤ b := fun b g => g.elim (fun g => g.1) (fun g => by have := g.1; omega)
  generalize More (S.New w w1) wp w2 = F2 at *
  obtain ⟨va, rfl⟩ := hP2.ptr
  have hbo : Below w2.heap.size w2 (w2.alloc (.cells #[.int .u8 111, .int .u8 110, .int .u8 101] 5 (3, 4))) := (Below.refl _ _).alloc (Nat.le_refl _) _
  have kc := Lib.run_convert_bytes_const (P := Try.prog) w2 36 5 #[.int .u8 111, .int .u8 110, .int .u8 101] 3 3 Try.underlying36 Try.underlying5
  have HC := Lib.hid (app7 K KF (vb := .slice (some ⟨w2.heap.size, 0, none⟩) 3 3) (rec := one) (hP2.below K hbo) (sl_const w2 one (3, 4)) (fun b g => by subst g; simp) (by decide) (by decide) 0 1 rb1 rb0_err (by rw [told_ok rb0_err]; rfl) (append_ok rb0_err))
  have hbwo := below_two hbw2 hbo
  clear HR h2 hP2 hb1 hb2 hbp hbo HH1
  go_wp2_with fail
  refine HC.out.mono ?_
  rintro e w3 ⟨rfl, F3, hP3, hF3', ht3⟩
  have hbw3 := hbwo.trans (ht3.below hbwo.size hF2)
  have hF3 : ∀ b, F3 b → w.heap.size ≤ b := fun b g => (hF3' b g).elim (hF2 b) (fun g => Nat.le_trans hbwo.size g)
  have HP3 := Lib.hid hP3
  clear HC hP3 ht3 hF3' hbwo kc
  go_wp2_with (at_make; refine wpList_make_full _ rfl _ _ 36 rfl w3.heap.size 5 i5 (.int .u8 0) 1 Try.underlying36 hi5 hz0 hz1 .i64 .i64 60 60 60 rfl rfl rfl rfl HB5.out (by decide) (Nat.le_refl _) ?_)
  intro w4 hown4 hgrow4
  have hb4 := sc_made hgrow4
  have HC := Lib.hid (app7 K KF (HP3.out.below K hb4) (made60 hown4) (fun b g => g.2) (by rw [z60_len]; decide) (by rw [rb1_row]; decide) 0 3 rb2 rb1_err (by rw [told_ok rb1_err, rb_many, rb1_next]) (append_ok rb1_err))
  have hbw4 := below_two hbw3 hb4
  clear hown4 hgrow4 HP3
  go_wp2_with fail
  refine HC.out.mono ?_
  rintro e w5 ⟨rfl, F5, hP5, hF5', ht5⟩
  have hbw5 := hbw4.trans (ht5.below hbw4.size hF3)
  have hF5 : ∀ b, F5 b → w.heap.size ≤ b := fun b g => (hF5' b g).elim (hF3 b) (fun g => Nat.le_trans hbw4.size g)
  have hbo : Below w5.heap.size w5 (w5.alloc (.cells #[.int .u8 116, .int .u8 104, .int .u8 114, .int .u8 101, .int .u8 101] 5 (5, 6))) := (Below.refl _ _).alloc (Nat.le_refl _) _
  have kc := Lib.run_convert_bytes_const (P := Try.prog) w5 36 5 #[.int .u8 116, .int .u8 104, .int .u8 114, .int .u8 101, .int .u8 101] 5 5 Try.underlying36 Try.underlying5
  have HC2 := Lib.hid (app7 K KF (vb := .slice (some ⟨w5.heap.size, 0, none⟩) 5 5) (rec := three) (hP5.below K hbo) (sl_const w5 three (5, 6)) (fun b g => by subst g; simp) (by decide) (by rw [rb2_row]; decide) 0 4 rb3 rb2_err (by rw [told_ok rb2_err, rb2_next]; rfl) (append_ok rb2_err))
  have hbwo := below_two hbw5 hbo
  clear HC hP5 ht5 hF5' hbw4 hb4 hbo
  go_wp2_with fail
  refine HC2.out.mono ?_
  rintro e w6 ⟨rfl, F6, hP6, hF6', ht6⟩
  have hbw6 := hbwo.trans (ht6.below hbwo.size hF5)
  have hF6 : ∀ b, F6 b → w.heap.size ≤ b := fun b g => (hF6' b g).elim (hF5 b) (fun g => Nat.le_trans hbwo.size g)
  have HP6 := Lib.hid hP6
  have HPl := Lib.hid (place7_any w6)
  clear HC2 hP6 ht6 hF6' hbwo kc
  go_wp2_with fail
  refine HPl.out.mono ?_
  rintro e w7 ⟨rfl, hb7⟩
  have HS := Lib.hid (ring_scan K KF (HP6.out.below K hb7) 2 8 3 0 (by decide) (by decide) (by decide) (by decide))
  rw [show rb3.d = rb3.d from rfl, rb3_all] at HS
  have hbw7 := below_two hbw6 hb7
  clear HPl
  go_wp2_with fail
  refine HS.out.mono ?_
  rintro e w8 ⟨vl, rfl, hRc8, hb8⟩
  obtain ⟨A8, cap8, rfl, hc8⟩ := hRc8.form
  have hbw8 := below_two hbw7 hb8
  have HP8 := Lib.hid ((HP6.out.below K hb7).below K hb8)
  clear hRc8 HS HP6 hb7
  have hbk : Below w8.heap.size w8 (w8.alloc (.cells #[.bool true, .bool true, .bool false, .bool true] 4)) := (Below.refl _ _).alloc (Nat.le_refl _) _
  have hlt8 := HP8.out.lt
  have HCr := Lib.hid (ring_crash K (vk := .slice (some ⟨w8.heap.size, 0, none⟩) 4 4) (HP8.out.below K hbk) (sl_bools w8 [true, true, false, true]) (fun b g => by subst g; simp) (fun b g f => by subst g; have := hlt8 _ f; omega))
  have hbwk := below_two hbw8 hbk
  clear hb8 hbk HP8
  go_wp2_with fail
  refine HCr.out.mono ?_
  rintro e w9 ⟨rfl, hP9, ht9⟩
  have hbw9 := hbwk.trans (ht9.below hbwk.size hF6)
  have HP9 := Lib.hid hP9
  have HPl := Lib.hid (place7_any w9)
  clear HCr hP9 ht9 hbwk
  go_wp2_with fail
  refine HPl.out.mono ?_
  rintro e wa ⟨rfl, hba⟩
  have HS := Lib.hid (ring_scan K KF (HP9.out.below K hba) 2 8 3 0 (by decide) (by decide) (by decide) (by decide))
  rw [show ({ rb3 with d := rb3.d.crash [true, true, false, true] } : G.Rg).d = rb3.d.crash [true, true, false, true] from rfl, rb3_crash] at HS
  have hbwa := below_two hbw9 hba
  clear HPl
  go_wp2_with fail
  refine HS.out.mono ?_
  rintro e wb ⟨vk, rfl, hRcb, hbb⟩
  have hbwb := below_two hbwa hbb
  obtain ⟨ak, capk, vb, rfl, hck, c1, hsb⟩ := hRcb.head
  have hsb : SlB wb (S.New wa wb) vb one := hsb
  have hcv := conv_sg hsb
  obtain ⟨Ab, capb, rfl, hcb⟩ := Sg_form hsb
  clear hRcb HS HP9 hba hbb hsb
  rw [show ([] : List (Nat × List UInt8)).length + 1 = 1 from rfl] at *
  rw [show one.length = 3 from rfl] at hcv hcb c1
  rw [show (⟨one.toArray⟩ : ByteArray) = ⟨#[111, 110, 101]⟩ from rfl] at hcv
  go_wp2
  go_ret
  exact ⟨rfl, hbwb⟩
end

end Go.Proofs.Ytnjhbmjhldfdpaa
