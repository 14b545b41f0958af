/-
  The laws' own example of layer ring: two records, and a third one behind a truncation.
-/
import Derived.Test.YtfpojbnidoeohaaRgLaw3
namespace Go.Proofs.Ytfpojbnidoeohaa
open Go.RowKit

theorem rg_info8 : (Try.prog.info? 5).map (fun i => (i.zero, i.size, i.bytes)) = some (some (.int .u8 0), 1, 1) := by kernel_rfl
theorem rg_made {w w' : World} (h : w.grownBy w' none) : Below w.heap.size w w' := (Below.refl _ _).grown h (Nat.le_refl _) (fun j hj => by cases hj)

def z60 : List UInt8 := List.replicate 60 0
theorem z60_len : z60.length = 60 := List.length_replicate

theorem made60 {w w' : World} {g : Nat} (h : w'.ownsRow w.heap.size 5 1 (.slice (some ⟨g, 0, none⟩) 60 60) 60 (madeCells #[Value.int .u8 0] 60).toList) : SlB w' (fun b => w.heap.size ≤ b ∧ b < w'.heap.size) (.slice (some ⟨g, 0, none⟩) 60 60) z60 := by
  have := S.Sg.of_own h
  have e : (madeCells #[Value.int .u8 0] 60).toList = bytesV z60 := by rw [toList_madeCells_one]; simp [bytesV, z60]
  rw [e] at this
  exact this

def newD6 (n : Nat) : D.Dk := ⟨List.replicate n (D.full []), []⟩

/-- the rings of the example -/
def ra0 : G.Rg := ⟨newD6 6, 1, 4, 7, 0, 0⟩
def ra1 : G.Rg := ra0.put z60
def ra2 : G.Rg := ra1.put z60
def ra4 : G.Rg := { ra2 with low := 2 }
def ra5 : G.Rg := ra4.put z60

theorem ra_many : R.many z60.length = 2 := by rw [z60_len]; decide
theorem ra0_may : ra0.May := ⟨by decide, by decide, by decide, by decide, by decide⟩
theorem ra0_err : ra0.err z60 = 0 := by rw [G.Rg.err, ra_many]; decide
theorem ra1_next : ra1.next = 2 := by show 0 + R.many z60.length = 2; rw [ra_many]
theorem ra1_may : ra1.May := ra0_may.put ra0_err
theorem ra1_err : ra1.err z60 = 0 := by rw [G.Rg.err, G.Rg.free, ra_many, ra1_next]; rfl
theorem ra2_next : ra2.next = 4 := by show ra1.next + R.many z60.length = 4; rw [ra_many, ra1_next]
theorem ra2_may : ra2.May := ra1_may.put ra1_err
theorem ra2_err : ra2.err z60 = 3 := by rw [G.Rg.err, G.Rg.free, ra_many, ra2_next]; rfl
theorem ra4_trunc : ra2.trunc 2 = ra4 := by rw [G.Rg.trunc, ra2_next, if_pos ⟨by decide, by decide⟩]; rfl
theorem ra4_may : ra4.May := by rw [← ra4_trunc]; exact ra2_may.trunc 2
theorem ra4_next : ra4.next = 4 := ra2_next
theorem ra4_err : ra4.err z60 = 0 := by rw [G.Rg.err, G.Rg.free, ra_many, ra4_next]; rfl
theorem ra5_next : ra5.next = 6 := by show ra4.next + R.many z60.length = 6; rw [ra_many, ra4_next]
theorem ra5_free : ra5.free = 0 := by rw [G.Rg.free, ra5_next]; rfl
theorem ra1_row : ra1.d.row.length = 2 := by rw [ra1, G.put_row ra0_may, ra_many]; rfl
theorem ra2_row : ra2.d.row.length = 4 := by rw [ra2, G.put_row ra1_may, ra_many, ra1_row]
theorem ra4_row : ra4.d.row.length = 4 := ra2_row
theorem ra5_row : ra5.d.row.length = 6 := by rw [ra5, G.put_row ra4_may, ra_many, ra4_row]

section
variable {H : World → (Nat → Prop) → Value → D.Dk → Prop}

/-- a record of 60 zeros appended: what is told, and how the ring is then -/
theorem app60 (K : DiskOk H) (KF : FrameOk) {w0 w : World} {F : Nat → Prop} {v vd : Value} {r : G.Rg} (h : Rp H w F v vd r) {g : Nat} (hs : SlB w (fun b => w0.heap.size ≤ b ∧ b < w.heap.size) (.slice (some ⟨g, 0, none⟩) 60 60) z60) (hr : r.d.row.length ≤ 900) (e : Int) (t : Nat) (r' : G.Rg) (he : r.err z60 = e) (ht : r.told z60 = t) (hr' : r.append z60 = r') :
    Calls Try.prog 27 #[v, .slice (some ⟨g, 0, none⟩) 60 60] w fun x w' => x = .returned (.tuple #[.int .u32 (t : Int), .int .i64 e]) ∧ ∃ F', Rp H w' F' v vd r' ∧ (∀ b, F' b → F b ∨ w.heap.size ≤ b) ∧ Turn F w w' := by
  refine (ring_append K KF h hs (fun b g => g.2) (by rw [z60_len]; omega) hr).mono ?_
  rintro x w' ⟨rfl, a1, a2⟩
  rw [he, ht]
  rw [hr'] at a1
  exact ⟨rfl, _, a1, fun b g => g.imp id (fun g => g.1), a2⟩

set_option maxRecDepth 100000 in
set_option maxHeartbeats 4000000 in
theorem awake6_any (K : DiskOk H) (KF : FrameOk) (w : World) : Calls Try.prog 9 #[] w fun e w' => e = .returned (.bool true) ∧ Below w.heap.size w w' := by
  have HN := Lib.hid (K.new 6 w (by decide) (by decide))
  obtain ⟨i5, hi5, hz0, hz1, hz2⟩ := info_parts rg_info8
  have HB5 := Lib.hid (show i5.bytes * 60 ≤ 281474976710656 by rw [hz2]; decide)
  clear hz2
  go_enter Try.func9, Try.ntmps9
  go_wp2_with fail
  refine HN.out.mono ?_
  rintro e w1 ⟨vd, rfl, hH1, hb1⟩
  obtain ⟨da, rfl⟩ := K.ptr hH1
  have HR := Lib.hid (ring_new K hH1 1 4 7 0 0 (by decide) (by decide) (by decide) (by decide) (by decide) (by decide) (by decide))
  have hs1 := hb1.size
  clear HN hH1
  go_wp2_with fail
  refine HR.out.mono ?_
  rintro e w2 ⟨hb2, h2⟩
  have hs2 := hb2.size
  obtain ⟨_, v, rfl, hP2⟩ : mayB (List.replicate 6 (D.full [])).length 1 4 0 0 = true ∧ ∃ v, e = .returned v ∧ Rp H w2 (More (S.New w w1) w1 w2) v (.pointer (some da)) ra0 := by
    rcases h2 with ⟨h, _⟩ | h
    · exact absurd h (by decide)
    · exact h
  have hbw2 := below_two hb1 hb2
  have hF2 : ∀ b, More (S.New w w1) w1 w2 b → w.heap.size ≤ b := fun b g => g.elim (fun g => g.1) (fun g => by have := g.1; omega)
  generalize More (S.New w w1) w1 w2 = F2 at *
  obtain ⟨va, rfl⟩ := hP2.ptr
  have HP2 := Lib.hid hP2
  clear HR h2 hP2 hb1 hb2
  go_wp2_with (at_make; refine wpList_make_full _ rfl _ _ 44 rfl w2.heap.size 5 i5 (.int .u8 0) 1 Try.underlying44 hi5 hz0 hz1 .i64 .i64 60 60 60 rfl rfl rfl rfl HB5.out (by decide) (Nat.le_refl _) ?_)
  intro w3 hown3 hgrow3
  have hb3 := rg_made hgrow3
  have HC := Lib.hid (app60 K KF (w0 := w2) (HP2.out.below K hb3) (made60 hown3) (by decide) 0 2 ra1 ra0_err (by rw [told_ok ra0_err, ra_many]; rfl) (append_ok ra0_err))
  have hbw3 := below_two hbw2 hb3
  clear hown3 hgrow3 HP2
  go_wp2_with fail
  refine HC.out.mono ?_
  rintro e w4 ⟨rfl, F4, hP4, hF4', ht4⟩
  have hbw4 := hbw3.trans (ht4.below hbw3.size hF2)
  have hF4 : ∀ b, F4 b → w.heap.size ≤ b := fun b g => (hF4' b g).elim (hF2 b) (fun g => Nat.le_trans hbw3.size g)
  have HP4 := Lib.hid hP4
  clear HC hP4 ht4 hF4' hb3 hbw3
  go_wp2_with (at_make; refine wpList_make_full _ rfl _ _ 44 rfl w4.heap.size 5 i5 (.int .u8 0) 1 Try.underlying44 hi5 hz0 hz1 .i64 .i64 60 60 60 rfl rfl rfl rfl HB5.out (by decide) (Nat.le_refl _) ?_)
  intro w5 hown5 hgrow5
  have hb5 := rg_made hgrow5
  have HC := Lib.hid (app60 K KF (w0 := w4) (HP4.out.below K hb5) (made60 hown5) (by rw [ra1_row]; decide) 0 4 ra2 ra1_err (by rw [told_ok ra1_err, ra_many, ra1_next]) (append_ok ra1_err))
  have hbw5 := below_two hbw4 hb5
  clear hown5 hgrow5 HP4
  go_wp2_with fail
  refine HC.out.mono ?_
  rintro e w6 ⟨rfl, F6, hP6, hF6', ht6⟩
  have hbw6 := hbw5.trans (ht6.below hbw5.size hF4)
  have hF6 : ∀ b, F6 b → w.heap.size ≤ b := fun b g => (hF6' b g).elim (hF4 b) (fun g => Nat.le_trans hbw5.size g)
  have HP6 := Lib.hid hP6
  clear HC hP6 ht6 hF6' hb5 hbw5
  go_wp2_with (at_make; refine wpList_make_full _ rfl _ _ 44 rfl w6.heap.size 5 i5 (.int .u8 0) 1 Try.underlying44 hi5 hz0 hz1 .i64 .i64 60 60 60 rfl rfl rfl rfl HB5.out (by decide) (Nat.le_refl _) ?_)
  intro w7 hown7 hgrow7
  have hb7 := rg_made hgrow7
  have HC := Lib.hid (app60 K KF (w0 := w6) (HP6.out.below K hb7) (made60 hown7) (by rw [ra2_row]; decide) 3 0 ra2 ra2_err (by rw [told_no (by rw [ra2_err]; decide)]) (append_no (by rw [ra2_err]; decide)))
  have hbw7 := below_two hbw6 hb7
  clear hown7 hgrow7 HP6
  go_wp2_with fail
  refine HC.out.mono ?_
  rintro e w8 ⟨rfl, F8, hP8, hF8', ht8⟩
  have hbw8 := hbw7.trans (ht8.below hbw7.size hF6)
  have hF8 : ∀ b, F8 b → w.heap.size ≤ b := fun b g => (hF8' b g).elim (hF6 b) (fun g => Nat.le_trans hbw7.size g)
  have HT := Lib.hid (ring_trunc K hP8 2 (by decide))
  rw [ra4_trunc] at HT
  clear HC hP8 ht8 hF8' hb7 hbw7
  go_wp2_with fail
  refine HT.out.mono ?_
  rintro e w9 ⟨rfl, hP9, ht9⟩
  have hbw9 := hbw8.trans (ht9.below hbw8.size hF8)
  have HP9 := Lib.hid hP9
  clear HT hP9 ht9
  go_wp2_with (at_make; refine wpList_make_full _ rfl _ _ 44 rfl w9.heap.size 5 i5 (.int .u8 0) 1 Try.underlying44 hi5 hz0 hz1 .i64 .i64 60 60 60 rfl rfl rfl rfl HB5.out (by decide) (Nat.le_refl _) ?_)
  intro wa hownA hgrowA
  have hbA := rg_made hgrowA
  have HC := Lib.hid (app60 K KF (w0 := w9) (HP9.out.below K hbA) (made60 hownA) (by rw [ra4_row]; decide) 0 6 ra5 ra4_err (by rw [told_ok ra4_err, ra_many, ra4_next]) (append_ok ra4_err))
  have hbwA := below_two hbw9 hbA
  clear hownA hgrowA HP9
  go_wp2_with fail
  refine HC.out.mono ?_
  rintro e wb ⟨rfl, FB, hPB, hFB', htB⟩
  have hbwB := hbwA.trans (htB.below hbwA.size hF8)
  have HFr := Lib.hid (ring_free hPB)
  rw [ra5_free] at HFr
  have HPB := Lib.hid hPB
  clear HC htB hFB' hbA hbwA hPB
  go_wp2_with fail
  refine HFr.out.mono ?_
  rintro e wc ⟨rfl, hbC⟩
  have hPC := HPB.out.below K hbC
  have HLo : Hid (Calls Try.prog 16 #[.pointer (some va)] wc fun e w' => e = .returned (.int .u32 2) ∧ Below wc.heap.size wc w') := Lib.hid (ring_low hPC)
  have hbwC := below_two hbwB hbC
  have HPC := Lib.hid hPC
  clear HFr HPB hbC hPC
  go_wp2_with fail
  refine HLo.out.mono ?_
  rintro e wd ⟨rfl, hbD⟩
  obtain ⟨Fd, _, hDD⟩ := (HPC.out.below K hbD).disk
  have HPe := Lib.hid (K.pending hDD)
  rw [ra5_row] at HPe
  have hbwD := below_two hbwC hbD
  clear HLo hbD hDD HPC
  go_wp2_with fail
  refine HPe.out.mono ?_
  rintro e we ⟨rfl, hbE⟩
  have hbwE := below_two hbwD hbE
  go_wp2
  go_ret
  exact ⟨rfl, hbwE⟩
end

end Go.Proofs.Ytfpojbnidoeohaa
