/-
  The walk of the law RingPlays.
-/
import Derived.Test.YtfpojbnidoeohaaRgPlaysN
namespace Go.Proofs.Ytfpojbnidoeohaa
open Go.RowKit

theorem agg3 {x1 x2 x3 a b c : Value} {r : G.Rg} (h : Value.agg (rgC x1 x2 x3 r).toArray = .agg #[a, b, c, .int .i64 (r.first : Int), .int .i64 (r.many : Int), .int .u32 (r.epoch : Int), .int .u32 (r.low : Int), .int .u32 (r.next : Int)]) : x1 = a ∧ x2 = b ∧ x3 = c := by
  simpa [rgC] using h

section
variable {H : World → (Nat → Prop) → Value → D.Dk → Prop}

set_option maxRecDepth 100000 in
set_option maxHeartbeats 16000000 in
theorem playsY_any (K : DiskOk H) (KF : FrameOk) (first many : Nat) (epoch low next : Nat) (v : Value) (l : List Dd) (w : World) (Gd : Nat → Prop) (hd : Dds w Gd v l) (hG : ∀ b, Gd b → b < w.heap.size) (hl : l.length ≤ 9223372036854775807) (he : epoch < 4294967296) (hlo : low < 4294967296) (hnx : next < 4294967296) (hf1 : first ≤ 1024) (hm1 : many ≤ 1024) (hmay : mayB 12 (first : Int) (many : Int) low next = true) :
    Calls Try.prog 3 #[.agg #[.int .i64 (first : Int), .int .i64 (many : Int), .int .u32 (epoch : Int), .int .u32 (low : Int), .int .u32 (next : Int)], v] w fun e w' => e = .returned (.bool true) ∧ Below w.heap.size w w' := by
  have HD := Lib.hid hd
  obtain ⟨A, cap, rfl, hc, _, _⟩ := hd
  have P0 := Bk.new w [.int .i64 (first : Int), .int .i64 (many : Int), .int .u32 (epoch : Int), .int .u32 (low : Int), .int .u32 (next : Int)] 26 rfl
  have hb0 : Below w.heap.size w (w.alloc (.cells #[.int .i64 (first : Int), .int .i64 (many : Int), .int .u32 (epoch : Int), .int .u32 (low : Int), .int .u32 (next : Int)] 26)) := (Below.refl _ _).alloc (Nat.le_refl _) _
  have HA := Lib.hid (awake6_any K KF (w.alloc (.cells #[.int .i64 (first : Int), .int .i64 (many : Int), .int .u32 (epoch : Int), .int .u32 (low : Int), .int .u32 (next : Int)] 26)))
  go_enter Try.func3, Try.ntmps3
  go_wp2_with fail
  refine HA.out.mono ?_
  rintro e w1 ⟨rfl, hb1⟩
  have HP1 := Lib.hid (P0.step hb1)
  have hbw1 := below_two hb0 hb1
  have hp1 : w.heap.size < w1.heap.size := Nat.lt_of_lt_of_le (by simp) hb1.size
  clear P0 HA hb0 hb1
  have HN := Lib.hid (K.new 12 w1 (by decide) (by decide))
  go_wp2_with fail
  refine HN.out.mono ?_
  rintro e w2 ⟨vd, rfl, hH2, hb2⟩
  obtain ⟨da, rfl⟩ := K.ptr hH2
  have hs2 := hb2.size
  have hbw2 := below_two hbw1 hb2
  have P2 := HP1.out.step hb2
  have HP2 := Lib.hid P2
  have HNw := Lib.hid (ring_new K hH2 (first : Int) (many : Int) epoch low next (by omega) (by omega) (by omega) (by omega) he hlo hnx)
  generalize hpe : w.heap.size = p at HP1 HP2 P2 hp1
  have p0 := P2.cell 0 _ rfl
  have p1 := P2.cell 1 _ rfl
  have p2 := P2.cell 2 _ rfl
  have p3 := P2.cell 3 _ rfl
  have p4 := P2.cell 4 _ rfl
  clear HP1 P2 HN hH2
  go_wp2_with fail
  refine HNw.out.mono ?_
  rintro e w3 ⟨hb3, h3⟩
  have hs3 := hb3.size
  have hbw3 := below_two hbw2 hb3
  obtain ⟨_, vr, rfl, hP3⟩ : mayB (List.replicate 12 (D.full [])).length (first : Int) (many : Int) low next = true ∧ ∃ v, e = .returned v ∧ Rp H w3 (More (S.New w1 w2) w2 w3) v (.pointer (some da)) ⟨newD6 12, first, many, epoch, low, next⟩ := by
    rcases h3 with ⟨h, _⟩ | ⟨h, v, e1, e2⟩
    · rw [List.length_replicate, hmay] at h; cases h
    · exact ⟨h, v, e1, e2⟩
  obtain ⟨pa, rfl⟩ := hP3.ptr
  have hF3 : ∀ b, More (S.New w1 w2) w2 w3 b → w1.heap.size ≤ b := fun b g => g.elim (fun g => g.1) (fun g => by have := g.1; omega)
  generalize More (S.New w1 w2) w2 w3 = F3 at *
  have HP3 := Lib.hid hP3
  have hfl3 := hP3.lt
  clear hP3
  have HS3 := Lib.hid (HP2.out.step hb3)
  clear HNw h3 p0 p1 p2 p3 p4 HP2 hb3
  have HSd : Hid (w3.drew.cell? ⟨p, 0, none⟩ = some (.int .i64 (first : Int)) ∧ w3.drew.cell? ⟨p, 1, none⟩ = some (.int .i64 (many : Int)) ∧ w3.drew.cell? ⟨p, 2, none⟩ = some (.int .u32 (epoch : Int)) ∧ w3.drew.cell? ⟨p, 3, none⟩ = some (.int .u32 (low : Int)) ∧ w3.drew.cell? ⟨p, 4, none⟩ = some (.int .u32 (next : Int))) := Lib.hid ⟨HS3.out.cell 0 _ rfl, HS3.out.cell 1 _ rfl, HS3.out.cell 2 _ rfl, HS3.out.cell 3 _ rfl, HS3.out.cell 4 _ rfl⟩
  have HSz : Hid ((w3.alloc (.cells #[nilV, nilV, nilV, .int .i64 0, .int .i64 0, .int .u32 0, .int .u32 0, .int .u32 0] 39)).drew.cell? ⟨p, 0, none⟩ = some (.int .i64 (first : Int)) ∧ (w3.alloc (.cells #[nilV, nilV, nilV, .int .i64 0, .int .i64 0, .int .u32 0, .int .u32 0, .int .u32 0] 39)).drew.cell? ⟨p, 1, none⟩ = some (.int .i64 (many : Int)) ∧ (w3.alloc (.cells #[nilV, nilV, nilV, .int .i64 0, .int .i64 0, .int .u32 0, .int .u32 0, .int .u32 0] 39)).drew.cell? ⟨p, 2, none⟩ = some (.int .u32 (epoch : Int)) ∧ (w3.alloc (.cells #[nilV, nilV, nilV, .int .i64 0, .int .i64 0, .int .u32 0, .int .u32 0, .int .u32 0] 39)).drew.cell? ⟨p, 3, none⟩ = some (.int .u32 (low : Int)) ∧ (w3.alloc (.cells #[nilV, nilV, nilV, .int .i64 0, .int .i64 0, .int .u32 0, .int .u32 0, .int .u32 0] 39)).drew.cell? ⟨p, 4, none⟩ = some (.int .u32 (next : Int))) := Lib.hid (have q := HS3.out.alloc (.cells #[nilV, nilV, nilV, .int .i64 0, .int .i64 0, .int .u32 0, .int .u32 0, .int .u32 0] 39); ⟨q.cell 0 _ rfl, q.cell 1 _ rfl, q.cell 2 _ rfl, q.cell 3 _ rfl, q.cell 4 _ rfl⟩)
  have hpl3 := HS3.out.lt
  have HAl : Hid (∀ (w' : World) (o : Obj), (w'.cell? ⟨p, 0, none⟩ = some (.int .i64 (first : Int)) ∧ w'.cell? ⟨p, 1, none⟩ = some (.int .i64 (many : Int)) ∧ w'.cell? ⟨p, 2, none⟩ = some (.int .u32 (epoch : Int)) ∧ w'.cell? ⟨p, 3, none⟩ = some (.int .u32 (low : Int)) ∧ w'.cell? ⟨p, 4, none⟩ = some (.int .u32 (next : Int))) → (w'.alloc o).cell? ⟨p, 0, none⟩ = some (.int .i64 (first : Int)) ∧ (w'.alloc o).cell? ⟨p, 1, none⟩ = some (.int .i64 (many : Int)) ∧ (w'.alloc o).cell? ⟨p, 2, none⟩ = some (.int .u32 (epoch : Int)) ∧ (w'.alloc o).cell? ⟨p, 3, none⟩ = some (.int .u32 (low : Int)) ∧ (w'.alloc o).cell? ⟨p, 4, none⟩ = some (.int .u32 (next : Int))) := Lib.hid (fun w' o h =>
    have q (a : Addr) (u : Value) (h : w'.cell? a = some u) : (w'.alloc o).cell? a = some u := (((Below.refl w'.heap.size w').alloc (Nat.le_refl _) o).cell (World.block_lt_of_cell? w' a h)).trans h
    ⟨q _ _ h.1, q _ _ h.2.1, q _ _ h.2.2.1, q _ _ h.2.2.2.1, q _ _ h.2.2.2.2⟩)
  have HRn : Hid (∀ wd, Below w3.heap.size w3 wd → Calls Try.prog 12 #[.int .i64 12] wd fun e w' => ∃ B1 f1 B2 f2 B3 f3, e = .returned (.agg #[.slice B1 12 f1, .slice B2 0 f2, .slice B3 0 f3]) ∧ Rd w' (S.New wd w') (.agg #[.slice B1 12 f1, .slice B2 0 f2, .slice B3 0 f3]) (newD6 12) ∧ Below wd.heap.size wd w' ∧ (w'.cell? ⟨p, 0, none⟩ = some (.int .i64 (first : Int)) ∧ w'.cell? ⟨p, 1, none⟩ = some (.int .i64 (many : Int)) ∧ w'.cell? ⟨p, 2, none⟩ = some (.int .u32 (epoch : Int)) ∧ w'.cell? ⟨p, 3, none⟩ = some (.int .u32 (low : Int)) ∧ w'.cell? ⟨p, 4, none⟩ = some (.int .u32 (next : Int)))) := Lib.hid (fun wd hbd => (rnew_any 12 wd (by decide)).mono (fun e w' ⟨x, e1, hR, hb⟩ => by
    obtain ⟨B1, f1, B2, f2, B3, f3, rfl⟩ := hR.form
    have q := HS3.out.step (below_two hbd hb)
    exact ⟨B1, f1, B2, f2, B3, f3, by rw [e1]; simp, hR, hb, q.cell 0 _ rfl, q.cell 1 _ rfl, q.cell 2 _ rfl, q.cell 3 _ rfl, q.cell 4 _ rfl⟩))
  have hbz : Below w3.heap.size w3 (w3.alloc (.cells #[nilV, nilV, nilV, .int .i64 0, .int .i64 0, .int .u32 0, .int .u32 0, .int .u32 0] 39)) := (Below.refl _ _).alloc (Nat.le_refl _) _
  have hbd1 := Lib.hid (Below.drew (Below.refl w3.heap.size w3))
  have hbd2 := Lib.hid hbz.drew
  have HZ3 := Lib.hid (Bk.new w3 [nilV, nilV, nilV, .int .i64 0, .int .i64 0, .int .u32 0, .int .u32 0, .int .u32 0] 39 rfl).drew
  have nXp : w3.heap.size ≠ p := by omega
  have HA8 : Hid (∀ (w' : World) (u0 u1 u2 u3 u4 u5 u6 u7 : Value), (w'.cell? ⟨p, 0, none⟩ = some (.int .i64 (first : Int)) ∧ w'.cell? ⟨p, 1, none⟩ = some (.int .i64 (many : Int)) ∧ w'.cell? ⟨p, 2, none⟩ = some (.int .u32 (epoch : Int)) ∧ w'.cell? ⟨p, 3, none⟩ = some (.int .u32 (low : Int)) ∧ w'.cell? ⟨p, 4, none⟩ = some (.int .u32 (next : Int))) → (set8 w' w3.heap.size u0 u1 u2 u3 u4 u5 u6 u7).cell? ⟨p, 0, none⟩ = some (.int .i64 (first : Int)) ∧ (set8 w' w3.heap.size u0 u1 u2 u3 u4 u5 u6 u7).cell? ⟨p, 1, none⟩ = some (.int .i64 (many : Int)) ∧ (set8 w' w3.heap.size u0 u1 u2 u3 u4 u5 u6 u7).cell? ⟨p, 2, none⟩ = some (.int .u32 (epoch : Int)) ∧ (set8 w' w3.heap.size u0 u1 u2 u3 u4 u5 u6 u7).cell? ⟨p, 3, none⟩ = some (.int .u32 (low : Int)) ∧ (set8 w' w3.heap.size u0 u1 u2 u3 u4 u5 u6 u7).cell? ⟨p, 4, none⟩ = some (.int .u32 (next : Int))) := Lib.hid (fun w' u0 u1 u2 u3 u4 u5 u6 u7 h =>
    ⟨set8_other (a := ⟨p, 0, none⟩) h.1 nXp u0 u1 u2 u3 u4 u5 u6 u7, set8_other (a := ⟨p, 1, none⟩) h.2.1 nXp u0 u1 u2 u3 u4 u5 u6 u7, set8_other (a := ⟨p, 2, none⟩) h.2.2.1 nXp u0 u1 u2 u3 u4 u5 u6 u7, set8_other (a := ⟨p, 3, none⟩) h.2.2.2.1 nXp u0 u1 u2 u3 u4 u5 u6 u7, set8_other (a := ⟨p, 4, none⟩) h.2.2.2.2 nXp u0 u1 u2 u3 u4 u5 u6 u7⟩)
  have hFn : ∀ b, F3 b → b < w3.heap.size := fun b g => hfl3 b g
  clear hbz
  go_wp2_with fail
  go_region_held3 (fun w' => w'.cell? ⟨p, 0, none⟩ = some (.int .i64 (first : Int)) ∧ w'.cell? ⟨p, 1, none⟩ = some (.int .i64 (many : Int)) ∧ w'.cell? ⟨p, 2, none⟩ = some (.int .u32 (epoch : Int)) ∧ w'.cell? ⟨p, 3, none⟩ = some (.int .u32 (low : Int)) ∧ w'.cell? ⟨p, 4, none⟩ = some (.int .u32 (next : Int)))
    (first | with_reducible exact HSd.out | with_reducible exact HSz.out | with_reducible assumption | with_reducible exact HAl.out _ _ (by assumption))
    (first
      | (go_at_call 12
         (with_reducible refine (HRn.out _ hbd1.out).mono ?_)
         rintro e w4 ⟨B1, f1, B2, f2, B3, f3, rfl, hR4, hb4, hS4⟩)
      | (go_at_call 12
         (with_reducible refine (HRn.out _ hbd2.out).mono ?_)
         rintro e w4 ⟨B1, f1, B2, f2, B3, f3, rfl, hR4, hb4, hS4⟩
         have hZ4 := HZ3.out.step hb4
         have ya0 := hZ4.cell 0 _ rfl
         have ya1 := hZ4.cell 1 _ rfl
         have ya2 := hZ4.cell 2 _ rfl
         have ya3 := hZ4.cell 3 _ rfl
         have ya4 := hZ4.cell 4 _ rfl
         have ya5 := hZ4.cell 5 _ rfl
         have ya6 := hZ4.cell 6 _ rfl
         have ya7 := hZ4.cell 7 _ rfl
         have yf0 := hZ4.fz 0 (by simp)
         have yf1 := hZ4.fz 1 (by simp)
         have yf2 := hZ4.fz 2 (by simp)
         have yf3 := hZ4.fz 3 (by simp)
         have yf4 := hZ4.fz 4 (by simp)
         have yf5 := hZ4.fz 5 (by simp)
         have yf6 := hZ4.fz 6 (by simp)
         have yf7 := hZ4.fz 7 (by simp)
         have hA' := HA8.out w4 (.slice B1 12 f1) (.slice B2 0 f2) (.slice B3 0 f3) (.int .i64 (first : Int)) (.int .i64 (many : Int)) (.int .u32 (epoch : Int)) (.int .u32 (low : Int)) (.int .u32 (next : Int)) hS4))
  · have hbd9 : Below w3.heap.size w3 w4 := below_two hbd1.out hb4
    have hX5 : Bk (w4.alloc (.cells #[.slice B1 12 f1, .slice B2 0 f2, .slice B3 0 f3, .int .i64 (first : Int), .int .i64 (many : Int), .int .u32 (epoch : Int), .int .u32 (low : Int), .int .u32 (next : Int)] 39)) w4.heap.size [.slice B1 12 f1, .slice B2 0 f2, .slice B3 0 f3, .int .i64 (first : Int), .int .i64 (many : Int), .int .u32 (epoch : Int), .int .u32 (low : Int), .int .u32 (next : Int)] := Bk.new w4 [.slice B1 12 f1, .slice B2 0 f2, .slice B3 0 f3, .int .i64 (first : Int), .int .i64 (many : Int), .int .u32 (epoch : Int), .int .u32 (low : Int), .int .u32 (next : Int)] 39 rfl
    have HB5' : Below w3.heap.size w3 (w4.alloc (.cells #[.slice B1 12 f1, .slice B2 0 f2, .slice B3 0 f3, .int .i64 (first : Int), .int .i64 (many : Int), .int .u32 (epoch : Int), .int .u32 (low : Int), .int .u32 (next : Int)] 39)) := below_two hbd9 ((Below.refl _ _).alloc (Nat.le_refl _) _)
    have HL0 : Hid (Lp6 H w w4.heap.size (.pointer (some pa)) (.pointer (some da)) F3 (S.New w3.drew w4) ⟨newD6 12, first, many, epoch, low, next⟩ (w4.alloc (.cells #[.slice B1 12 f1, .slice B2 0 f2, .slice B3 0 f3, .int .i64 (first : Int), .int .i64 (many : Int), .int .u32 (epoch : Int), .int .u32 (low : Int), .int .u32 (next : Int)] 39))) := Lib.hid (Lp6.start K (HP3.out.below K hbd1.out) (fun b g => by have := hF3 b g; omega) (below_two hbw3 hbd1.out) hR4 hb4 39)
    have HBW5 := Lib.hid (below_two hbw3 HB5')
    clear HB5' hR4 hb4 hS4 HRn HAl HA8 HSd HSz
    generalize (w4.alloc (.cells #[.slice B1 12 f1, .slice B2 0 f2, .slice B3 0 f3, .int .i64 (first : Int), .int .i64 (many : Int), .int .u32 (epoch : Int), .int .u32 (low : Int), .int .u32 (next : Int)] 39)) = w5 at *
    generalize w4.heap.size = X at *
    have HMy := Lib.hid (rmay_any w5 B1 B2 B3 12 f1 0 f2 0 f3 (first : Int) (many : Int) epoch low next (by decide) (by omega) (by omega) (by omega) (by omega) hlo hnx)
    rw [hmay] at HMy
    have x0 := hX5.cell 0 _ rfl
    have x1 := hX5.cell 1 _ rfl
    have x2 := hX5.cell 2 _ rfl
    have x3 := hX5.cell 3 _ rfl
    have x4 := hX5.cell 4 _ rfl
    have x5 := hX5.cell 5 _ rfl
    have x6 := hX5.cell 6 _ rfl
    have x7 := hX5.cell 7 _ rfl
    have hbw5 : Below w.heap.size w w5 := HBW5.out
    clear hX5
    go_wp2_with fail
    refine HMy.out.mono ?_
    rintro e w6 ⟨rfl, hb6⟩
    have hbw6 := below_two hbw5 hb6
    clear HMy x0 x1 x2 x3 x4 x5 x6 x7
    have HFw := Lib.hid (few6_any _ l w6 Gd (HD.out.below hbw6 hG) hl)
    obtain ⟨fw, hfw⟩ : ∃ fw, fw = few6 l := ⟨_, rfl⟩
    rw [← hfw] at HFw
    have HFE := Lib.hid hfw
    have HL6 := Lib.hid (HL0.out.below K hb6)
    clear hfw HL0 hb6
    go_wp2_with fail
    refine HFw.out.mono ?_
    rintro e w6' ⟨rfl, rfl⟩
    clear HFw
    cases fw
    · go_wp2
      go_ret
      exact ⟨rfl, hbw6⟩
    · have hfew := few6_of HFE.out.symm
      obtain ⟨r0, hr0⟩ : ∃ r0 : G.Rg, r0 = ⟨newD6 12, first, many, epoch, low, next⟩ := ⟨_, rfl⟩
      rw [← hr0] at HL6
      have HM0 : Hid r0.May := Lib.hid (by obtain ⟨⟨x1, x2, x3, hB, _⟩, _⟩ := HL6.out; exact hB.real.may)
      have HR0 : Hid (r0.d.row.length = 0) := Lib.hid (by rw [hr0]; rfl)
      have HS0 : Hid (r0.d.secs.length = 12) := Lib.hid (by rw [hr0]; rfl)
      clear hr0
      go_wp2_with fail
      go_loopw [9] (fun i wr => ∃ (k : Nat) (F R : Nat → Prop), k ≤ l.length ∧ i = .int .i64 k ∧ Lp6 H w X (.pointer (some pa)) (.pointer (some da)) F R (rsteps r0 (l.take k)) wr) (fun i _ => l.length - (intOf i).toNat)
      case atStart => exact ⟨0, _, _, Nat.zero_le _, rfl, HL6.out⟩
      case round =>
        clear HL6
        obtain ⟨k, F, R, hk, rfl, hL⟩ := hrel
        by_cases hlt : k < l.length
        · obtain ⟨⟨x1, x2, x3, hB, hX8⟩, nF, nR, hF, hbl, hXw⟩ := hL
          obtain ⟨a, cap', vb, ea, _, hga, hok, d0, d1, d2, hvb⟩ := (HD.out.below hbl hG).nth k hlt
          cases ea
          obtain ⟨Ab, capb, rfl, hcb⟩ := Sg_form hvb
          obtain ⟨A1, m1, e1, A2, m2, e2, A3, m3, e3, ee⟩ := hB.ref.form
          obtain ⟨rfl, rfl, rfl⟩ := agg3 ee
          clear ee
          have hrow : (rsteps r0 (l.take k)).d.row.length ≤ 900 := by
            have h9 := rsteps_row (l.take k) (r := r0) HM0.out (fun X hX => hfew.2 X (List.mem_of_mem_take hX))
            have h0 := HR0.out
            have h8 := hfew.1
            simp only [List.length_take] at h9
            omega
          have HSt := Lib.hid (rsteps_take r0 l k hlt)
          obtain ⟨r, hr⟩ : ∃ r, r = rsteps r0 (l.take k) := ⟨_, rfl⟩
          rw [← hr] at hB hX8 hrow HSt
          have HRK := Lib.hid hr
          clear hr
          have hb400 := hfew.2 l[k] (List.getElem_mem hlt)
          have HO : Hid (∀ wd, Below wr.heap.size wr wd → Calls Try.prog 15 #[.pointer (some da), .pointer (some pa), .agg #[.slice A1 m1 e1, .slice A2 m2 e2, .slice A3 m3 e3, .int .i64 (r.first : Int), .int .i64 (r.many : Int), .int .u32 (r.epoch : Int), .int .u32 (r.low : Int), .int .u32 (r.next : Int)], .agg #[.int .i64 l[k].kind, .slice Ab l[k].rc.length capb, .int .u8 (l[k].n : Int)]] wd (Did6 H wd F R (.pointer (some pa)) (.pointer (some da)) (r.step l[k]))) := Lib.hid (fun wd hbd =>
            do6_any K KF _ _ _ r _ _ _ l[k] wd F R Gd (hB.below K hbd) ⟨rfl, hvb.below hbd (fun b g => Nat.lt_of_lt_of_le (hG b g) hbl.size), rfl⟩ hok (fun b g => Nat.lt_of_lt_of_le (hG b g) (Nat.le_trans hbl.size hbd.size)) (fun b g f => by have := hG b g; have := hF b f; omega) hrow (by omega))
          have hgl := hG _ hga
          have hab : (a.add (k * 3)).block = a.block := S.add_block a (k * 3)
          have nga : ¬ F a.block := fun g => by have := hF _ g; omega
          have hwz := hbl.size
          have hxl := hX8.lt
          have hX8' : Bk wr X [.slice A1 m1 e1, .slice A2 m2 e2, .slice A3 m3 e3, .int .i64 (r.first : Int), .int .i64 (r.many : Int), .int .u32 (r.epoch : Int), .int .u32 (r.low : Int), .int .u32 (r.next : Int)] := hX8
          have HXk : Hid (∀ wd w3, Below wr.heap.size wr wd → Turn F wd w3 → Bk w3 X [.slice A1 m1 e1, .slice A2 m2 e2, .slice A3 m3 e3, .int .i64 (r.first : Int), .int .i64 (r.many : Int), .int .u32 (r.epoch : Int), .int .u32 (r.low : Int), .int .u32 (r.next : Int)]) := Lib.hid (fun wd w3 hbd ht => (hX8'.step hbd).turn ht nF)
          have HDk : Hid (∀ wd w3 (p : Addr), p.block = a.block → Below wr.heap.size wr wd → Turn F wd w3 → w3.cell? p = wr.cell? p) := Lib.hid (fun wd w3 p hp hbd ht => (ht.cell (by have := hbd.size; omega) (by rw [hp]; exact nga)).trans (hbd.cell (by omega)))
          have HXf : Hid (∀ wd w3, Below wr.heap.size wr wd → Turn F wd w3 → w3.cell? ⟨X, 0, none⟩ = some (.slice A1 m1 e1) ∧ w3.cell? ⟨X, 1, none⟩ = some (.slice A2 m2 e2) ∧ w3.cell? ⟨X, 2, none⟩ = some (.slice A3 m3 e3) ∧ w3.cell? ⟨X, 3, none⟩ = some (.int .i64 (r.first : Int)) ∧ w3.cell? ⟨X, 4, none⟩ = some (.int .i64 (r.many : Int)) ∧ w3.cell? ⟨X, 5, none⟩ = some (.int .u32 (r.epoch : Int)) ∧ w3.cell? ⟨X, 6, none⟩ = some (.int .u32 (r.low : Int)) ∧ w3.cell? ⟨X, 7, none⟩ = some (.int .u32 (r.next : Int)) ∧ w3.cell? (a.add (k * 3)) = some (.int .i64 l[k].kind) ∧ w3.cell? ⟨(a.add (k * 3)).block, (a.add (k * 3)).off + 1, none⟩ = some (.slice Ab l[k].rc.length capb) ∧ w3.cell? ⟨(a.add (k * 3)).block, (a.add (k * 3)).off + 2, none⟩ = some (.int .u8 (l[k].n : Int))) := Lib.hid (fun wd w3 hbd ht =>
            have q := HXk.out wd w3 hbd ht
            ⟨q.cell 0 _ rfl, q.cell 1 _ rfl, q.cell 2 _ rfl, q.cell 3 _ rfl, q.cell 4 _ rfl, q.cell 5 _ rfl, q.cell 6 _ rfl, q.cell 7 _ rfl, (HDk.out wd w3 (a.add (k * 3)) hab hbd ht).trans d0, (HDk.out wd w3 ⟨(a.add (k * 3)).block, (a.add (k * 3)).off + 1, none⟩ hab hbd ht).trans d1, (HDk.out wd w3 ⟨(a.add (k * 3)).block, (a.add (k * 3)).off + 2, none⟩ hab hbd ht).trans d2⟩)
          have hbz : Below wr.heap.size wr (wr.alloc (.cells #[nilV, nilV, nilV, .int .i64 0, .int .i64 0, .int .u32 0, .int .u32 0, .int .u32 0] 39)) := (Below.refl _ _).alloc (Nat.le_refl _) _
          have hbd1 := Lib.hid (Below.drew (Below.refl wr.heap.size wr))
          have hbd2 := Lib.hid hbz.drew
          have nFY : ¬ F wr.heap.size := fun g => by have := hB.real.lt _ g; omega
          have nRY : ¬ R wr.heap.size := fun g => by have := hB.rlt _ g; omega
          have HYk : Hid (∀ w3, Turn F (wr.alloc (.cells #[nilV, nilV, nilV, .int .i64 0, .int .i64 0, .int .u32 0, .int .u32 0, .int .u32 0] 39)).drew w3 → Bk w3 wr.heap.size [nilV, nilV, nilV, .int .i64 0, .int .i64 0, .int .u32 0, .int .u32 0, .int .u32 0]) := Lib.hid (fun w3 ht => (Bk.new wr [nilV, nilV, nilV, .int .i64 0, .int .i64 0, .int .u32 0, .int .u32 0, .int .u32 0] 39 rfl).drew.turn ht nFY)
          have nXY : wr.heap.size ≠ X := by omega
          have nAY : wr.heap.size ≠ (a.add (k * 3)).block := by omega
          have HA8 : Hid (∀ (w3 : World) (u0 u1 u2 u3 u4 u5 u6 u7 : Value), (w3.cell? ⟨X, 0, none⟩ = some (.slice A1 m1 e1) ∧ w3.cell? ⟨X, 1, none⟩ = some (.slice A2 m2 e2) ∧ w3.cell? ⟨X, 2, none⟩ = some (.slice A3 m3 e3) ∧ w3.cell? ⟨X, 3, none⟩ = some (.int .i64 (r.first : Int)) ∧ w3.cell? ⟨X, 4, none⟩ = some (.int .i64 (r.many : Int)) ∧ w3.cell? ⟨X, 5, none⟩ = some (.int .u32 (r.epoch : Int)) ∧ w3.cell? ⟨X, 6, none⟩ = some (.int .u32 (r.low : Int)) ∧ w3.cell? ⟨X, 7, none⟩ = some (.int .u32 (r.next : Int)) ∧ w3.cell? (a.add (k * 3)) = some (.int .i64 l[k].kind) ∧ w3.cell? ⟨(a.add (k * 3)).block, (a.add (k * 3)).off + 1, none⟩ = some (.slice Ab l[k].rc.length capb) ∧ w3.cell? ⟨(a.add (k * 3)).block, (a.add (k * 3)).off + 2, none⟩ = some (.int .u8 (l[k].n : Int))) → (set8 w3 wr.heap.size u0 u1 u2 u3 u4 u5 u6 u7).cell? ⟨X, 0, none⟩ = some (.slice A1 m1 e1) ∧ (set8 w3 wr.heap.size u0 u1 u2 u3 u4 u5 u6 u7).cell? ⟨X, 1, none⟩ = some (.slice A2 m2 e2) ∧ (set8 w3 wr.heap.size u0 u1 u2 u3 u4 u5 u6 u7).cell? ⟨X, 2, none⟩ = some (.slice A3 m3 e3) ∧ (set8 w3 wr.heap.size u0 u1 u2 u3 u4 u5 u6 u7).cell? ⟨X, 3, none⟩ = some (.int .i64 (r.first : Int)) ∧ (set8 w3 wr.heap.size u0 u1 u2 u3 u4 u5 u6 u7).cell? ⟨X, 4, none⟩ = some (.int .i64 (r.many : Int)) ∧ (set8 w3 wr.heap.size u0 u1 u2 u3 u4 u5 u6 u7).cell? ⟨X, 5, none⟩ = some (.int .u32 (r.epoch : Int)) ∧ (set8 w3 wr.heap.size u0 u1 u2 u3 u4 u5 u6 u7).cell? ⟨X, 6, none⟩ = some (.int .u32 (r.low : Int)) ∧ (set8 w3 wr.heap.size u0 u1 u2 u3 u4 u5 u6 u7).cell? ⟨X, 7, none⟩ = some (.int .u32 (r.next : Int)) ∧ (set8 w3 wr.heap.size u0 u1 u2 u3 u4 u5 u6 u7).cell? (a.add (k * 3)) = some (.int .i64 l[k].kind) ∧ (set8 w3 wr.heap.size u0 u1 u2 u3 u4 u5 u6 u7).cell? ⟨(a.add (k * 3)).block, (a.add (k * 3)).off + 1, none⟩ = some (.slice Ab l[k].rc.length capb) ∧ (set8 w3 wr.heap.size u0 u1 u2 u3 u4 u5 u6 u7).cell? ⟨(a.add (k * 3)).block, (a.add (k * 3)).off + 2, none⟩ = some (.int .u8 (l[k].n : Int))) := Lib.hid (fun w3 u0 u1 u2 u3 u4 u5 u6 u7 h =>
            ⟨set8_other (a := ⟨X, 0, none⟩) h.1 nXY u0 u1 u2 u3 u4 u5 u6 u7, set8_other (a := ⟨X, 1, none⟩) h.2.1 nXY u0 u1 u2 u3 u4 u5 u6 u7, set8_other (a := ⟨X, 2, none⟩) h.2.2.1 nXY u0 u1 u2 u3 u4 u5 u6 u7, set8_other (a := ⟨X, 3, none⟩) h.2.2.2.1 nXY u0 u1 u2 u3 u4 u5 u6 u7, set8_other (a := ⟨X, 4, none⟩) h.2.2.2.2.1 nXY u0 u1 u2 u3 u4 u5 u6 u7, set8_other (a := ⟨X, 5, none⟩) h.2.2.2.2.2.1 nXY u0 u1 u2 u3 u4 u5 u6 u7, set8_other (a := ⟨X, 6, none⟩) h.2.2.2.2.2.2.1 nXY u0 u1 u2 u3 u4 u5 u6 u7, set8_other (a := ⟨X, 7, none⟩) h.2.2.2.2.2.2.2.1 nXY u0 u1 u2 u3 u4 u5 u6 u7, set8_other h.2.2.2.2.2.2.2.2.1 nAY u0 u1 u2 u3 u4 u5 u6 u7, set8_other (a := ⟨(a.add (k * 3)).block, (a.add (k * 3)).off + 1, none⟩) h.2.2.2.2.2.2.2.2.2.1 nAY u0 u1 u2 u3 u4 u5 u6 u7, set8_other (a := ⟨(a.add (k * 3)).block, (a.add (k * 3)).off + 2, none⟩) h.2.2.2.2.2.2.2.2.2.2 nAY u0 u1 u2 u3 u4 u5 u6 u7⟩)
          have HAl : Hid (∀ (w3 : World) (o : Obj), (w3.cell? ⟨X, 0, none⟩ = some (.slice A1 m1 e1) ∧ w3.cell? ⟨X, 1, none⟩ = some (.slice A2 m2 e2) ∧ w3.cell? ⟨X, 2, none⟩ = some (.slice A3 m3 e3) ∧ w3.cell? ⟨X, 3, none⟩ = some (.int .i64 (r.first : Int)) ∧ w3.cell? ⟨X, 4, none⟩ = some (.int .i64 (r.many : Int)) ∧ w3.cell? ⟨X, 5, none⟩ = some (.int .u32 (r.epoch : Int)) ∧ w3.cell? ⟨X, 6, none⟩ = some (.int .u32 (r.low : Int)) ∧ w3.cell? ⟨X, 7, none⟩ = some (.int .u32 (r.next : Int)) ∧ w3.cell? (a.add (k * 3)) = some (.int .i64 l[k].kind) ∧ w3.cell? ⟨(a.add (k * 3)).block, (a.add (k * 3)).off + 1, none⟩ = some (.slice Ab l[k].rc.length capb) ∧ w3.cell? ⟨(a.add (k * 3)).block, (a.add (k * 3)).off + 2, none⟩ = some (.int .u8 (l[k].n : Int))) → (w3.alloc o).cell? ⟨X, 0, none⟩ = some (.slice A1 m1 e1) ∧ (w3.alloc o).cell? ⟨X, 1, none⟩ = some (.slice A2 m2 e2) ∧ (w3.alloc o).cell? ⟨X, 2, none⟩ = some (.slice A3 m3 e3) ∧ (w3.alloc o).cell? ⟨X, 3, none⟩ = some (.int .i64 (r.first : Int)) ∧ (w3.alloc o).cell? ⟨X, 4, none⟩ = some (.int .i64 (r.many : Int)) ∧ (w3.alloc o).cell? ⟨X, 5, none⟩ = some (.int .u32 (r.epoch : Int)) ∧ (w3.alloc o).cell? ⟨X, 6, none⟩ = some (.int .u32 (r.low : Int)) ∧ (w3.alloc o).cell? ⟨X, 7, none⟩ = some (.int .u32 (r.next : Int)) ∧ (w3.alloc o).cell? (a.add (k * 3)) = some (.int .i64 l[k].kind) ∧ (w3.alloc o).cell? ⟨(a.add (k * 3)).block, (a.add (k * 3)).off + 1, none⟩ = some (.slice Ab l[k].rc.length capb) ∧ (w3.alloc o).cell? ⟨(a.add (k * 3)).block, (a.add (k * 3)).off + 2, none⟩ = some (.int .u8 (l[k].n : Int))) := Lib.hid (fun w3 o h =>
            have q (p : Addr) (u : Value) (h : w3.cell? p = some u) : (w3.alloc o).cell? p = some u := (((Below.refl w3.heap.size w3).alloc (Nat.le_refl _) o).cell (World.block_lt_of_cell? w3 p h)).trans h
            ⟨q _ _ h.1, q _ _ h.2.1, q _ _ h.2.2.1, q _ _ h.2.2.2.1, q _ _ h.2.2.2.2.1, q _ _ h.2.2.2.2.2.1, q _ _ h.2.2.2.2.2.2.1, q _ _ h.2.2.2.2.2.2.2.1, q _ _ h.2.2.2.2.2.2.2.2.1, q _ _ h.2.2.2.2.2.2.2.2.2.1, q _ _ h.2.2.2.2.2.2.2.2.2.2⟩)
          have HXF := Lib.hid (HXf.out wr wr (Below.refl _ _) (Turn.refl _ _))
          have hlt3 : k * 3 < 9223372036854775807 := by omega
          obtain ⟨y, hy⟩ : ∃ y, y = r.step l[k] := ⟨_, rfl⟩
          rw [← hy] at HO HSt
          have HY := Lib.hid hy
          clear hy hbz hvb hX8 hok hab
          have hS0 := HXF.out
          have HSd : Hid (wr.drew.cell? ⟨X, 0, none⟩ = some (.slice A1 m1 e1) ∧ wr.drew.cell? ⟨X, 1, none⟩ = some (.slice A2 m2 e2) ∧ wr.drew.cell? ⟨X, 2, none⟩ = some (.slice A3 m3 e3) ∧ wr.drew.cell? ⟨X, 3, none⟩ = some (.int .i64 (r.first : Int)) ∧ wr.drew.cell? ⟨X, 4, none⟩ = some (.int .i64 (r.many : Int)) ∧ wr.drew.cell? ⟨X, 5, none⟩ = some (.int .u32 (r.epoch : Int)) ∧ wr.drew.cell? ⟨X, 6, none⟩ = some (.int .u32 (r.low : Int)) ∧ wr.drew.cell? ⟨X, 7, none⟩ = some (.int .u32 (r.next : Int)) ∧ wr.drew.cell? (a.add (k * 3)) = some (.int .i64 l[k].kind) ∧ wr.drew.cell? ⟨(a.add (k * 3)).block, (a.add (k * 3)).off + 1, none⟩ = some (.slice Ab l[k].rc.length capb) ∧ wr.drew.cell? ⟨(a.add (k * 3)).block, (a.add (k * 3)).off + 2, none⟩ = some (.int .u8 (l[k].n : Int))) := Lib.hid hS0
          have HSz : Hid ((wr.alloc (.cells #[nilV, nilV, nilV, .int .i64 0, .int .i64 0, .int .u32 0, .int .u32 0, .int .u32 0] 39)).drew.cell? ⟨X, 0, none⟩ = some (.slice A1 m1 e1) ∧ (wr.alloc (.cells #[nilV, nilV, nilV, .int .i64 0, .int .i64 0, .int .u32 0, .int .u32 0, .int .u32 0] 39)).drew.cell? ⟨X, 1, none⟩ = some (.slice A2 m2 e2) ∧ (wr.alloc (.cells #[nilV, nilV, nilV, .int .i64 0, .int .i64 0, .int .u32 0, .int .u32 0, .int .u32 0] 39)).drew.cell? ⟨X, 2, none⟩ = some (.slice A3 m3 e3) ∧ (wr.alloc (.cells #[nilV, nilV, nilV, .int .i64 0, .int .i64 0, .int .u32 0, .int .u32 0, .int .u32 0] 39)).drew.cell? ⟨X, 3, none⟩ = some (.int .i64 (r.first : Int)) ∧ (wr.alloc (.cells #[nilV, nilV, nilV, .int .i64 0, .int .i64 0, .int .u32 0, .int .u32 0, .int .u32 0] 39)).drew.cell? ⟨X, 4, none⟩ = some (.int .i64 (r.many : Int)) ∧ (wr.alloc (.cells #[nilV, nilV, nilV, .int .i64 0, .int .i64 0, .int .u32 0, .int .u32 0, .int .u32 0] 39)).drew.cell? ⟨X, 5, none⟩ = some (.int .u32 (r.epoch : Int)) ∧ (wr.alloc (.cells #[nilV, nilV, nilV, .int .i64 0, .int .i64 0, .int .u32 0, .int .u32 0, .int .u32 0] 39)).drew.cell? ⟨X, 6, none⟩ = some (.int .u32 (r.low : Int)) ∧ (wr.alloc (.cells #[nilV, nilV, nilV, .int .i64 0, .int .i64 0, .int .u32 0, .int .u32 0, .int .u32 0] 39)).drew.cell? ⟨X, 7, none⟩ = some (.int .u32 (r.next : Int)) ∧ (wr.alloc (.cells #[nilV, nilV, nilV, .int .i64 0, .int .i64 0, .int .u32 0, .int .u32 0, .int .u32 0] 39)).drew.cell? (a.add (k * 3)) = some (.int .i64 l[k].kind) ∧ (wr.alloc (.cells #[nilV, nilV, nilV, .int .i64 0, .int .i64 0, .int .u32 0, .int .u32 0, .int .u32 0] 39)).drew.cell? ⟨(a.add (k * 3)).block, (a.add (k * 3)).off + 1, none⟩ = some (.slice Ab l[k].rc.length capb) ∧ (wr.alloc (.cells #[nilV, nilV, nilV, .int .i64 0, .int .i64 0, .int .u32 0, .int .u32 0, .int .u32 0] 39)).drew.cell? ⟨(a.add (k * 3)).block, (a.add (k * 3)).off + 2, none⟩ = some (.int .u8 (l[k].n : Int))) := Lib.hid (HAl.out wr (.cells #[nilV, nilV, nilV, .int .i64 0, .int .i64 0, .int .u32 0, .int .u32 0, .int .u32 0] 39) hS0)
          obtain ⟨x0, x1, x2, x3, x4, x5, x6, x7, d0, d1, d2⟩ := id hS0
          clear x0 x1 x2 x3 x4 x5 x6 x7 d0 d1 d2 hS0
          go_wp2_with fail
          go_region_held3 (fun w' => w'.cell? ⟨X, 0, none⟩ = some (.slice A1 m1 e1) ∧ w'.cell? ⟨X, 1, none⟩ = some (.slice A2 m2 e2) ∧ w'.cell? ⟨X, 2, none⟩ = some (.slice A3 m3 e3) ∧ w'.cell? ⟨X, 3, none⟩ = some (.int .i64 (r.first : Int)) ∧ w'.cell? ⟨X, 4, none⟩ = some (.int .i64 (r.many : Int)) ∧ w'.cell? ⟨X, 5, none⟩ = some (.int .u32 (r.epoch : Int)) ∧ w'.cell? ⟨X, 6, none⟩ = some (.int .u32 (r.low : Int)) ∧ w'.cell? ⟨X, 7, none⟩ = some (.int .u32 (r.next : Int)) ∧ w'.cell? (a.add (k * 3)) = some (.int .i64 l[k].kind) ∧ w'.cell? ⟨(a.add (k * 3)).block, (a.add (k * 3)).off + 1, none⟩ = some (.slice Ab l[k].rc.length capb) ∧ w'.cell? ⟨(a.add (k * 3)).block, (a.add (k * 3)).off + 2, none⟩ = some (.int .u8 (l[k].n : Int)))
            (first | with_reducible exact HSd.out | with_reducible exact HSz.out | with_reducible assumption | with_reducible exact HAl.out _ _ (by assumption))
            (first
              | (go_at_call 15
                 (with_reducible refine (HO.out _ hbd1.out).mono ?_)
                 rintro e w3 ⟨yv, F', R', rfl, hB', hF', hR', ht⟩
                 obtain ⟨C1, n1, g1, C2, n2, g2, C3, n3, g3, rfl⟩ := hB'.ref.form
                 have hA := HXf.out _ w3 hbd1.out ht)
              | (go_at_call 15
                 (with_reducible refine (HO.out _ hbd2.out).mono ?_)
                 rintro e w3 ⟨yv, F', R', rfl, hB', hF', hR', ht⟩
                 obtain ⟨C1, n1, g1, C2, n2, g2, C3, n3, g3, rfl⟩ := hB'.ref.form
                 have hA := HXf.out _ w3 hbd2.out ht
                 have hY4 := HYk.out w3 ht
                 have ya0 := hY4.cell 0 _ rfl
                 have ya1 := hY4.cell 1 _ rfl
                 have ya2 := hY4.cell 2 _ rfl
                 have ya3 := hY4.cell 3 _ rfl
                 have ya4 := hY4.cell 4 _ rfl
                 have ya5 := hY4.cell 5 _ rfl
                 have ya6 := hY4.cell 6 _ rfl
                 have ya7 := hY4.cell 7 _ rfl
                 have yf0 := hY4.fz 0 (by simp)
                 have yf1 := hY4.fz 1 (by simp)
                 have yf2 := hY4.fz 2 (by simp)
                 have yf3 := hY4.fz 3 (by simp)
                 have yf4 := hY4.fz 4 (by simp)
                 have yf5 := hY4.fz 5 (by simp)
                 have yf6 := hY4.fz 6 (by simp)
                 have yf7 := hY4.fz 7 (by simp)
                 have hA' := HA8.out w3 (.slice C1 n1 g1) (.slice C2 n2 g2) (.slice C3 n3 g3) (.int .i64 (y.first : Int)) (.int .i64 (y.many : Int)) (.int .u32 (y.epoch : Int)) (.int .u32 (y.low : Int)) (.int .u32 (y.next : Int)) hA))
          · have hba := (Below.refl w3.heap.size w3).alloc (Nat.le_refl _) (.cells #[.slice C1 n1 g1, .slice C2 n2 g2, .slice C3 n3 g3, .int .i64 (y.first : Int), .int .i64 (y.many : Int), .int .u32 (y.epoch : Int), .int .u32 (y.low : Int), .int .u32 (y.next : Int)] 39)
            have hXa := (HXk.out _ w3 hbd1.out ht).alloc (.cells #[.slice C1 n1 g1, .slice C2 n2 g2, .slice C3 n3 g3, .int .i64 (y.first : Int), .int .i64 (y.many : Int), .int .u32 (y.epoch : Int), .int .u32 (y.low : Int), .int .u32 (y.next : Int)] 39)
            have hB4 := hB'.below K hba
            have htd : Turn F wr w3 := Turn.behind hbd1.out ht
            have ht4 : Turn F wr (w3.alloc (.cells #[.slice C1 n1 g1, .slice C2 n2 g2, .slice C3 n3 g3, .int .i64 (y.first : Int), .int .i64 (y.many : Int), .int .u32 (y.epoch : Int), .int .u32 (y.low : Int), .int .u32 (y.next : Int)] 39)) := htd.on hba
            have nF4 : ¬ F' X := fun g => (hF' X g).elim nF (fun g => by have := hbd1.out.size; have := g.1; omega)
            have nR4 : ¬ R' X := fun g => (hR' X g).elim nR (fun g => by have := hbd1.out.size; have := g.1; omega)
            have hF4 : ∀ b, F' b → w.heap.size ≤ b := fun b g => (hF' b g).elim (hF b) (fun g => by have := hbd1.out.size; have := g.1; omega)
            have hbw4 : Below w.heap.size w (w3.alloc (.cells #[.slice C1 n1 g1, .slice C2 n2 g2, .slice C3 n3 g3, .int .i64 (y.first : Int), .int .i64 (y.many : Int), .int .u32 (y.epoch : Int), .int .u32 (y.low : Int), .int .u32 (y.next : Int)] 39)) := hbl.trans (ht4.below hbl.size hF)
            have HL4 : Hid (Lp6 H w X (.pointer (some pa)) (.pointer (some da)) F' R' y (((((((((w3.alloc (.cells #[.slice C1 n1 g1, .slice C2 n2 g2, .slice C3 n3 g3, .int .i64 (y.first : Int), .int .i64 (y.many : Int), .int .u32 (y.epoch : Int), .int .u32 (y.low : Int), .int .u32 (y.next : Int)] 39)).setCell ⟨X, 0, none⟩ (.slice C1 n1 g1)).setCell ⟨X, 1, none⟩ (.slice C2 n2 g2)).setCell ⟨X, 2, none⟩ (.slice C3 n3 g3)).setCell ⟨X, 3, none⟩ (.int .i64 (y.first : Int))).setCell ⟨X, 4, none⟩ (.int .i64 (y.many : Int))).setCell ⟨X, 5, none⟩ (.int .u32 (y.epoch : Int))).setCell ⟨X, 6, none⟩ (.int .u32 (y.low : Int))).setCell ⟨X, 7, none⟩ (.int .u32 (y.next : Int)))) := Lib.hid (Lp6.put K hXw hbw4 hXa nF4 nR4 hF4 hB4)
            have HT4 : Hid (Turn (fun b => F b ∨ b = X) wr (((((((((w3.alloc (.cells #[.slice C1 n1 g1, .slice C2 n2 g2, .slice C3 n3 g3, .int .i64 (y.first : Int), .int .i64 (y.many : Int), .int .u32 (y.epoch : Int), .int .u32 (y.low : Int), .int .u32 (y.next : Int)] 39)).setCell ⟨X, 0, none⟩ (.slice C1 n1 g1)).setCell ⟨X, 1, none⟩ (.slice C2 n2 g2)).setCell ⟨X, 2, none⟩ (.slice C3 n3 g3)).setCell ⟨X, 3, none⟩ (.int .i64 (y.first : Int))).setCell ⟨X, 4, none⟩ (.int .i64 (y.many : Int))).setCell ⟨X, 5, none⟩ (.int .u32 (y.epoch : Int))).setCell ⟨X, 6, none⟩ (.int .u32 (y.low : Int))).setCell ⟨X, 7, none⟩ (.int .u32 (y.next : Int)))) := Lib.hid (Turn.more (Turn.more (Turn.refl _ wr) ht4 (fun b _ g => Or.inl g)) (set8_turn (w3.alloc (.cells #[.slice C1 n1 g1, .slice C2 n2 g2, .slice C3 n3 g3, .int .i64 (y.first : Int), .int .i64 (y.many : Int), .int .u32 (y.epoch : Int), .int .u32 (y.low : Int), .int .u32 (y.next : Int)] 39)) X (.slice C1 n1 g1) (.slice C2 n2 g2) (.slice C3 n3 g3) (.int .i64 (y.first : Int)) (.int .i64 (y.many : Int)) (.int .u32 (y.epoch : Int)) (.int .u32 (y.low : Int)) (.int .u32 (y.next : Int))) (fun b _ e => Or.inr e))
            have hFs : ∀ b, b < wr.heap.size → F' b → F b := fun b hb g => (hF' b g).elim id (fun g => by have := hbd1.out.size; have := g.1; omega)
            have hRs : ∀ b, b < wr.heap.size → R' b → R b := fun b hb g => (hR' b g).elim id (fun g => by have := hbd1.out.size; have := g.1; omega)
            have xa0 := hXa.cell 0 _ rfl
            have xa1 := hXa.cell 1 _ rfl
            have xa2 := hXa.cell 2 _ rfl
            have xa3 := hXa.cell 3 _ rfl
            have xa4 := hXa.cell 4 _ rfl
            have xa5 := hXa.cell 5 _ rfl
            have xa6 := hXa.cell 6 _ rfl
            have xa7 := hXa.cell 7 _ rfl
            have xf0 := hXa.fz 0 (by simp)
            have xf1 := hXa.fz 1 (by simp)
            have xf2 := hXa.fz 2 (by simp)
            have xf3 := hXa.fz 3 (by simp)
            have xf4 := hXa.fz 4 (by simp)
            have xf5 := hXa.fz 5 (by simp)
            have xf6 := hXa.fz 6 (by simp)
            have xf7 := hXa.fz 7 (by simp)
            clear hXa hB4 ht4 htd hB' ht HO HXk HXf HDk HYk HA8 HXF HAl HSd HSz hba hA
            go_wp2_with fail
            clear xa0 xf0 xa1 xf1 xa2 xf2 xa3 xf3 xa4 xf4 xa5 xf5 xa6 xf6 xa7 xf7
            generalize (((((((((w3.alloc (.cells #[.slice C1 n1 g1, .slice C2 n2 g2, .slice C3 n3 g3, .int .i64 (y.first : Int), .int .i64 (y.many : Int), .int .u32 (y.epoch : Int), .int .u32 (y.low : Int), .int .u32 (y.next : Int)] 39)).setCell ⟨X, 0, none⟩ (.slice C1 n1 g1)).setCell ⟨X, 1, none⟩ (.slice C2 n2 g2)).setCell ⟨X, 2, none⟩ (.slice C3 n3 g3)).setCell ⟨X, 3, none⟩ (.int .i64 (y.first : Int))).setCell ⟨X, 4, none⟩ (.int .i64 (y.many : Int))).setCell ⟨X, 5, none⟩ (.int .u32 (y.epoch : Int))).setCell ⟨X, 6, none⟩ (.int .u32 (y.low : Int))).setCell ⟨X, 7, none⟩ (.int .u32 (y.next : Int))) = w9 at *
            obtain ⟨⟨z1, z2, z3, hB5, hX5⟩, _⟩ := id HL4.out
            obtain ⟨D1, q1, h1, D2, q2, h2, D3, q3, h3, ee⟩ := hB5.ref.form
            obtain ⟨rfl, rfl, rfl⟩ := agg3 ee
            clear ee
            have hX5' : Bk w9 X [.slice D1 q1 h1, .slice D2 q2 h2, .slice D3 q3 h3, .int .i64 (y.first : Int), .int .i64 (y.many : Int), .int .u32 (y.epoch : Int), .int .u32 (y.low : Int), .int .u32 (y.next : Int)] := hX5
            have HB5 := Lib.hid hB5
            have HK3 : Hid (∀ w', Below w9.heap.size w9 w' → w'.cell? ⟨X, 0, none⟩ = some (.slice D1 q1 h1) ∧ w'.cell? ⟨X, 1, none⟩ = some (.slice D2 q2 h2) ∧ w'.cell? ⟨X, 2, none⟩ = some (.slice D3 q3 h3) ∧ w'.cell? ⟨X, 3, none⟩ = some (.int .i64 (y.first : Int)) ∧ w'.cell? ⟨X, 4, none⟩ = some (.int .i64 (y.many : Int)) ∧ w'.cell? ⟨X, 5, none⟩ = some (.int .u32 (y.epoch : Int)) ∧ w'.cell? ⟨X, 6, none⟩ = some (.int .u32 (y.low : Int)) ∧ w'.cell? ⟨X, 7, none⟩ = some (.int .u32 (y.next : Int)) ∧ Below w9.heap.size w9 w') := Lib.hid (fun w' hb => have q := hX5'.step hb; ⟨q.cell 0 _ rfl, q.cell 1 _ rfl, q.cell 2 _ rfl, q.cell 3 _ rfl, q.cell 4 _ rfl, q.cell 5 _ rfl, q.cell 6 _ rfl, q.cell 7 _ rfl, hb⟩)
            obtain ⟨fr, hfr⟩ : ∃ fr, fr = y.free := ⟨_, rfl⟩
            have HLo : Hid (∀ w', (w'.cell? ⟨X, 0, none⟩ = some (.slice D1 q1 h1) ∧ w'.cell? ⟨X, 1, none⟩ = some (.slice D2 q2 h2) ∧ w'.cell? ⟨X, 2, none⟩ = some (.slice D3 q3 h3) ∧ w'.cell? ⟨X, 3, none⟩ = some (.int .i64 (y.first : Int)) ∧ w'.cell? ⟨X, 4, none⟩ = some (.int .i64 (y.many : Int)) ∧ w'.cell? ⟨X, 5, none⟩ = some (.int .u32 (y.epoch : Int)) ∧ w'.cell? ⟨X, 6, none⟩ = some (.int .u32 (y.low : Int)) ∧ w'.cell? ⟨X, 7, none⟩ = some (.int .u32 (y.next : Int)) ∧ Below w9.heap.size w9 w') → Calls Try.prog 16 #[.pointer (some pa)] w' fun e w'' => e = .returned (.int .u32 (y.low : Int)) ∧ (w''.cell? ⟨X, 0, none⟩ = some (.slice D1 q1 h1) ∧ w''.cell? ⟨X, 1, none⟩ = some (.slice D2 q2 h2) ∧ w''.cell? ⟨X, 2, none⟩ = some (.slice D3 q3 h3) ∧ w''.cell? ⟨X, 3, none⟩ = some (.int .i64 (y.first : Int)) ∧ w''.cell? ⟨X, 4, none⟩ = some (.int .i64 (y.many : Int)) ∧ w''.cell? ⟨X, 5, none⟩ = some (.int .u32 (y.epoch : Int)) ∧ w''.cell? ⟨X, 6, none⟩ = some (.int .u32 (y.low : Int)) ∧ w''.cell? ⟨X, 7, none⟩ = some (.int .u32 (y.next : Int)) ∧ Below w9.heap.size w9 w'')) :=
              Lib.hid (fun w' hS => (ring_low (HB5.out.real.below K hS.2.2.2.2.2.2.2.2)).mono (fun e w'' ⟨e1, hb⟩ => ⟨e1, HK3.out _ (below_two hS.2.2.2.2.2.2.2.2 hb)⟩))
            have HNe : Hid (∀ w', (w'.cell? ⟨X, 0, none⟩ = some (.slice D1 q1 h1) ∧ w'.cell? ⟨X, 1, none⟩ = some (.slice D2 q2 h2) ∧ w'.cell? ⟨X, 2, none⟩ = some (.slice D3 q3 h3) ∧ w'.cell? ⟨X, 3, none⟩ = some (.int .i64 (y.first : Int)) ∧ w'.cell? ⟨X, 4, none⟩ = some (.int .i64 (y.many : Int)) ∧ w'.cell? ⟨X, 5, none⟩ = some (.int .u32 (y.epoch : Int)) ∧ w'.cell? ⟨X, 6, none⟩ = some (.int .u32 (y.low : Int)) ∧ w'.cell? ⟨X, 7, none⟩ = some (.int .u32 (y.next : Int)) ∧ Below w9.heap.size w9 w') → Calls Try.prog 17 #[.pointer (some pa)] w' fun e w'' => e = .returned (.int .u32 (y.next : Int)) ∧ (w''.cell? ⟨X, 0, none⟩ = some (.slice D1 q1 h1) ∧ w''.cell? ⟨X, 1, none⟩ = some (.slice D2 q2 h2) ∧ w''.cell? ⟨X, 2, none⟩ = some (.slice D3 q3 h3) ∧ w''.cell? ⟨X, 3, none⟩ = some (.int .i64 (y.first : Int)) ∧ w''.cell? ⟨X, 4, none⟩ = some (.int .i64 (y.many : Int)) ∧ w''.cell? ⟨X, 5, none⟩ = some (.int .u32 (y.epoch : Int)) ∧ w''.cell? ⟨X, 6, none⟩ = some (.int .u32 (y.low : Int)) ∧ w''.cell? ⟨X, 7, none⟩ = some (.int .u32 (y.next : Int)) ∧ Below w9.heap.size w9 w'')) :=
              Lib.hid (fun w' hS => (ring_next (HB5.out.real.below K hS.2.2.2.2.2.2.2.2)).mono (fun e w'' ⟨e1, hb⟩ => ⟨e1, HK3.out _ (below_two hS.2.2.2.2.2.2.2.2 hb)⟩))
            have HFr : Hid (∀ w', (w'.cell? ⟨X, 0, none⟩ = some (.slice D1 q1 h1) ∧ w'.cell? ⟨X, 1, none⟩ = some (.slice D2 q2 h2) ∧ w'.cell? ⟨X, 2, none⟩ = some (.slice D3 q3 h3) ∧ w'.cell? ⟨X, 3, none⟩ = some (.int .i64 (y.first : Int)) ∧ w'.cell? ⟨X, 4, none⟩ = some (.int .i64 (y.many : Int)) ∧ w'.cell? ⟨X, 5, none⟩ = some (.int .u32 (y.epoch : Int)) ∧ w'.cell? ⟨X, 6, none⟩ = some (.int .u32 (y.low : Int)) ∧ w'.cell? ⟨X, 7, none⟩ = some (.int .u32 (y.next : Int)) ∧ Below w9.heap.size w9 w') → Calls Try.prog 18 #[.pointer (some pa)] w' fun e w'' => e = .returned (.int .i64 (fr : Int)) ∧ (w''.cell? ⟨X, 0, none⟩ = some (.slice D1 q1 h1) ∧ w''.cell? ⟨X, 1, none⟩ = some (.slice D2 q2 h2) ∧ w''.cell? ⟨X, 2, none⟩ = some (.slice D3 q3 h3) ∧ w''.cell? ⟨X, 3, none⟩ = some (.int .i64 (y.first : Int)) ∧ w''.cell? ⟨X, 4, none⟩ = some (.int .i64 (y.many : Int)) ∧ w''.cell? ⟨X, 5, none⟩ = some (.int .u32 (y.epoch : Int)) ∧ w''.cell? ⟨X, 6, none⟩ = some (.int .u32 (y.low : Int)) ∧ w''.cell? ⟨X, 7, none⟩ = some (.int .u32 (y.next : Int)) ∧ Below w9.heap.size w9 w'')) :=
              Lib.hid (fun w' hS => (ring_free (HB5.out.real.below K hS.2.2.2.2.2.2.2.2)).mono (fun e w'' ⟨e1, hb⟩ => ⟨by rw [hfr]; exact e1, HK3.out _ (below_two hS.2.2.2.2.2.2.2.2 hb)⟩))
            have HRf : Hid (∀ w', (w'.cell? ⟨X, 0, none⟩ = some (.slice D1 q1 h1) ∧ w'.cell? ⟨X, 1, none⟩ = some (.slice D2 q2 h2) ∧ w'.cell? ⟨X, 2, none⟩ = some (.slice D3 q3 h3) ∧ w'.cell? ⟨X, 3, none⟩ = some (.int .i64 (y.first : Int)) ∧ w'.cell? ⟨X, 4, none⟩ = some (.int .i64 (y.many : Int)) ∧ w'.cell? ⟨X, 5, none⟩ = some (.int .u32 (y.epoch : Int)) ∧ w'.cell? ⟨X, 6, none⟩ = some (.int .u32 (y.low : Int)) ∧ w'.cell? ⟨X, 7, none⟩ = some (.int .u32 (y.next : Int)) ∧ Below w9.heap.size w9 w') → Calls Try.prog 19 #[.agg #[.slice D1 q1 h1, .slice D2 q2 h2, .slice D3 q3 h3, .int .i64 (y.first : Int), .int .i64 (y.many : Int), .int .u32 (y.epoch : Int), .int .u32 (y.low : Int), .int .u32 (y.next : Int)]] w' fun e w'' => e = .returned (.int .i64 (fr : Int)) ∧ (w''.cell? ⟨X, 0, none⟩ = some (.slice D1 q1 h1) ∧ w''.cell? ⟨X, 1, none⟩ = some (.slice D2 q2 h2) ∧ w''.cell? ⟨X, 2, none⟩ = some (.slice D3 q3 h3) ∧ w''.cell? ⟨X, 3, none⟩ = some (.int .i64 (y.first : Int)) ∧ w''.cell? ⟨X, 4, none⟩ = some (.int .i64 (y.many : Int)) ∧ w''.cell? ⟨X, 5, none⟩ = some (.int .u32 (y.epoch : Int)) ∧ w''.cell? ⟨X, 6, none⟩ = some (.int .u32 (y.low : Int)) ∧ w''.cell? ⟨X, 7, none⟩ = some (.int .u32 (y.next : Int)) ∧ Below w9.heap.size w9 w'')) :=
              Lib.hid (fun w' hS => (rfree_any (HB5.out.ref.below hS.2.2.2.2.2.2.2.2 HB5.out.rlt) HB5.out.real.num HB5.out.real.may).mono (fun e w'' ⟨e1, hb⟩ => ⟨by rw [hfr]; exact e1, HK3.out _ (below_two hS.2.2.2.2.2.2.2.2 hb)⟩))
            have hbd9 : Below w9.heap.size w9 w9.drew := (Below.refl _ _).drew
            clear hX5 hX5' hB5 hfr hB
            go_region_held3 (fun w' => w'.cell? ⟨X, 0, none⟩ = some (.slice D1 q1 h1) ∧ w'.cell? ⟨X, 1, none⟩ = some (.slice D2 q2 h2) ∧ w'.cell? ⟨X, 2, none⟩ = some (.slice D3 q3 h3) ∧ w'.cell? ⟨X, 3, none⟩ = some (.int .i64 (y.first : Int)) ∧ w'.cell? ⟨X, 4, none⟩ = some (.int .i64 (y.many : Int)) ∧ w'.cell? ⟨X, 5, none⟩ = some (.int .u32 (y.epoch : Int)) ∧ w'.cell? ⟨X, 6, none⟩ = some (.int .u32 (y.low : Int)) ∧ w'.cell? ⟨X, 7, none⟩ = some (.int .u32 (y.next : Int)) ∧ Below w9.heap.size w9 w')
              (first | with_reducible exact HK3.out _ hbd9 | with_reducible assumption)
              (first
                | (go_at_call 16
                   with_reducible refine (HLo.out _ (by assumption)).mono ?_
                   rintro ea wa ⟨rfl, hSa⟩)
                | (go_at_call 17
                   with_reducible refine (HNe.out _ (by assumption)).mono ?_
                   rintro eb wb ⟨rfl, hSb⟩)
                | (go_at_call 18
                   with_reducible refine (HFr.out _ (by assumption)).mono ?_
                   rintro ec wc ⟨rfl, hSc⟩)
                | (go_at_call 19
                   with_reducible refine (HRf.out _ (by assumption)).mono ?_
                   rintro ed we ⟨rfl, hSd⟩))
            all_goals
              have HLE := Lib.hid (HL4.out.below K hSd.2.2.2.2.2.2.2.2)
              clear HLo HNe HFr HRf HK3 hSa hSb hSc hSd
              go_wp2_with fail
              go_roundw
            case rel => exact ⟨k + 1, F', R', by omega, by go_num, by rw [HSt.out]; exact HLE.out⟩
            case measure => simp [intOf]; omega
          · have hT9 : Turn (fun b => b = wr.heap.size) w3 ((((((((w3.setCell ⟨wr.heap.size, 0, none⟩ (.slice C1 n1 g1)).setCell ⟨wr.heap.size, 1, none⟩ (.slice C2 n2 g2)).setCell ⟨wr.heap.size, 2, none⟩ (.slice C3 n3 g3)).setCell ⟨wr.heap.size, 3, none⟩ (.int .i64 (y.first : Int))).setCell ⟨wr.heap.size, 4, none⟩ (.int .i64 (y.many : Int))).setCell ⟨wr.heap.size, 5, none⟩ (.int .u32 (y.epoch : Int))).setCell ⟨wr.heap.size, 6, none⟩ (.int .u32 (y.low : Int))).setCell ⟨wr.heap.size, 7, none⟩ (.int .u32 (y.next : Int))) := set8_turn w3 wr.heap.size (.slice C1 n1 g1) (.slice C2 n2 g2) (.slice C3 n3 g3) (.int .i64 (y.first : Int)) (.int .i64 (y.many : Int)) (.int .u32 (y.epoch : Int)) (.int .u32 (y.low : Int)) (.int .u32 (y.next : Int))
            have hXa : Bk ((((((((w3.setCell ⟨wr.heap.size, 0, none⟩ (.slice C1 n1 g1)).setCell ⟨wr.heap.size, 1, none⟩ (.slice C2 n2 g2)).setCell ⟨wr.heap.size, 2, none⟩ (.slice C3 n3 g3)).setCell ⟨wr.heap.size, 3, none⟩ (.int .i64 (y.first : Int))).setCell ⟨wr.heap.size, 4, none⟩ (.int .i64 (y.many : Int))).setCell ⟨wr.heap.size, 5, none⟩ (.int .u32 (y.epoch : Int))).setCell ⟨wr.heap.size, 6, none⟩ (.int .u32 (y.low : Int))).setCell ⟨wr.heap.size, 7, none⟩ (.int .u32 (y.next : Int))) X [.slice A1 m1 e1, .slice A2 m2 e2, .slice A3 m3 e3, .int .i64 (r.first : Int), .int .i64 (r.many : Int), .int .u32 (r.epoch : Int), .int .u32 (r.low : Int), .int .u32 (r.next : Int)] := (HXk.out _ w3 hbd2.out ht).turn hT9 (fun e => nXY e.symm)
            have hYa : Bk ((((((((w3.setCell ⟨wr.heap.size, 0, none⟩ (.slice C1 n1 g1)).setCell ⟨wr.heap.size, 1, none⟩ (.slice C2 n2 g2)).setCell ⟨wr.heap.size, 2, none⟩ (.slice C3 n3 g3)).setCell ⟨wr.heap.size, 3, none⟩ (.int .i64 (y.first : Int))).setCell ⟨wr.heap.size, 4, none⟩ (.int .i64 (y.many : Int))).setCell ⟨wr.heap.size, 5, none⟩ (.int .u32 (y.epoch : Int))).setCell ⟨wr.heap.size, 6, none⟩ (.int .u32 (y.low : Int))).setCell ⟨wr.heap.size, 7, none⟩ (.int .u32 (y.next : Int))) wr.heap.size [.slice C1 n1 g1, .slice C2 n2 g2, .slice C3 n3 g3, .int .i64 (y.first : Int), .int .i64 (y.many : Int), .int .u32 (y.epoch : Int), .int .u32 (y.low : Int), .int .u32 (y.next : Int)] := hY4.all8 (.slice C1 n1 g1) (.slice C2 n2 g2) (.slice C3 n3 g3) (.int .i64 (y.first : Int)) (.int .i64 (y.many : Int)) (.int .u32 (y.epoch : Int)) (.int .u32 (y.low : Int)) (.int .u32 (y.next : Int))
            have hs9 : wr.heap.size < (wr.alloc (.cells #[nilV, nilV, nilV, .int .i64 0, .int .i64 0, .int .u32 0, .int .u32 0, .int .u32 0] 39)).drew.heap.size := by simp [World.drew]
            have hB4 := hB'.turn K hT9 (fun b g e => (hF' b g).elim (fun g => nFY (e ▸ g)) (fun g => by have := g.1; omega)) (fun b g e => (hR' b g).elim (fun g => nRY (e ▸ g)) (fun g => by have := g.1; omega))
            have htd : Turn F wr w3 := Turn.behind hbd2.out ht
            clear hA' ya0 yf0 ya1 yf1 ya2 yf2 ya3 yf3 ya4 yf4 ya5 yf5 ya6 yf6 ya7 yf7 hY4 hA
            generalize ((((((((w3.setCell ⟨wr.heap.size, 0, none⟩ (.slice C1 n1 g1)).setCell ⟨wr.heap.size, 1, none⟩ (.slice C2 n2 g2)).setCell ⟨wr.heap.size, 2, none⟩ (.slice C3 n3 g3)).setCell ⟨wr.heap.size, 3, none⟩ (.int .i64 (y.first : Int))).setCell ⟨wr.heap.size, 4, none⟩ (.int .i64 (y.many : Int))).setCell ⟨wr.heap.size, 5, none⟩ (.int .u32 (y.epoch : Int))).setCell ⟨wr.heap.size, 6, none⟩ (.int .u32 (y.low : Int))).setCell ⟨wr.heap.size, 7, none⟩ (.int .u32 (y.next : Int))) = w9 at *
            have ht4 : Turn F wr w9 := htd.more hT9 (fun b hb e => by omega)
            have yb0 := hYa.cell 0 _ rfl
            have yb1 := hYa.cell 1 _ rfl
            have yb2 := hYa.cell 2 _ rfl
            have yb3 := hYa.cell 3 _ rfl
            have yb4 := hYa.cell 4 _ rfl
            have yb5 := hYa.cell 5 _ rfl
            have yb6 := hYa.cell 6 _ rfl
            have yb7 := hYa.cell 7 _ rfl
            have nF4 : ¬ F' X := fun g => (hF' X g).elim nF (fun g => by have := hbd2.out.size; have := g.1; omega)
            have nR4 : ¬ R' X := fun g => (hR' X g).elim nR (fun g => by have := hbd2.out.size; have := g.1; omega)
            have hF4 : ∀ b, F' b → w.heap.size ≤ b := fun b g => (hF' b g).elim (hF b) (fun g => by have := hbd2.out.size; have := g.1; omega)
            have hbw4 : Below w.heap.size w w9 := hbl.trans (ht4.below hbl.size hF)
            have HL4 : Hid (Lp6 H w X (.pointer (some pa)) (.pointer (some da)) F' R' y ((((((((w9.setCell ⟨X, 0, none⟩ (.slice C1 n1 g1)).setCell ⟨X, 1, none⟩ (.slice C2 n2 g2)).setCell ⟨X, 2, none⟩ (.slice C3 n3 g3)).setCell ⟨X, 3, none⟩ (.int .i64 (y.first : Int))).setCell ⟨X, 4, none⟩ (.int .i64 (y.many : Int))).setCell ⟨X, 5, none⟩ (.int .u32 (y.epoch : Int))).setCell ⟨X, 6, none⟩ (.int .u32 (y.low : Int))).setCell ⟨X, 7, none⟩ (.int .u32 (y.next : Int)))) := Lib.hid (Lp6.put K hXw hbw4 hXa nF4 nR4 hF4 hB4)
            have HT4 : Hid (Turn (fun b => F b ∨ b = X) wr ((((((((w9.setCell ⟨X, 0, none⟩ (.slice C1 n1 g1)).setCell ⟨X, 1, none⟩ (.slice C2 n2 g2)).setCell ⟨X, 2, none⟩ (.slice C3 n3 g3)).setCell ⟨X, 3, none⟩ (.int .i64 (y.first : Int))).setCell ⟨X, 4, none⟩ (.int .i64 (y.many : Int))).setCell ⟨X, 5, none⟩ (.int .u32 (y.epoch : Int))).setCell ⟨X, 6, none⟩ (.int .u32 (y.low : Int))).setCell ⟨X, 7, none⟩ (.int .u32 (y.next : Int)))) := Lib.hid (Turn.more (Turn.more (Turn.refl _ wr) ht4 (fun b _ g => Or.inl g)) (set8_turn w9 X (.slice C1 n1 g1) (.slice C2 n2 g2) (.slice C3 n3 g3) (.int .i64 (y.first : Int)) (.int .i64 (y.many : Int)) (.int .u32 (y.epoch : Int)) (.int .u32 (y.low : Int)) (.int .u32 (y.next : Int))) (fun b _ e => Or.inr e))
            have hFs : ∀ b, b < wr.heap.size → F' b → F b := fun b hb g => (hF' b g).elim id (fun g => by have := hbd2.out.size; have := g.1; omega)
            have hRs : ∀ b, b < wr.heap.size → R' b → R b := fun b hb g => (hR' b g).elim id (fun g => by have := hbd2.out.size; have := g.1; omega)
            have xa0 := hXa.cell 0 _ rfl
            have xa1 := hXa.cell 1 _ rfl
            have xa2 := hXa.cell 2 _ rfl
            have xa3 := hXa.cell 3 _ rfl
            have xa4 := hXa.cell 4 _ rfl
            have xa5 := hXa.cell 5 _ rfl
            have xa6 := hXa.cell 6 _ rfl
            have xa7 := hXa.cell 7 _ rfl
            have xf0 := hXa.fz 0 (by simp)
            have xf1 := hXa.fz 1 (by simp)
            have xf2 := hXa.fz 2 (by simp)
            have xf3 := hXa.fz 3 (by simp)
            have xf4 := hXa.fz 4 (by simp)
            have xf5 := hXa.fz 5 (by simp)
            have xf6 := hXa.fz 6 (by simp)
            have xf7 := hXa.fz 7 (by simp)
            clear hXa hB4 ht4 htd hB' ht HO HXk HXf HDk HYk HA8 HXF HAl HSd HSz hT9 hs9 hYa
            go_wp2_with fail
            clear xa0 xf0 xa1 xf1 xa2 xf2 xa3 xf3 xa4 xf4 xa5 xf5 xa6 xf6 xa7 xf7
            generalize ((((((((w9.setCell ⟨X, 0, none⟩ (.slice C1 n1 g1)).setCell ⟨X, 1, none⟩ (.slice C2 n2 g2)).setCell ⟨X, 2, none⟩ (.slice C3 n3 g3)).setCell ⟨X, 3, none⟩ (.int .i64 (y.first : Int))).setCell ⟨X, 4, none⟩ (.int .i64 (y.many : Int))).setCell ⟨X, 5, none⟩ (.int .u32 (y.epoch : Int))).setCell ⟨X, 6, none⟩ (.int .u32 (y.low : Int))).setCell ⟨X, 7, none⟩ (.int .u32 (y.next : Int))) = w9 at *
            obtain ⟨⟨z1, z2, z3, hB5, hX5⟩, _⟩ := id HL4.out
            obtain ⟨D1, q1, h1, D2, q2, h2, D3, q3, h3, ee⟩ := hB5.ref.form
            obtain ⟨rfl, rfl, rfl⟩ := agg3 ee
            clear ee
            have hX5' : Bk w9 X [.slice D1 q1 h1, .slice D2 q2 h2, .slice D3 q3 h3, .int .i64 (y.first : Int), .int .i64 (y.many : Int), .int .u32 (y.epoch : Int), .int .u32 (y.low : Int), .int .u32 (y.next : Int)] := hX5
            have HB5 := Lib.hid hB5
            have HK3 : Hid (∀ w', Below w9.heap.size w9 w' → w'.cell? ⟨X, 0, none⟩ = some (.slice D1 q1 h1) ∧ w'.cell? ⟨X, 1, none⟩ = some (.slice D2 q2 h2) ∧ w'.cell? ⟨X, 2, none⟩ = some (.slice D3 q3 h3) ∧ w'.cell? ⟨X, 3, none⟩ = some (.int .i64 (y.first : Int)) ∧ w'.cell? ⟨X, 4, none⟩ = some (.int .i64 (y.many : Int)) ∧ w'.cell? ⟨X, 5, none⟩ = some (.int .u32 (y.epoch : Int)) ∧ w'.cell? ⟨X, 6, none⟩ = some (.int .u32 (y.low : Int)) ∧ w'.cell? ⟨X, 7, none⟩ = some (.int .u32 (y.next : Int)) ∧ Below w9.heap.size w9 w') := Lib.hid (fun w' hb => have q := hX5'.step hb; ⟨q.cell 0 _ rfl, q.cell 1 _ rfl, q.cell 2 _ rfl, q.cell 3 _ rfl, q.cell 4 _ rfl, q.cell 5 _ rfl, q.cell 6 _ rfl, q.cell 7 _ rfl, hb⟩)
            obtain ⟨fr, hfr⟩ : ∃ fr, fr = y.free := ⟨_, rfl⟩
            have HLo : Hid (∀ w', (w'.cell? ⟨X, 0, none⟩ = some (.slice D1 q1 h1) ∧ w'.cell? ⟨X, 1, none⟩ = some (.slice D2 q2 h2) ∧ w'.cell? ⟨X, 2, none⟩ = some (.slice D3 q3 h3) ∧ w'.cell? ⟨X, 3, none⟩ = some (.int .i64 (y.first : Int)) ∧ w'.cell? ⟨X, 4, none⟩ = some (.int .i64 (y.many : Int)) ∧ w'.cell? ⟨X, 5, none⟩ = some (.int .u32 (y.epoch : Int)) ∧ w'.cell? ⟨X, 6, none⟩ = some (.int .u32 (y.low : Int)) ∧ w'.cell? ⟨X, 7, none⟩ = some (.int .u32 (y.next : Int)) ∧ Below w9.heap.size w9 w') → Calls Try.prog 16 #[.pointer (some pa)] w' fun e w'' => e = .returned (.int .u32 (y.low : Int)) ∧ (w''.cell? ⟨X, 0, none⟩ = some (.slice D1 q1 h1) ∧ w''.cell? ⟨X, 1, none⟩ = some (.slice D2 q2 h2) ∧ w''.cell? ⟨X, 2, none⟩ = some (.slice D3 q3 h3) ∧ w''.cell? ⟨X, 3, none⟩ = some (.int .i64 (y.first : Int)) ∧ w''.cell? ⟨X, 4, none⟩ = some (.int .i64 (y.many : Int)) ∧ w''.cell? ⟨X, 5, none⟩ = some (.int .u32 (y.epoch : Int)) ∧ w''.cell? ⟨X, 6, none⟩ = some (.int .u32 (y.low : Int)) ∧ w''.cell? ⟨X, 7, none⟩ = some (.int .u32 (y.next : Int)) ∧ Below w9.heap.size w9 w'')) :=
              Lib.hid (fun w' hS => (ring_low (HB5.out.real.below K hS.2.2.2.2.2.2.2.2)).mono (fun e w'' ⟨e1, hb⟩ => ⟨e1, HK3.out _ (below_two hS.2.2.2.2.2.2.2.2 hb)⟩))
            have HNe : Hid (∀ w', (w'.cell? ⟨X, 0, none⟩ = some (.slice D1 q1 h1) ∧ w'.cell? ⟨X, 1, none⟩ = some (.slice D2 q2 h2) ∧ w'.cell? ⟨X, 2, none⟩ = some (.slice D3 q3 h3) ∧ w'.cell? ⟨X, 3, none⟩ = some (.int .i64 (y.first : Int)) ∧ w'.cell? ⟨X, 4, none⟩ = some (.int .i64 (y.many : Int)) ∧ w'.cell? ⟨X, 5, none⟩ = some (.int .u32 (y.epoch : Int)) ∧ w'.cell? ⟨X, 6, none⟩ = some (.int .u32 (y.low : Int)) ∧ w'.cell? ⟨X, 7, none⟩ = some (.int .u32 (y.next : Int)) ∧ Below w9.heap.size w9 w') → Calls Try.prog 17 #[.pointer (some pa)] w' fun e w'' => e = .returned (.int .u32 (y.next : Int)) ∧ (w''.cell? ⟨X, 0, none⟩ = some (.slice D1 q1 h1) ∧ w''.cell? ⟨X, 1, none⟩ = some (.slice D2 q2 h2) ∧ w''.cell? ⟨X, 2, none⟩ = some (.slice D3 q3 h3) ∧ w''.cell? ⟨X, 3, none⟩ = some (.int .i64 (y.first : Int)) ∧ w''.cell? ⟨X, 4, none⟩ = some (.int .i64 (y.many : Int)) ∧ w''.cell? ⟨X, 5, none⟩ = some (.int .u32 (y.epoch : Int)) ∧ w''.cell? ⟨X, 6, none⟩ = some (.int .u32 (y.low : Int)) ∧ w''.cell? ⟨X, 7, none⟩ = some (.int .u32 (y.next : Int)) ∧ Below w9.heap.size w9 w'')) :=
              Lib.hid (fun w' hS => (ring_next (HB5.out.real.below K hS.2.2.2.2.2.2.2.2)).mono (fun e w'' ⟨e1, hb⟩ => ⟨e1, HK3.out _ (below_two hS.2.2.2.2.2.2.2.2 hb)⟩))
            have HFr : Hid (∀ w', (w'.cell? ⟨X, 0, none⟩ = some (.slice D1 q1 h1) ∧ w'.cell? ⟨X, 1, none⟩ = some (.slice D2 q2 h2) ∧ w'.cell? ⟨X, 2, none⟩ = some (.slice D3 q3 h3) ∧ w'.cell? ⟨X, 3, none⟩ = some (.int .i64 (y.first : Int)) ∧ w'.cell? ⟨X, 4, none⟩ = some (.int .i64 (y.many : Int)) ∧ w'.cell? ⟨X, 5, none⟩ = some (.int .u32 (y.epoch : Int)) ∧ w'.cell? ⟨X, 6, none⟩ = some (.int .u32 (y.low : Int)) ∧ w'.cell? ⟨X, 7, none⟩ = some (.int .u32 (y.next : Int)) ∧ Below w9.heap.size w9 w') → Calls Try.prog 18 #[.pointer (some pa)] w' fun e w'' => e = .returned (.int .i64 (fr : Int)) ∧ (w''.cell? ⟨X, 0, none⟩ = some (.slice D1 q1 h1) ∧ w''.cell? ⟨X, 1, none⟩ = some (.slice D2 q2 h2) ∧ w''.cell? ⟨X, 2, none⟩ = some (.slice D3 q3 h3) ∧ w''.cell? ⟨X, 3, none⟩ = some (.int .i64 (y.first : Int)) ∧ w''.cell? ⟨X, 4, none⟩ = some (.int .i64 (y.many : Int)) ∧ w''.cell? ⟨X, 5, none⟩ = some (.int .u32 (y.epoch : Int)) ∧ w''.cell? ⟨X, 6, none⟩ = some (.int .u32 (y.low : Int)) ∧ w''.cell? ⟨X, 7, none⟩ = some (.int .u32 (y.next : Int)) ∧ Below w9.heap.size w9 w'')) :=
              Lib.hid (fun w' hS => (ring_free (HB5.out.real.below K hS.2.2.2.2.2.2.2.2)).mono (fun e w'' ⟨e1, hb⟩ => ⟨by rw [hfr]; exact e1, HK3.out _ (below_two hS.2.2.2.2.2.2.2.2 hb)⟩))
            have HRf : Hid (∀ w', (w'.cell? ⟨X, 0, none⟩ = some (.slice D1 q1 h1) ∧ w'.cell? ⟨X, 1, none⟩ = some (.slice D2 q2 h2) ∧ w'.cell? ⟨X, 2, none⟩ = some (.slice D3 q3 h3) ∧ w'.cell? ⟨X, 3, none⟩ = some (.int .i64 (y.first : Int)) ∧ w'.cell? ⟨X, 4, none⟩ = some (.int .i64 (y.many : Int)) ∧ w'.cell? ⟨X, 5, none⟩ = some (.int .u32 (y.epoch : Int)) ∧ w'.cell? ⟨X, 6, none⟩ = some (.int .u32 (y.low : Int)) ∧ w'.cell? ⟨X, 7, none⟩ = some (.int .u32 (y.next : Int)) ∧ Below w9.heap.size w9 w') → Calls Try.prog 19 #[.agg #[.slice D1 q1 h1, .slice D2 q2 h2, .slice D3 q3 h3, .int .i64 (y.first : Int), .int .i64 (y.many : Int), .int .u32 (y.epoch : Int), .int .u32 (y.low : Int), .int .u32 (y.next : Int)]] w' fun e w'' => e = .returned (.int .i64 (fr : Int)) ∧ (w''.cell? ⟨X, 0, none⟩ = some (.slice D1 q1 h1) ∧ w''.cell? ⟨X, 1, none⟩ = some (.slice D2 q2 h2) ∧ w''.cell? ⟨X, 2, none⟩ = some (.slice D3 q3 h3) ∧ w''.cell? ⟨X, 3, none⟩ = some (.int .i64 (y.first : Int)) ∧ w''.cell? ⟨X, 4, none⟩ = some (.int .i64 (y.many : Int)) ∧ w''.cell? ⟨X, 5, none⟩ = some (.int .u32 (y.epoch : Int)) ∧ w''.cell? ⟨X, 6, none⟩ = some (.int .u32 (y.low : Int)) ∧ w''.cell? ⟨X, 7, none⟩ = some (.int .u32 (y.next : Int)) ∧ Below w9.heap.size w9 w'')) :=
              Lib.hid (fun w' hS => (rfree_any (HB5.out.ref.below hS.2.2.2.2.2.2.2.2 HB5.out.rlt) HB5.out.real.num HB5.out.real.may).mono (fun e w'' ⟨e1, hb⟩ => ⟨by rw [hfr]; exact e1, HK3.out _ (below_two hS.2.2.2.2.2.2.2.2 hb)⟩))
            have hbd9 : Below w9.heap.size w9 w9.drew := (Below.refl _ _).drew
            clear hX5 hX5' hB5 hfr hB
            go_region_held3 (fun w' => w'.cell? ⟨X, 0, none⟩ = some (.slice D1 q1 h1) ∧ w'.cell? ⟨X, 1, none⟩ = some (.slice D2 q2 h2) ∧ w'.cell? ⟨X, 2, none⟩ = some (.slice D3 q3 h3) ∧ w'.cell? ⟨X, 3, none⟩ = some (.int .i64 (y.first : Int)) ∧ w'.cell? ⟨X, 4, none⟩ = some (.int .i64 (y.many : Int)) ∧ w'.cell? ⟨X, 5, none⟩ = some (.int .u32 (y.epoch : Int)) ∧ w'.cell? ⟨X, 6, none⟩ = some (.int .u32 (y.low : Int)) ∧ w'.cell? ⟨X, 7, none⟩ = some (.int .u32 (y.next : Int)) ∧ Below w9.heap.size w9 w')
              (first | with_reducible exact HK3.out _ hbd9 | with_reducible assumption)
              (first
                | (go_at_call 16
                   with_reducible refine (HLo.out _ (by assumption)).mono ?_
                   rintro ea wa ⟨rfl, hSa⟩)
                | (go_at_call 17
                   with_reducible refine (HNe.out _ (by assumption)).mono ?_
                   rintro eb wb ⟨rfl, hSb⟩)
                | (go_at_call 18
                   with_reducible refine (HFr.out _ (by assumption)).mono ?_
                   rintro ec wc ⟨rfl, hSc⟩)
                | (go_at_call 19
                   with_reducible refine (HRf.out _ (by assumption)).mono ?_
                   rintro ed we ⟨rfl, hSd⟩))
            all_goals
              have HLE := Lib.hid (HL4.out.below K hSd.2.2.2.2.2.2.2.2)
              clear HLo HNe HFr HRf HK3 hSa hSb hSc hSd
              go_wp2_with fail
              go_roundw
            case rel => exact ⟨k + 1, F', R', by omega, by go_num, by rw [HSt.out]; exact HLE.out⟩
            case measure => simp [intOf]; omega
        · obtain rfl : k = l.length := by omega
          rw [List.take_length] at hL
          have hrow := rsteps_row l (r := r0) HM0.out hfew.2
          have hsec : (rsteps r0 l).d.secs.length = 12 := (rsteps_secs l (r := r0)).trans HS0.out
          have hrow9 : (rsteps r0 l).d.row.length ≤ 900 := by have := HR0.out; have := hfew.1; omega
          obtain ⟨⟨z1, z2, z3, hB, hX8⟩, nF, nR, hF, hbl, hXw⟩ := hL
          obtain ⟨y, hy⟩ : ∃ y, y = rsteps r0 l := ⟨_, rfl⟩
          rw [← hy] at hB hX8 hsec hrow9
          clear hy hrow
          obtain ⟨D1, q1, h1, D2, q2, h2, D3, q3, h3, ee⟩ := hB.ref.form
          obtain ⟨rfl, rfl, rfl⟩ := agg3 ee
          have hrd : Rd wr R (.agg #[.slice D1 q1 h1, .slice D2 q2 h2, .slice D3 q3 h3]) y.d := by
            obtain ⟨a', b', c', e', hd'⟩ := hB.ref
            obtain ⟨rfl, rfl, rfl⟩ := agg3 e'
            exact hd'
          obtain ⟨_, _, _, _, _, _, e3⟩ := hrd.form
          have hq3 : q3 = y.d.row.length := by simp at e3; exact e3.2.2.2.1
          clear ee e3
          obtain ⟨Fd, _, hDk⟩ := hB.real.disk
          have HRd := Lib.hid hrd
          have HDk := Lib.hid hDk
          have HX8 : Hid (Bk wr X [.slice D1 q1 h1, .slice D2 q2 h2, .slice D3 q3 h3, .int .i64 (y.first : Int), .int .i64 (y.many : Int), .int .u32 (y.epoch : Int), .int .u32 (y.low : Int), .int .u32 (y.next : Int)]) := Lib.hid hX8
          have HRl := Lib.hid hB.rlt
          have HSc := Lib.hid hsec
          have HQ3 := Lib.hid hq3
          have HBl := Lib.hid hbl
          clear hrd hDk hX8 hB hsec hq3 hbl
          go_wp2_with fail
          generalize wr = wl at *
          go_loopw [12] (fun i wr => ∃ k : Nat, k ≤ 12 ∧ i = .int .i64 k ∧ Hid (Below wl.heap.size wl wr)) (fun i _ => 12 - (intOf i).toNat)
          case atStart => exact ⟨0, by omega, rfl, Lib.hid (Below.refl _ _)⟩
          case round =>
            obtain ⟨k, hk, rfl, HW⟩ := hrel
            by_cases hk12 : k < 12
            · have hk12' : (k : Int) < 12 := by omega
              have HRa := Lib.hid (K.read (k : Int) (K.below HDk.out HW.out) (by omega) (by omega))
              go_wp2_with fail
              refine HRa.out.mono ?_
              rintro e w7 ⟨vb7, l7, k7, rfl, hrd7, hsl7, hb7⟩
              have hW7 := below_two HW.out hb7
              have hk7 : k7 = 0 := by
                have ht : y.d.there (k : Int) := ⟨by omega, by have := HSc.out; omega⟩
                rw [rdV, if_pos ht] at hrd7
                simp at hrd7
                exact hrd7.2.symm
              subst hk7
              have HRb := Lib.hid (rread_any _ y.d (k : Int) w7 R (fun b g => Nat.lt_of_lt_of_le (HRl.out b g) hW7.size) (HRd.out.below hW7 HRl.out) (by omega) (by have := HSc.out; omega))
              rw [hrd7] at HRb
              obtain ⟨A7, cap7, rfl, hc7⟩ := Sg_form hsl7
              have HSL7 := Lib.hid hsl7
              have q7 := HX8.out.step hW7
              have x0 := q7.cell 0 _ rfl
              have x1 := q7.cell 1 _ rfl
              have x2 := q7.cell 2 _ rfl
              clear HRa hrd7 hsl7 q7
              go_wp2_with fail
              refine HRb.out.mono ?_
              rintro e w8 ⟨rfl, hb8⟩
              have HW8 := Lib.hid (below_two hW7 hb8)
              have hcv7 := conv_sg (HSL7.out.below hb8 (fun b g => g.2))
              clear HRb hb8 hb7 x0 x1 x2
              go_wp2_with fail
              go_roundw
              case rel => exact ⟨k + 1, by omega, by go_num, HW8⟩
              case measure => simp [intOf]; omega
            · have hk12' : ¬ (k : Int) < 12 := by omega
              have HPe : Hid (∀ w', (w'.cell? ⟨X, 2, none⟩ = some (.slice D3 q3 h3) ∧ Below wl.heap.size wl w') → Calls Try.prog 22 #[.pointer (some da)] w' fun e w'' => e = .returned (.int .i64 (q3 : Int)) ∧ (w''.cell? ⟨X, 2, none⟩ = some (.slice D3 q3 h3) ∧ Below wl.heap.size wl w'')) :=
                Lib.hid (fun w' hS => (K.pending (K.below HDk.out hS.2)).mono (fun e w'' ⟨e1, hb⟩ => ⟨by rw [HQ3.out]; exact e1, (HX8.out.step (below_two hS.2 hb)).cell 2 _ rfl, below_two hS.2 hb⟩))
              have HSd : Hid (wr.drew.cell? ⟨X, 2, none⟩ = some (.slice D3 q3 h3) ∧ Below wl.heap.size wl wr.drew) := Lib.hid ⟨(HX8.out.step HW.out).cell 2 _ rfl, HW.out.drew⟩
              go_wp2_with fail
              go_region_held3 (fun w' => w'.cell? ⟨X, 2, none⟩ = some (.slice D3 q3 h3) ∧ Below wl.heap.size wl w')
                (first | with_reducible exact HSd.out | with_reducible assumption)
                (first
                  | (go_at_call 22
                     with_reducible refine (HPe.out _ (by assumption)).mono ?_
                     rintro ea wa ⟨rfl, hSa⟩))
              all_goals
                have hbe := HBl.out.trans (hSa.2.mono HBl.out.size)
                go_wp2
                go_ret
                exact ⟨rfl, hbe⟩
  · have hT9 := set8_turn w4 w3.heap.size (.slice B1 12 f1) (.slice B2 0 f2) (.slice B3 0 f3) (.int .i64 (first : Int)) (.int .i64 (many : Int)) (.int .u32 (epoch : Int)) (.int .u32 (low : Int)) (.int .u32 (next : Int))
    have hbd9 : Below w3.heap.size w3 w4 := below_two hbd2.out hb4
    have hX5 : Bk ((((((((w4.setCell ⟨w3.heap.size, 0, none⟩ (.slice B1 12 f1)).setCell ⟨w3.heap.size, 1, none⟩ (.slice B2 0 f2)).setCell ⟨w3.heap.size, 2, none⟩ (.slice B3 0 f3)).setCell ⟨w3.heap.size, 3, none⟩ (.int .i64 (first : Int))).setCell ⟨w3.heap.size, 4, none⟩ (.int .i64 (many : Int))).setCell ⟨w3.heap.size, 5, none⟩ (.int .u32 (epoch : Int))).setCell ⟨w3.heap.size, 6, none⟩ (.int .u32 (low : Int))).setCell ⟨w3.heap.size, 7, none⟩ (.int .u32 (next : Int))) w3.heap.size [.slice B1 12 f1, .slice B2 0 f2, .slice B3 0 f3, .int .i64 (first : Int), .int .i64 (many : Int), .int .u32 (epoch : Int), .int .u32 (low : Int), .int .u32 (next : Int)] := hZ4.all8 (.slice B1 12 f1) (.slice B2 0 f2) (.slice B3 0 f3) (.int .i64 (first : Int)) (.int .i64 (many : Int)) (.int .u32 (epoch : Int)) (.int .u32 (low : Int)) (.int .u32 (next : Int))
    have HB5' : Below w3.heap.size w3 ((((((((w4.setCell ⟨w3.heap.size, 0, none⟩ (.slice B1 12 f1)).setCell ⟨w3.heap.size, 1, none⟩ (.slice B2 0 f2)).setCell ⟨w3.heap.size, 2, none⟩ (.slice B3 0 f3)).setCell ⟨w3.heap.size, 3, none⟩ (.int .i64 (first : Int))).setCell ⟨w3.heap.size, 4, none⟩ (.int .i64 (many : Int))).setCell ⟨w3.heap.size, 5, none⟩ (.int .u32 (epoch : Int))).setCell ⟨w3.heap.size, 6, none⟩ (.int .u32 (low : Int))).setCell ⟨w3.heap.size, 7, none⟩ (.int .u32 (next : Int))) := hbd9.trans (hT9.below hbd9.size (fun b e => by omega))
    have HL0 : Hid (Lp6 H w w3.heap.size (.pointer (some pa)) (.pointer (some da)) F3 (S.New (w3.alloc (.cells #[nilV, nilV, nilV, .int .i64 0, .int .i64 0, .int .u32 0, .int .u32 0, .int .u32 0] 39)).drew w4) ⟨newD6 12, first, many, epoch, low, next⟩ ((((((((w4.setCell ⟨w3.heap.size, 0, none⟩ (.slice B1 12 f1)).setCell ⟨w3.heap.size, 1, none⟩ (.slice B2 0 f2)).setCell ⟨w3.heap.size, 2, none⟩ (.slice B3 0 f3)).setCell ⟨w3.heap.size, 3, none⟩ (.int .i64 (first : Int))).setCell ⟨w3.heap.size, 4, none⟩ (.int .i64 (many : Int))).setCell ⟨w3.heap.size, 5, none⟩ (.int .u32 (epoch : Int))).setCell ⟨w3.heap.size, 6, none⟩ (.int .u32 (low : Int))).setCell ⟨w3.heap.size, 7, none⟩ (.int .u32 (next : Int)))) := Lib.hid (Lp6.start' K (HP3.out.below K hbd2.out) (fun b g => by have := hF3 b g; omega) (below_two hbw3 hbd2.out) HZ3.out (by have := hbw3.size; omega) (fun g => by have := hfl3 _ g; omega) hR4 hb4)
    have HBW5 := Lib.hid (below_two hbw3 HB5')
    clear HB5' hR4 hb4 hS4 HRn HAl HA8 HSd HSz hZ4 hA' hT9 ya0 yf0 ya1 yf1 ya2 yf2 ya3 yf3 ya4 yf4 ya5 yf5 ya6 yf6 ya7 yf7 HZ3
    generalize ((((((((w4.setCell ⟨w3.heap.size, 0, none⟩ (.slice B1 12 f1)).setCell ⟨w3.heap.size, 1, none⟩ (.slice B2 0 f2)).setCell ⟨w3.heap.size, 2, none⟩ (.slice B3 0 f3)).setCell ⟨w3.heap.size, 3, none⟩ (.int .i64 (first : Int))).setCell ⟨w3.heap.size, 4, none⟩ (.int .i64 (many : Int))).setCell ⟨w3.heap.size, 5, none⟩ (.int .u32 (epoch : Int))).setCell ⟨w3.heap.size, 6, none⟩ (.int .u32 (low : Int))).setCell ⟨w3.heap.size, 7, none⟩ (.int .u32 (next : Int))) = w5 at *
    generalize w3.heap.size = X at *
    have HMy := Lib.hid (rmay_any w5 B1 B2 B3 12 f1 0 f2 0 f3 (first : Int) (many : Int) epoch low next (by decide) (by omega) (by omega) (by omega) (by omega) hlo hnx)
    rw [hmay] at HMy
    have x0 := hX5.cell 0 _ rfl
    have x1 := hX5.cell 1 _ rfl
    have x2 := hX5.cell 2 _ rfl
    have x3 := hX5.cell 3 _ rfl
    have x4 := hX5.cell 4 _ rfl
    have x5 := hX5.cell 5 _ rfl
    have x6 := hX5.cell 6 _ rfl
    have x7 := hX5.cell 7 _ rfl
    have hbw5 : Below w.heap.size w w5 := HBW5.out
    clear hX5
    go_wp2_with fail
    refine HMy.out.mono ?_
    rintro e w6 ⟨rfl, hb6⟩
    have hbw6 := below_two hbw5 hb6
    clear HMy x0 x1 x2 x3 x4 x5 x6 x7
    have HFw := Lib.hid (few6_any _ l w6 Gd (HD.out.below hbw6 hG) hl)
    obtain ⟨fw, hfw⟩ : ∃ fw, fw = few6 l := ⟨_, rfl⟩
    rw [← hfw] at HFw
    have HFE := Lib.hid hfw
    have HL6 := Lib.hid (HL0.out.below K hb6)
    clear hfw HL0 hb6
    go_wp2_with fail
    refine HFw.out.mono ?_
    rintro e w6' ⟨rfl, rfl⟩
    clear HFw
    cases fw
    · go_wp2
      go_ret
      exact ⟨rfl, hbw6⟩
    · have hfew := few6_of HFE.out.symm
      obtain ⟨r0, hr0⟩ : ∃ r0 : G.Rg, r0 = ⟨newD6 12, first, many, epoch, low, next⟩ := ⟨_, rfl⟩
      rw [← hr0] at HL6
      have HM0 : Hid r0.May := Lib.hid (by obtain ⟨⟨x1, x2, x3, hB, _⟩, _⟩ := HL6.out; exact hB.real.may)
      have HR0 : Hid (r0.d.row.length = 0) := Lib.hid (by rw [hr0]; rfl)
      have HS0 : Hid (r0.d.secs.length = 12) := Lib.hid (by rw [hr0]; rfl)
      clear hr0
      go_wp2_with fail
      go_loopw [9] (fun i wr => ∃ (k : Nat) (F R : Nat → Prop), k ≤ l.length ∧ i = .int .i64 k ∧ Lp6 H w X (.pointer (some pa)) (.pointer (some da)) F R (rsteps r0 (l.take k)) wr) (fun i _ => l.length - (intOf i).toNat)
      case atStart => exact ⟨0, _, _, Nat.zero_le _, rfl, HL6.out⟩
      case round =>
        clear HL6
        obtain ⟨k, F, R, hk, rfl, hL⟩ := hrel
        by_cases hlt : k < l.length
        · obtain ⟨⟨x1, x2, x3, hB, hX8⟩, nF, nR, hF, hbl, hXw⟩ := hL
          obtain ⟨a, cap', vb, ea, _, hga, hok, d0, d1, d2, hvb⟩ := (HD.out.below hbl hG).nth k hlt
          cases ea
          obtain ⟨Ab, capb, rfl, hcb⟩ := Sg_form hvb
          obtain ⟨A1, m1, e1, A2, m2, e2, A3, m3, e3, ee⟩ := hB.ref.form
          obtain ⟨rfl, rfl, rfl⟩ := agg3 ee
          clear ee
          have hrow : (rsteps r0 (l.take k)).d.row.length ≤ 900 := by
            have h9 := rsteps_row (l.take k) (r := r0) HM0.out (fun X hX => hfew.2 X (List.mem_of_mem_take hX))
            have h0 := HR0.out
            have h8 := hfew.1
            simp only [List.length_take] at h9
            omega
          have HSt := Lib.hid (rsteps_take r0 l k hlt)
          obtain ⟨r, hr⟩ : ∃ r, r = rsteps r0 (l.take k) := ⟨_, rfl⟩
          rw [← hr] at hB hX8 hrow HSt
          have HRK := Lib.hid hr
          clear hr
          have hb400 := hfew.2 l[k] (List.getElem_mem hlt)
          have HO : Hid (∀ wd, Below wr.heap.size wr wd → Calls Try.prog 15 #[.pointer (some da), .pointer (some pa), .agg #[.slice A1 m1 e1, .slice A2 m2 e2, .slice A3 m3 e3, .int .i64 (r.first : Int), .int .i64 (r.many : Int), .int .u32 (r.epoch : Int), .int .u32 (r.low : Int), .int .u32 (r.next : Int)], .agg #[.int .i64 l[k].kind, .slice Ab l[k].rc.length capb, .int .u8 (l[k].n : Int)]] wd (Did6 H wd F R (.pointer (some pa)) (.pointer (some da)) (r.step l[k]))) := Lib.hid (fun wd hbd =>
            do6_any K KF _ _ _ r _ _ _ l[k] wd F R Gd (hB.below K hbd) ⟨rfl, hvb.below hbd (fun b g => Nat.lt_of_lt_of_le (hG b g) hbl.size), rfl⟩ hok (fun b g => Nat.lt_of_lt_of_le (hG b g) (Nat.le_trans hbl.size hbd.size)) (fun b g f => by have := hG b g; have := hF b f; omega) hrow (by omega))
          have hgl := hG _ hga
          have hab : (a.add (k * 3)).block = a.block := S.add_block a (k * 3)
          have nga : ¬ F a.block := fun g => by have := hF _ g; omega
          have hwz := hbl.size
          have hxl := hX8.lt
          have hX8' : Bk wr X [.slice A1 m1 e1, .slice A2 m2 e2, .slice A3 m3 e3, .int .i64 (r.first : Int), .int .i64 (r.many : Int), .int .u32 (r.epoch : Int), .int .u32 (r.low : Int), .int .u32 (r.next : Int)] := hX8
          have HXk : Hid (∀ wd w3, Below wr.heap.size wr wd → Turn F wd w3 → Bk w3 X [.slice A1 m1 e1, .slice A2 m2 e2, .slice A3 m3 e3, .int .i64 (r.first : Int), .int .i64 (r.many : Int), .int .u32 (r.epoch : Int), .int .u32 (r.low : Int), .int .u32 (r.next : Int)]) := Lib.hid (fun wd w3 hbd ht => (hX8'.step hbd).turn ht nF)
          have HDk : Hid (∀ wd w3 (p : Addr), p.block = a.block → Below wr.heap.size wr wd → Turn F wd w3 → w3.cell? p = wr.cell? p) := Lib.hid (fun wd w3 p hp hbd ht => (ht.cell (by have := hbd.size; omega) (by rw [hp]; exact nga)).trans (hbd.cell (by omega)))
          have HXf : Hid (∀ wd w3, Below wr.heap.size wr wd → Turn F wd w3 → w3.cell? ⟨X, 0, none⟩ = some (.slice A1 m1 e1) ∧ w3.cell? ⟨X, 1, none⟩ = some (.slice A2 m2 e2) ∧ w3.cell? ⟨X, 2, none⟩ = some (.slice A3 m3 e3) ∧ w3.cell? ⟨X, 3, none⟩ = some (.int .i64 (r.first : Int)) ∧ w3.cell? ⟨X, 4, none⟩ = some (.int .i64 (r.many : Int)) ∧ w3.cell? ⟨X, 5, none⟩ = some (.int .u32 (r.epoch : Int)) ∧ w3.cell? ⟨X, 6, none⟩ = some (.int .u32 (r.low : Int)) ∧ w3.cell? ⟨X, 7, none⟩ = some (.int .u32 (r.next : Int)) ∧ w3.cell? (a.add (k * 3)) = some (.int .i64 l[k].kind) ∧ w3.cell? ⟨(a.add (k * 3)).block, (a.add (k * 3)).off + 1, none⟩ = some (.slice Ab l[k].rc.length capb) ∧ w3.cell? ⟨(a.add (k * 3)).block, (a.add (k * 3)).off + 2, none⟩ = some (.int .u8 (l[k].n : Int))) := Lib.hid (fun wd w3 hbd ht =>
            have q := HXk.out wd w3 hbd ht
            ⟨q.cell 0 _ rfl, q.cell 1 _ rfl, q.cell 2 _ rfl, q.cell 3 _ rfl, q.cell 4 _ rfl, q.cell 5 _ rfl, q.cell 6 _ rfl, q.cell 7 _ rfl, (HDk.out wd w3 (a.add (k * 3)) hab hbd ht).trans d0, (HDk.out wd w3 ⟨(a.add (k * 3)).block, (a.add (k * 3)).off + 1, none⟩ hab hbd ht).trans d1, (HDk.out wd w3 ⟨(a.add (k * 3)).block, (a.add (k * 3)).off + 2, none⟩ hab hbd ht).trans d2⟩)
          have hbz : Below wr.heap.size wr (wr.alloc (.cells #[nilV, nilV, nilV, .int .i64 0, .int .i64 0, .int .u32 0, .int .u32 0, .int .u32 0] 39)) := (Below.refl _ _).alloc (Nat.le_refl _) _
          have hbd1 := Lib.hid (Below.drew (Below.refl wr.heap.size wr))
          have hbd2 := Lib.hid hbz.drew
          have nFY : ¬ F wr.heap.size := fun g => by have := hB.real.lt _ g; omega
          have nRY : ¬ R wr.heap.size := fun g => by have := hB.rlt _ g; omega
          have HYk : Hid (∀ w3, Turn F (wr.alloc (.cells #[nilV, nilV, nilV, .int .i64 0, .int .i64 0, .int .u32 0, .int .u32 0, .int .u32 0] 39)).drew w3 → Bk w3 wr.heap.size [nilV, nilV, nilV, .int .i64 0, .int .i64 0, .int .u32 0, .int .u32 0, .int .u32 0]) := Lib.hid (fun w3 ht => (Bk.new wr [nilV, nilV, nilV, .int .i64 0, .int .i64 0, .int .u32 0, .int .u32 0, .int .u32 0] 39 rfl).drew.turn ht nFY)
          have nXY : wr.heap.size ≠ X := by omega
          have nAY : wr.heap.size ≠ (a.add (k * 3)).block := by omega
          have HA8 : Hid (∀ (w3 : World) (u0 u1 u2 u3 u4 u5 u6 u7 : Value), (w3.cell? ⟨X, 0, none⟩ = some (.slice A1 m1 e1) ∧ w3.cell? ⟨X, 1, none⟩ = some (.slice A2 m2 e2) ∧ w3.cell? ⟨X, 2, none⟩ = some (.slice A3 m3 e3) ∧ w3.cell? ⟨X, 3, none⟩ = some (.int .i64 (r.first : Int)) ∧ w3.cell? ⟨X, 4, none⟩ = some (.int .i64 (r.many : Int)) ∧ w3.cell? ⟨X, 5, none⟩ = some (.int .u32 (r.epoch : Int)) ∧ w3.cell? ⟨X, 6, none⟩ = some (.int .u32 (r.low : Int)) ∧ w3.cell? ⟨X, 7, none⟩ = some (.int .u32 (r.next : Int)) ∧ w3.cell? (a.add (k * 3)) = some (.int .i64 l[k].kind) ∧ w3.cell? ⟨(a.add (k * 3)).block, (a.add (k * 3)).off + 1, none⟩ = some (.slice Ab l[k].rc.length capb) ∧ w3.cell? ⟨(a.add (k * 3)).block, (a.add (k * 3)).off + 2, none⟩ = some (.int .u8 (l[k].n : Int))) → (set8 w3 wr.heap.size u0 u1 u2 u3 u4 u5 u6 u7).cell? ⟨X, 0, none⟩ = some (.slice A1 m1 e1) ∧ (set8 w3 wr.heap.size u0 u1 u2 u3 u4 u5 u6 u7).cell? ⟨X, 1, none⟩ = some (.slice A2 m2 e2) ∧ (set8 w3 wr.heap.size u0 u1 u2 u3 u4 u5 u6 u7).cell? ⟨X, 2, none⟩ = some (.slice A3 m3 e3) ∧ (set8 w3 wr.heap.size u0 u1 u2 u3 u4 u5 u6 u7).cell? ⟨X, 3, none⟩ = some (.int .i64 (r.first : Int)) ∧ (set8 w3 wr.heap.size u0 u1 u2 u3 u4 u5 u6 u7).cell? ⟨X, 4, none⟩ = some (.int .i64 (r.many : Int)) ∧ (set8 w3 wr.heap.size u0 u1 u2 u3 u4 u5 u6 u7).cell? ⟨X, 5, none⟩ = some (.int .u32 (r.epoch : Int)) ∧ (set8 w3 wr.heap.size u0 u1 u2 u3 u4 u5 u6 u7).cell? ⟨X, 6, none⟩ = some (.int .u32 (r.low : Int)) ∧ (set8 w3 wr.heap.size u0 u1 u2 u3 u4 u5 u6 u7).cell? ⟨X, 7, none⟩ = some (.int .u32 (r.next : Int)) ∧ (set8 w3 wr.heap.size u0 u1 u2 u3 u4 u5 u6 u7).cell? (a.add (k * 3)) = some (.int .i64 l[k].kind) ∧ (set8 w3 wr.heap.size u0 u1 u2 u3 u4 u5 u6 u7).cell? ⟨(a.add (k * 3)).block, (a.add (k * 3)).off + 1, none⟩ = some (.slice Ab l[k].rc.length capb) ∧ (set8 w3 wr.heap.size u0 u1 u2 u3 u4 u5 u6 u7).cell? ⟨(a.add (k * 3)).block, (a.add (k * 3)).off + 2, none⟩ = some (.int .u8 (l[k].n : Int))) := Lib.hid (fun w3 u0 u1 u2 u3 u4 u5 u6 u7 h =>
            ⟨set8_other (a := ⟨X, 0, none⟩) h.1 nXY u0 u1 u2 u3 u4 u5 u6 u7, set8_other (a := ⟨X, 1, none⟩) h.2.1 nXY u0 u1 u2 u3 u4 u5 u6 u7, set8_other (a := ⟨X, 2, none⟩) h.2.2.1 nXY u0 u1 u2 u3 u4 u5 u6 u7, set8_other (a := ⟨X, 3, none⟩) h.2.2.2.1 nXY u0 u1 u2 u3 u4 u5 u6 u7, set8_other (a := ⟨X, 4, none⟩) h.2.2.2.2.1 nXY u0 u1 u2 u3 u4 u5 u6 u7, set8_other (a := ⟨X, 5, none⟩) h.2.2.2.2.2.1 nXY u0 u1 u2 u3 u4 u5 u6 u7, set8_other (a := ⟨X, 6, none⟩) h.2.2.2.2.2.2.1 nXY u0 u1 u2 u3 u4 u5 u6 u7, set8_other (a := ⟨X, 7, none⟩) h.2.2.2.2.2.2.2.1 nXY u0 u1 u2 u3 u4 u5 u6 u7, set8_other h.2.2.2.2.2.2.2.2.1 nAY u0 u1 u2 u3 u4 u5 u6 u7, set8_other (a := ⟨(a.add (k * 3)).block, (a.add (k * 3)).off + 1, none⟩) h.2.2.2.2.2.2.2.2.2.1 nAY u0 u1 u2 u3 u4 u5 u6 u7, set8_other (a := ⟨(a.add (k * 3)).block, (a.add (k * 3)).off + 2, none⟩) h.2.2.2.2.2.2.2.2.2.2 nAY u0 u1 u2 u3 u4 u5 u6 u7⟩)
          have HAl : Hid (∀ (w3 : World) (o : Obj), (w3.cell? ⟨X, 0, none⟩ = some (.slice A1 m1 e1) ∧ w3.cell? ⟨X, 1, none⟩ = some (.slice A2 m2 e2) ∧ w3.cell? ⟨X, 2, none⟩ = some (.slice A3 m3 e3) ∧ w3.cell? ⟨X, 3, none⟩ = some (.int .i64 (r.first : Int)) ∧ w3.cell? ⟨X, 4, none⟩ = some (.int .i64 (r.many : Int)) ∧ w3.cell? ⟨X, 5, none⟩ = some (.int .u32 (r.epoch : Int)) ∧ w3.cell? ⟨X, 6, none⟩ = some (.int .u32 (r.low : Int)) ∧ w3.cell? ⟨X, 7, none⟩ = some (.int .u32 (r.next : Int)) ∧ w3.cell? (a.add (k * 3)) = some (.int .i64 l[k].kind) ∧ w3.cell? ⟨(a.add (k * 3)).block, (a.add (k * 3)).off + 1, none⟩ = some (.slice Ab l[k].rc.length capb) ∧ w3.cell? ⟨(a.add (k * 3)).block, (a.add (k * 3)).off + 2, none⟩ = some (.int .u8 (l[k].n : Int))) → (w3.alloc o).cell? ⟨X, 0, none⟩ = some (.slice A1 m1 e1) ∧ (w3.alloc o).cell? ⟨X, 1, none⟩ = some (.slice A2 m2 e2) ∧ (w3.alloc o).cell? ⟨X, 2, none⟩ = some (.slice A3 m3 e3) ∧ (w3.alloc o).cell? ⟨X, 3, none⟩ = some (.int .i64 (r.first : Int)) ∧ (w3.alloc o).cell? ⟨X, 4, none⟩ = some (.int .i64 (r.many : Int)) ∧ (w3.alloc o).cell? ⟨X, 5, none⟩ = some (.int .u32 (r.epoch : Int)) ∧ (w3.alloc o).cell? ⟨X, 6, none⟩ = some (.int .u32 (r.low : Int)) ∧ (w3.alloc o).cell? ⟨X, 7, none⟩ = some (.int .u32 (r.next : Int)) ∧ (w3.alloc o).cell? (a.add (k * 3)) = some (.int .i64 l[k].kind) ∧ (w3.alloc o).cell? ⟨(a.add (k * 3)).block, (a.add (k * 3)).off + 1, none⟩ = some (.slice Ab l[k].rc.length capb) ∧ (w3.alloc o).cell? ⟨(a.add (k * 3)).block, (a.add (k * 3)).off + 2, none⟩ = some (.int .u8 (l[k].n : Int))) := Lib.hid (fun w3 o h =>
            have q (p : Addr) (u : Value) (h : w3.cell? p = some u) : (w3.alloc o).cell? p = some u := (((Below.refl w3.heap.size w3).alloc (Nat.le_refl _) o).cell (World.block_lt_of_cell? w3 p h)).trans h
            ⟨q _ _ h.1, q _ _ h.2.1, q _ _ h.2.2.1, q _ _ h.2.2.2.1, q _ _ h.2.2.2.2.1, q _ _ h.2.2.2.2.2.1, q _ _ h.2.2.2.2.2.2.1, q _ _ h.2.2.2.2.2.2.2.1, q _ _ h.2.2.2.2.2.2.2.2.1, q _ _ h.2.2.2.2.2.2.2.2.2.1, q _ _ h.2.2.2.2.2.2.2.2.2.2⟩)
          have HXF := Lib.hid (HXf.out wr wr (Below.refl _ _) (Turn.refl _ _))
          have hlt3 : k * 3 < 9223372036854775807 := by omega
          obtain ⟨y, hy⟩ : ∃ y, y = r.step l[k] := ⟨_, rfl⟩
          rw [← hy] at HO HSt
          have HY := Lib.hid hy
          clear hy hbz hvb hX8 hok hab
          have hS0 := HXF.out
          have HSd : Hid (wr.drew.cell? ⟨X, 0, none⟩ = some (.slice A1 m1 e1) ∧ wr.drew.cell? ⟨X, 1, none⟩ = some (.slice A2 m2 e2) ∧ wr.drew.cell? ⟨X, 2, none⟩ = some (.slice A3 m3 e3) ∧ wr.drew.cell? ⟨X, 3, none⟩ = some (.int .i64 (r.first : Int)) ∧ wr.drew.cell? ⟨X, 4, none⟩ = some (.int .i64 (r.many : Int)) ∧ wr.drew.cell? ⟨X, 5, none⟩ = some (.int .u32 (r.epoch : Int)) ∧ wr.drew.cell? ⟨X, 6, none⟩ = some (.int .u32 (r.low : Int)) ∧ wr.drew.cell? ⟨X, 7, none⟩ = some (.int .u32 (r.next : Int)) ∧ wr.drew.cell? (a.add (k * 3)) = some (.int .i64 l[k].kind) ∧ wr.drew.cell? ⟨(a.add (k * 3)).block, (a.add (k * 3)).off + 1, none⟩ = some (.slice Ab l[k].rc.length capb) ∧ wr.drew.cell? ⟨(a.add (k * 3)).block, (a.add (k * 3)).off + 2, none⟩ = some (.int .u8 (l[k].n : Int))) := Lib.hid hS0
          have HSz : Hid ((wr.alloc (.cells #[nilV, nilV, nilV, .int .i64 0, .int .i64 0, .int .u32 0, .int .u32 0, .int .u32 0] 39)).drew.cell? ⟨X, 0, none⟩ = some (.slice A1 m1 e1) ∧ (wr.alloc (.cells #[nilV, nilV, nilV, .int .i64 0, .int .i64 0, .int .u32 0, .int .u32 0, .int .u32 0] 39)).drew.cell? ⟨X, 1, none⟩ = some (.slice A2 m2 e2) ∧ (wr.alloc (.cells #[nilV, nilV, nilV, .int .i64 0, .int .i64 0, .int .u32 0, .int .u32 0, .int .u32 0] 39)).drew.cell? ⟨X, 2, none⟩ = some (.slice A3 m3 e3) ∧ (wr.alloc (.cells #[nilV, nilV, nilV, .int .i64 0, .int .i64 0, .int .u32 0, .int .u32 0, .int .u32 0] 39)).drew.cell? ⟨X, 3, none⟩ = some (.int .i64 (r.first : Int)) ∧ (wr.alloc (.cells #[nilV, nilV, nilV, .int .i64 0, .int .i64 0, .int .u32 0, .int .u32 0, .int .u32 0] 39)).drew.cell? ⟨X, 4, none⟩ = some (.int .i64 (r.many : Int)) ∧ (wr.alloc (.cells #[nilV, nilV, nilV, .int .i64 0, .int .i64 0, .int .u32 0, .int .u32 0, .int .u32 0] 39)).drew.cell? ⟨X, 5, none⟩ = some (.int .u32 (r.epoch : Int)) ∧ (wr.alloc (.cells #[nilV, nilV, nilV, .int .i64 0, .int .i64 0, .int .u32 0, .int .u32 0, .int .u32 0] 39)).drew.cell? ⟨X, 6, none⟩ = some (.int .u32 (r.low : Int)) ∧ (wr.alloc (.cells #[nilV, nilV, nilV, .int .i64 0, .int .i64 0, .int .u32 0, .int .u32 0, .int .u32 0] 39)).drew.cell? ⟨X, 7, none⟩ = some (.int .u32 (r.next : Int)) ∧ (wr.alloc (.cells #[nilV, nilV, nilV, .int .i64 0, .int .i64 0, .int .u32 0, .int .u32 0, .int .u32 0] 39)).drew.cell? (a.add (k * 3)) = some (.int .i64 l[k].kind) ∧ (wr.alloc (.cells #[nilV, nilV, nilV, .int .i64 0, .int .i64 0, .int .u32 0, .int .u32 0, .int .u32 0] 39)).drew.cell? ⟨(a.add (k * 3)).block, (a.add (k * 3)).off + 1, none⟩ = some (.slice Ab l[k].rc.length capb) ∧ (wr.alloc (.cells #[nilV, nilV, nilV, .int .i64 0, .int .i64 0, .int .u32 0, .int .u32 0, .int .u32 0] 39)).drew.cell? ⟨(a.add (k * 3)).block, (a.add (k * 3)).off + 2, none⟩ = some (.int .u8 (l[k].n : Int))) := Lib.hid (HAl.out wr (.cells #[nilV, nilV, nilV, .int .i64 0, .int .i64 0, .int .u32 0, .int .u32 0, .int .u32 0] 39) hS0)
          obtain ⟨x0, x1, x2, x3, x4, x5, x6, x7, d0, d1, d2⟩ := id hS0
          clear x0 x1 x2 x3 x4 x5 x6 x7 d0 d1 d2 hS0
          go_wp2_with fail
          go_region_held3 (fun w' => w'.cell? ⟨X, 0, none⟩ = some (.slice A1 m1 e1) ∧ w'.cell? ⟨X, 1, none⟩ = some (.slice A2 m2 e2) ∧ w'.cell? ⟨X, 2, none⟩ = some (.slice A3 m3 e3) ∧ w'.cell? ⟨X, 3, none⟩ = some (.int .i64 (r.first : Int)) ∧ w'.cell? ⟨X, 4, none⟩ = some (.int .i64 (r.many : Int)) ∧ w'.cell? ⟨X, 5, none⟩ = some (.int .u32 (r.epoch : Int)) ∧ w'.cell? ⟨X, 6, none⟩ = some (.int .u32 (r.low : Int)) ∧ w'.cell? ⟨X, 7, none⟩ = some (.int .u32 (r.next : Int)) ∧ w'.cell? (a.add (k * 3)) = some (.int .i64 l[k].kind) ∧ w'.cell? ⟨(a.add (k * 3)).block, (a.add (k * 3)).off + 1, none⟩ = some (.slice Ab l[k].rc.length capb) ∧ w'.cell? ⟨(a.add (k * 3)).block, (a.add (k * 3)).off + 2, none⟩ = some (.int .u8 (l[k].n : Int)))
            (first | with_reducible exact HSd.out | with_reducible exact HSz.out | with_reducible assumption | with_reducible exact HAl.out _ _ (by assumption))
            (first
              | (go_at_call 15
                 (with_reducible refine (HO.out _ hbd1.out).mono ?_)
                 rintro e w3 ⟨yv, F', R', rfl, hB', hF', hR', ht⟩
                 obtain ⟨C1, n1, g1, C2, n2, g2, C3, n3, g3, rfl⟩ := hB'.ref.form
                 have hA := HXf.out _ w3 hbd1.out ht)
              | (go_at_call 15
                 (with_reducible refine (HO.out _ hbd2.out).mono ?_)
                 rintro e w3 ⟨yv, F', R', rfl, hB', hF', hR', ht⟩
                 obtain ⟨C1, n1, g1, C2, n2, g2, C3, n3, g3, rfl⟩ := hB'.ref.form
                 have hA := HXf.out _ w3 hbd2.out ht
                 have hY4 := HYk.out w3 ht
                 have ya0 := hY4.cell 0 _ rfl
                 have ya1 := hY4.cell 1 _ rfl
                 have ya2 := hY4.cell 2 _ rfl
                 have ya3 := hY4.cell 3 _ rfl
                 have ya4 := hY4.cell 4 _ rfl
                 have ya5 := hY4.cell 5 _ rfl
                 have ya6 := hY4.cell 6 _ rfl
                 have ya7 := hY4.cell 7 _ rfl
                 have yf0 := hY4.fz 0 (by simp)
                 have yf1 := hY4.fz 1 (by simp)
                 have yf2 := hY4.fz 2 (by simp)
                 have yf3 := hY4.fz 3 (by simp)
                 have yf4 := hY4.fz 4 (by simp)
                 have yf5 := hY4.fz 5 (by simp)
                 have yf6 := hY4.fz 6 (by simp)
                 have yf7 := hY4.fz 7 (by simp)
                 have hA' := HA8.out w3 (.slice C1 n1 g1) (.slice C2 n2 g2) (.slice C3 n3 g3) (.int .i64 (y.first : Int)) (.int .i64 (y.many : Int)) (.int .u32 (y.epoch : Int)) (.int .u32 (y.low : Int)) (.int .u32 (y.next : Int)) hA))
          · have hba := (Below.refl w3.heap.size w3).alloc (Nat.le_refl _) (.cells #[.slice C1 n1 g1, .slice C2 n2 g2, .slice C3 n3 g3, .int .i64 (y.first : Int), .int .i64 (y.many : Int), .int .u32 (y.epoch : Int), .int .u32 (y.low : Int), .int .u32 (y.next : Int)] 39)
            have hXa := (HXk.out _ w3 hbd1.out ht).alloc (.cells #[.slice C1 n1 g1, .slice C2 n2 g2, .slice C3 n3 g3, .int .i64 (y.first : Int), .int .i64 (y.many : Int), .int .u32 (y.epoch : Int), .int .u32 (y.low : Int), .int .u32 (y.next : Int)] 39)
            have hB4 := hB'.below K hba
            have htd : Turn F wr w3 := Turn.behind hbd1.out ht
            have ht4 : Turn F wr (w3.alloc (.cells #[.slice C1 n1 g1, .slice C2 n2 g2, .slice C3 n3 g3, .int .i64 (y.first : Int), .int .i64 (y.many : Int), .int .u32 (y.epoch : Int), .int .u32 (y.low : Int), .int .u32 (y.next : Int)] 39)) := htd.on hba
            have nF4 : ¬ F' X := fun g => (hF' X g).elim nF (fun g => by have := hbd1.out.size; have := g.1; omega)
            have nR4 : ¬ R' X := fun g => (hR' X g).elim nR (fun g => by have := hbd1.out.size; have := g.1; omega)
            have hF4 : ∀ b, F' b → w.heap.size ≤ b := fun b g => (hF' b g).elim (hF b) (fun g => by have := hbd1.out.size; have := g.1; omega)
            have hbw4 : Below w.heap.size w (w3.alloc (.cells #[.slice C1 n1 g1, .slice C2 n2 g2, .slice C3 n3 g3, .int .i64 (y.first : Int), .int .i64 (y.many : Int), .int .u32 (y.epoch : Int), .int .u32 (y.low : Int), .int .u32 (y.next : Int)] 39)) := hbl.trans (ht4.below hbl.size hF)
            have HL4 : Hid (Lp6 H w X (.pointer (some pa)) (.pointer (some da)) F' R' y (((((((((w3.alloc (.cells #[.slice C1 n1 g1, .slice C2 n2 g2, .slice C3 n3 g3, .int .i64 (y.first : Int), .int .i64 (y.many : Int), .int .u32 (y.epoch : Int), .int .u32 (y.low : Int), .int .u32 (y.next : Int)] 39)).setCell ⟨X, 0, none⟩ (.slice C1 n1 g1)).setCell ⟨X, 1, none⟩ (.slice C2 n2 g2)).setCell ⟨X, 2, none⟩ (.slice C3 n3 g3)).setCell ⟨X, 3, none⟩ (.int .i64 (y.first : Int))).setCell ⟨X, 4, none⟩ (.int .i64 (y.many : Int))).setCell ⟨X, 5, none⟩ (.int .u32 (y.epoch : Int))).setCell ⟨X, 6, none⟩ (.int .u32 (y.low : Int))).setCell ⟨X, 7, none⟩ (.int .u32 (y.next : Int)))) := Lib.hid (Lp6.put K hXw hbw4 hXa nF4 nR4 hF4 hB4)
            have HT4 : Hid (Turn (fun b => F b ∨ b = X) wr (((((((((w3.alloc (.cells #[.slice C1 n1 g1, .slice C2 n2 g2, .slice C3 n3 g3, .int .i64 (y.first : Int), .int .i64 (y.many : Int), .int .u32 (y.epoch : Int), .int .u32 (y.low : Int), .int .u32 (y.next : Int)] 39)).setCell ⟨X, 0, none⟩ (.slice C1 n1 g1)).setCell ⟨X, 1, none⟩ (.slice C2 n2 g2)).setCell ⟨X, 2, none⟩ (.slice C3 n3 g3)).setCell ⟨X, 3, none⟩ (.int .i64 (y.first : Int))).setCell ⟨X, 4, none⟩ (.int .i64 (y.many : Int))).setCell ⟨X, 5, none⟩ (.int .u32 (y.epoch : Int))).setCell ⟨X, 6, none⟩ (.int .u32 (y.low : Int))).setCell ⟨X, 7, none⟩ (.int .u32 (y.next : Int)))) := Lib.hid (Turn.more (Turn.more (Turn.refl _ wr) ht4 (fun b _ g => Or.inl g)) (set8_turn (w3.alloc (.cells #[.slice C1 n1 g1, .slice C2 n2 g2, .slice C3 n3 g3, .int .i64 (y.first : Int), .int .i64 (y.many : Int), .int .u32 (y.epoch : Int), .int .u32 (y.low : Int), .int .u32 (y.next : Int)] 39)) X (.slice C1 n1 g1) (.slice C2 n2 g2) (.slice C3 n3 g3) (.int .i64 (y.first : Int)) (.int .i64 (y.many : Int)) (.int .u32 (y.epoch : Int)) (.int .u32 (y.low : Int)) (.int .u32 (y.next : Int))) (fun b _ e => Or.inr e))
            have hFs : ∀ b, b < wr.heap.size → F' b → F b := fun b hb g => (hF' b g).elim id (fun g => by have := hbd1.out.size; have := g.1; omega)
            have hRs : ∀ b, b < wr.heap.size → R' b → R b := fun b hb g => (hR' b g).elim id (fun g => by have := hbd1.out.size; have := g.1; omega)
            have xa0 := hXa.cell 0 _ rfl
            have xa1 := hXa.cell 1 _ rfl
            have xa2 := hXa.cell 2 _ rfl
            have xa3 := hXa.cell 3 _ rfl
            have xa4 := hXa.cell 4 _ rfl
            have xa5 := hXa.cell 5 _ rfl
            have xa6 := hXa.cell 6 _ rfl
            have xa7 := hXa.cell 7 _ rfl
            have xf0 := hXa.fz 0 (by simp)
            have xf1 := hXa.fz 1 (by simp)
            have xf2 := hXa.fz 2 (by simp)
            have xf3 := hXa.fz 3 (by simp)
            have xf4 := hXa.fz 4 (by simp)
            have xf5 := hXa.fz 5 (by simp)
            have xf6 := hXa.fz 6 (by simp)
            have xf7 := hXa.fz 7 (by simp)
            clear hXa hB4 ht4 htd hB' ht HO HXk HXf HDk HYk HA8 HXF HAl HSd HSz hba hA
            go_wp2_with fail
            clear xa0 xf0 xa1 xf1 xa2 xf2 xa3 xf3 xa4 xf4 xa5 xf5 xa6 xf6 xa7 xf7
            generalize (((((((((w3.alloc (.cells #[.slice C1 n1 g1, .slice C2 n2 g2, .slice C3 n3 g3, .int .i64 (y.first : Int), .int .i64 (y.many : Int), .int .u32 (y.epoch : Int), .int .u32 (y.low : Int), .int .u32 (y.next : Int)] 39)).setCell ⟨X, 0, none⟩ (.slice C1 n1 g1)).setCell ⟨X, 1, none⟩ (.slice C2 n2 g2)).setCell ⟨X, 2, none⟩ (.slice C3 n3 g3)).setCell ⟨X, 3, none⟩ (.int .i64 (y.first : Int))).setCell ⟨X, 4, none⟩ (.int .i64 (y.many : Int))).setCell ⟨X, 5, none⟩ (.int .u32 (y.epoch : Int))).setCell ⟨X, 6, none⟩ (.int .u32 (y.low : Int))).setCell ⟨X, 7, none⟩ (.int .u32 (y.next : Int))) = w9 at *
            obtain ⟨⟨z1, z2, z3, hB5, hX5⟩, _⟩ := id HL4.out
            obtain ⟨D1, q1, h1, D2, q2, h2, D3, q3, h3, ee⟩ := hB5.ref.form
            obtain ⟨rfl, rfl, rfl⟩ := agg3 ee
            clear ee
            have hX5' : Bk w9 X [.slice D1 q1 h1, .slice D2 q2 h2, .slice D3 q3 h3, .int .i64 (y.first : Int), .int .i64 (y.many : Int), .int .u32 (y.epoch : Int), .int .u32 (y.low : Int), .int .u32 (y.next : Int)] := hX5
            have HB5 := Lib.hid hB5
            have HK3 : Hid (∀ w', Below w9.heap.size w9 w' → w'.cell? ⟨X, 0, none⟩ = some (.slice D1 q1 h1) ∧ w'.cell? ⟨X, 1, none⟩ = some (.slice D2 q2 h2) ∧ w'.cell? ⟨X, 2, none⟩ = some (.slice D3 q3 h3) ∧ w'.cell? ⟨X, 3, none⟩ = some (.int .i64 (y.first : Int)) ∧ w'.cell? ⟨X, 4, none⟩ = some (.int .i64 (y.many : Int)) ∧ w'.cell? ⟨X, 5, none⟩ = some (.int .u32 (y.epoch : Int)) ∧ w'.cell? ⟨X, 6, none⟩ = some (.int .u32 (y.low : Int)) ∧ w'.cell? ⟨X, 7, none⟩ = some (.int .u32 (y.next : Int)) ∧ Below w9.heap.size w9 w') := Lib.hid (fun w' hb => have q := hX5'.step hb; ⟨q.cell 0 _ rfl, q.cell 1 _ rfl, q.cell 2 _ rfl, q.cell 3 _ rfl, q.cell 4 _ rfl, q.cell 5 _ rfl, q.cell 6 _ rfl, q.cell 7 _ rfl, hb⟩)
            obtain ⟨fr, hfr⟩ : ∃ fr, fr = y.free := ⟨_, rfl⟩
            have HLo : Hid (∀ w', (w'.cell? ⟨X, 0, none⟩ = some (.slice D1 q1 h1) ∧ w'.cell? ⟨X, 1, none⟩ = some (.slice D2 q2 h2) ∧ w'.cell? ⟨X, 2, none⟩ = some (.slice D3 q3 h3) ∧ w'.cell? ⟨X, 3, none⟩ = some (.int .i64 (y.first : Int)) ∧ w'.cell? ⟨X, 4, none⟩ = some (.int .i64 (y.many : Int)) ∧ w'.cell? ⟨X, 5, none⟩ = some (.int .u32 (y.epoch : Int)) ∧ w'.cell? ⟨X, 6, none⟩ = some (.int .u32 (y.low : Int)) ∧ w'.cell? ⟨X, 7, none⟩ = some (.int .u32 (y.next : Int)) ∧ Below w9.heap.size w9 w') → Calls Try.prog 16 #[.pointer (some pa)] w' fun e w'' => e = .returned (.int .u32 (y.low : Int)) ∧ (w''.cell? ⟨X, 0, none⟩ = some (.slice D1 q1 h1) ∧ w''.cell? ⟨X, 1, none⟩ = some (.slice D2 q2 h2) ∧ w''.cell? ⟨X, 2, none⟩ = some (.slice D3 q3 h3) ∧ w''.cell? ⟨X, 3, none⟩ = some (.int .i64 (y.first : Int)) ∧ w''.cell? ⟨X, 4, none⟩ = some (.int .i64 (y.many : Int)) ∧ w''.cell? ⟨X, 5, none⟩ = some (.int .u32 (y.epoch : Int)) ∧ w''.cell? ⟨X, 6, none⟩ = some (.int .u32 (y.low : Int)) ∧ w''.cell? ⟨X, 7, none⟩ = some (.int .u32 (y.next : Int)) ∧ Below w9.heap.size w9 w'')) :=
              Lib.hid (fun w' hS => (ring_low (HB5.out.real.below K hS.2.2.2.2.2.2.2.2)).mono (fun e w'' ⟨e1, hb⟩ => ⟨e1, HK3.out _ (below_two hS.2.2.2.2.2.2.2.2 hb)⟩))
            have HNe : Hid (∀ w', (w'.cell? ⟨X, 0, none⟩ = some (.slice D1 q1 h1) ∧ w'.cell? ⟨X, 1, none⟩ = some (.slice D2 q2 h2) ∧ w'.cell? ⟨X, 2, none⟩ = some (.slice D3 q3 h3) ∧ w'.cell? ⟨X, 3, none⟩ = some (.int .i64 (y.first : Int)) ∧ w'.cell? ⟨X, 4, none⟩ = some (.int .i64 (y.many : Int)) ∧ w'.cell? ⟨X, 5, none⟩ = some (.int .u32 (y.epoch : Int)) ∧ w'.cell? ⟨X, 6, none⟩ = some (.int .u32 (y.low : Int)) ∧ w'.cell? ⟨X, 7, none⟩ = some (.int .u32 (y.next : Int)) ∧ Below w9.heap.size w9 w') → Calls Try.prog 17 #[.pointer (some pa)] w' fun e w'' => e = .returned (.int .u32 (y.next : Int)) ∧ (w''.cell? ⟨X, 0, none⟩ = some (.slice D1 q1 h1) ∧ w''.cell? ⟨X, 1, none⟩ = some (.slice D2 q2 h2) ∧ w''.cell? ⟨X, 2, none⟩ = some (.slice D3 q3 h3) ∧ w''.cell? ⟨X, 3, none⟩ = some (.int .i64 (y.first : Int)) ∧ w''.cell? ⟨X, 4, none⟩ = some (.int .i64 (y.many : Int)) ∧ w''.cell? ⟨X, 5, none⟩ = some (.int .u32 (y.epoch : Int)) ∧ w''.cell? ⟨X, 6, none⟩ = some (.int .u32 (y.low : Int)) ∧ w''.cell? ⟨X, 7, none⟩ = some (.int .u32 (y.next : Int)) ∧ Below w9.heap.size w9 w'')) :=
              Lib.hid (fun w' hS => (ring_next (HB5.out.real.below K hS.2.2.2.2.2.2.2.2)).mono (fun e w'' ⟨e1, hb⟩ => ⟨e1, HK3.out _ (below_two hS.2.2.2.2.2.2.2.2 hb)⟩))
            have HFr : Hid (∀ w', (w'.cell? ⟨X, 0, none⟩ = some (.slice D1 q1 h1) ∧ w'.cell? ⟨X, 1, none⟩ = some (.slice D2 q2 h2) ∧ w'.cell? ⟨X, 2, none⟩ = some (.slice D3 q3 h3) ∧ w'.cell? ⟨X, 3, none⟩ = some (.int .i64 (y.first : Int)) ∧ w'.cell? ⟨X, 4, none⟩ = some (.int .i64 (y.many : Int)) ∧ w'.cell? ⟨X, 5, none⟩ = some (.int .u32 (y.epoch : Int)) ∧ w'.cell? ⟨X, 6, none⟩ = some (.int .u32 (y.low : Int)) ∧ w'.cell? ⟨X, 7, none⟩ = some (.int .u32 (y.next : Int)) ∧ Below w9.heap.size w9 w') → Calls Try.prog 18 #[.pointer (some pa)] w' fun e w'' => e = .returned (.int .i64 (fr : Int)) ∧ (w''.cell? ⟨X, 0, none⟩ = some (.slice D1 q1 h1) ∧ w''.cell? ⟨X, 1, none⟩ = some (.slice D2 q2 h2) ∧ w''.cell? ⟨X, 2, none⟩ = some (.slice D3 q3 h3) ∧ w''.cell? ⟨X, 3, none⟩ = some (.int .i64 (y.first : Int)) ∧ w''.cell? ⟨X, 4, none⟩ = some (.int .i64 (y.many : Int)) ∧ w''.cell? ⟨X, 5, none⟩ = some (.int .u32 (y.epoch : Int)) ∧ w''.cell? ⟨X, 6, none⟩ = some (.int .u32 (y.low : Int)) ∧ w''.cell? ⟨X, 7, none⟩ = some (.int .u32 (y.next : Int)) ∧ Below w9.heap.size w9 w'')) :=
              Lib.hid (fun w' hS => (ring_free (HB5.out.real.below K hS.2.2.2.2.2.2.2.2)).mono (fun e w'' ⟨e1, hb⟩ => ⟨by rw [hfr]; exact e1, HK3.out _ (below_two hS.2.2.2.2.2.2.2.2 hb)⟩))
            have HRf : Hid (∀ w', (w'.cell? ⟨X, 0, none⟩ = some (.slice D1 q1 h1) ∧ w'.cell? ⟨X, 1, none⟩ = some (.slice D2 q2 h2) ∧ w'.cell? ⟨X, 2, none⟩ = some (.slice D3 q3 h3) ∧ w'.cell? ⟨X, 3, none⟩ = some (.int .i64 (y.first : Int)) ∧ w'.cell? ⟨X, 4, none⟩ = some (.int .i64 (y.many : Int)) ∧ w'.cell? ⟨X, 5, none⟩ = some (.int .u32 (y.epoch : Int)) ∧ w'.cell? ⟨X, 6, none⟩ = some (.int .u32 (y.low : Int)) ∧ w'.cell? ⟨X, 7, none⟩ = some (.int .u32 (y.next : Int)) ∧ Below w9.heap.size w9 w') → Calls Try.prog 19 #[.agg #[.slice D1 q1 h1, .slice D2 q2 h2, .slice D3 q3 h3, .int .i64 (y.first : Int), .int .i64 (y.many : Int), .int .u32 (y.epoch : Int), .int .u32 (y.low : Int), .int .u32 (y.next : Int)]] w' fun e w'' => e = .returned (.int .i64 (fr : Int)) ∧ (w''.cell? ⟨X, 0, none⟩ = some (.slice D1 q1 h1) ∧ w''.cell? ⟨X, 1, none⟩ = some (.slice D2 q2 h2) ∧ w''.cell? ⟨X, 2, none⟩ = some (.slice D3 q3 h3) ∧ w''.cell? ⟨X, 3, none⟩ = some (.int .i64 (y.first : Int)) ∧ w''.cell? ⟨X, 4, none⟩ = some (.int .i64 (y.many : Int)) ∧ w''.cell? ⟨X, 5, none⟩ = some (.int .u32 (y.epoch : Int)) ∧ w''.cell? ⟨X, 6, none⟩ = some (.int .u32 (y.low : Int)) ∧ w''.cell? ⟨X, 7, none⟩ = some (.int .u32 (y.next : Int)) ∧ Below w9.heap.size w9 w'')) :=
              Lib.hid (fun w' hS => (rfree_any (HB5.out.ref.below hS.2.2.2.2.2.2.2.2 HB5.out.rlt) HB5.out.real.num HB5.out.real.may).mono (fun e w'' ⟨e1, hb⟩ => ⟨by rw [hfr]; exact e1, HK3.out _ (below_two hS.2.2.2.2.2.2.2.2 hb)⟩))
            have hbd9 : Below w9.heap.size w9 w9.drew := (Below.refl _ _).drew
            clear hX5 hX5' hB5 hfr hB
            go_region_held3 (fun w' => w'.cell? ⟨X, 0, none⟩ = some (.slice D1 q1 h1) ∧ w'.cell? ⟨X, 1, none⟩ = some (.slice D2 q2 h2) ∧ w'.cell? ⟨X, 2, none⟩ = some (.slice D3 q3 h3) ∧ w'.cell? ⟨X, 3, none⟩ = some (.int .i64 (y.first : Int)) ∧ w'.cell? ⟨X, 4, none⟩ = some (.int .i64 (y.many : Int)) ∧ w'.cell? ⟨X, 5, none⟩ = some (.int .u32 (y.epoch : Int)) ∧ w'.cell? ⟨X, 6, none⟩ = some (.int .u32 (y.low : Int)) ∧ w'.cell? ⟨X, 7, none⟩ = some (.int .u32 (y.next : Int)) ∧ Below w9.heap.size w9 w')
              (first | with_reducible exact HK3.out _ hbd9 | with_reducible assumption)
              (first
                | (go_at_call 16
                   with_reducible refine (HLo.out _ (by assumption)).mono ?_
                   rintro ea wa ⟨rfl, hSa⟩)
                | (go_at_call 17
                   with_reducible refine (HNe.out _ (by assumption)).mono ?_
                   rintro eb wb ⟨rfl, hSb⟩)
                | (go_at_call 18
                   with_reducible refine (HFr.out _ (by assumption)).mono ?_
                   rintro ec wc ⟨rfl, hSc⟩)
                | (go_at_call 19
                   with_reducible refine (HRf.out _ (by assumption)).mono ?_
                   rintro ed we ⟨rfl, hSd⟩))
            all_goals
              have HLE := Lib.hid (HL4.out.below K hSd.2.2.2.2.2.2.2.2)
              clear HLo HNe HFr HRf HK3 hSa hSb hSc hSd
              go_wp2_with fail
              go_roundw
            case rel => exact ⟨k + 1, F', R', by omega, by go_num, by rw [HSt.out]; exact HLE.out⟩
            case measure => simp [intOf]; omega
          · have hT9 : Turn (fun b => b = wr.heap.size) w3 ((((((((w3.setCell ⟨wr.heap.size, 0, none⟩ (.slice C1 n1 g1)).setCell ⟨wr.heap.size, 1, none⟩ (.slice C2 n2 g2)).setCell ⟨wr.heap.size, 2, none⟩ (.slice C3 n3 g3)).setCell ⟨wr.heap.size, 3, none⟩ (.int .i64 (y.first : Int))).setCell ⟨wr.heap.size, 4, none⟩ (.int .i64 (y.many : Int))).setCell ⟨wr.heap.size, 5, none⟩ (.int .u32 (y.epoch : Int))).setCell ⟨wr.heap.size, 6, none⟩ (.int .u32 (y.low : Int))).setCell ⟨wr.heap.size, 7, none⟩ (.int .u32 (y.next : Int))) := set8_turn w3 wr.heap.size (.slice C1 n1 g1) (.slice C2 n2 g2) (.slice C3 n3 g3) (.int .i64 (y.first : Int)) (.int .i64 (y.many : Int)) (.int .u32 (y.epoch : Int)) (.int .u32 (y.low : Int)) (.int .u32 (y.next : Int))
            have hXa : Bk ((((((((w3.setCell ⟨wr.heap.size, 0, none⟩ (.slice C1 n1 g1)).setCell ⟨wr.heap.size, 1, none⟩ (.slice C2 n2 g2)).setCell ⟨wr.heap.size, 2, none⟩ (.slice C3 n3 g3)).setCell ⟨wr.heap.size, 3, none⟩ (.int .i64 (y.first : Int))).setCell ⟨wr.heap.size, 4, none⟩ (.int .i64 (y.many : Int))).setCell ⟨wr.heap.size, 5, none⟩ (.int .u32 (y.epoch : Int))).setCell ⟨wr.heap.size, 6, none⟩ (.int .u32 (y.low : Int))).setCell ⟨wr.heap.size, 7, none⟩ (.int .u32 (y.next : Int))) X [.slice A1 m1 e1, .slice A2 m2 e2, .slice A3 m3 e3, .int .i64 (r.first : Int), .int .i64 (r.many : Int), .int .u32 (r.epoch : Int), .int .u32 (r.low : Int), .int .u32 (r.next : Int)] := (HXk.out _ w3 hbd2.out ht).turn hT9 (fun e => nXY e.symm)
            have hYa : Bk ((((((((w3.setCell ⟨wr.heap.size, 0, none⟩ (.slice C1 n1 g1)).setCell ⟨wr.heap.size, 1, none⟩ (.slice C2 n2 g2)).setCell ⟨wr.heap.size, 2, none⟩ (.slice C3 n3 g3)).setCell ⟨wr.heap.size, 3, none⟩ (.int .i64 (y.first : Int))).setCell ⟨wr.heap.size, 4, none⟩ (.int .i64 (y.many : Int))).setCell ⟨wr.heap.size, 5, none⟩ (.int .u32 (y.epoch : Int))).setCell ⟨wr.heap.size, 6, none⟩ (.int .u32 (y.low : Int))).setCell ⟨wr.heap.size, 7, none⟩ (.int .u32 (y.next : Int))) wr.heap.size [.slice C1 n1 g1, .slice C2 n2 g2, .slice C3 n3 g3, .int .i64 (y.first : Int), .int .i64 (y.many : Int), .int .u32 (y.epoch : Int), .int .u32 (y.low : Int), .int .u32 (y.next : Int)] := hY4.all8 (.slice C1 n1 g1) (.slice C2 n2 g2) (.slice C3 n3 g3) (.int .i64 (y.first : Int)) (.int .i64 (y.many : Int)) (.int .u32 (y.epoch : Int)) (.int .u32 (y.low : Int)) (.int .u32 (y.next : Int))
            have hs9 : wr.heap.size < (wr.alloc (.cells #[nilV, nilV, nilV, .int .i64 0, .int .i64 0, .int .u32 0, .int .u32 0, .int .u32 0] 39)).drew.heap.size := by simp [World.drew]
            have hB4 := hB'.turn K hT9 (fun b g e => (hF' b g).elim (fun g => nFY (e ▸ g)) (fun g => by have := g.1; omega)) (fun b g e => (hR' b g).elim (fun g => nRY (e ▸ g)) (fun g => by have := g.1; omega))
            have htd : Turn F wr w3 := Turn.behind hbd2.out ht
            clear hA' ya0 yf0 ya1 yf1 ya2 yf2 ya3 yf3 ya4 yf4 ya5 yf5 ya6 yf6 ya7 yf7 hY4 hA
            generalize ((((((((w3.setCell ⟨wr.heap.size, 0, none⟩ (.slice C1 n1 g1)).setCell ⟨wr.heap.size, 1, none⟩ (.slice C2 n2 g2)).setCell ⟨wr.heap.size, 2, none⟩ (.slice C3 n3 g3)).setCell ⟨wr.heap.size, 3, none⟩ (.int .i64 (y.first : Int))).setCell ⟨wr.heap.size, 4, none⟩ (.int .i64 (y.many : Int))).setCell ⟨wr.heap.size, 5, none⟩ (.int .u32 (y.epoch : Int))).setCell ⟨wr.heap.size, 6, none⟩ (.int .u32 (y.low : Int))).setCell ⟨wr.heap.size, 7, none⟩ (.int .u32 (y.next : Int))) = w9 at *
            have ht4 : Turn F wr w9 := htd.more hT9 (fun b hb e => by omega)
            have yb0 := hYa.cell 0 _ rfl
            have yb1 := hYa.cell 1 _ rfl
            have yb2 := hYa.cell 2 _ rfl
            have yb3 := hYa.cell 3 _ rfl
            have yb4 := hYa.cell 4 _ rfl
            have yb5 := hYa.cell 5 _ rfl
            have yb6 := hYa.cell 6 _ rfl
            have yb7 := hYa.cell 7 _ rfl
            have nF4 : ¬ F' X := fun g => (hF' X g).elim nF (fun g => by have := hbd2.out.size; have := g.1; omega)
            have nR4 : ¬ R' X := fun g => (hR' X g).elim nR (fun g => by have := hbd2.out.size; have := g.1; omega)
            have hF4 : ∀ b, F' b → w.heap.size ≤ b := fun b g => (hF' b g).elim (hF b) (fun g => by have := hbd2.out.size; have := g.1; omega)
            have hbw4 : Below w.heap.size w w9 := hbl.trans (ht4.below hbl.size hF)
            have HL4 : Hid (Lp6 H w X (.pointer (some pa)) (.pointer (some da)) F' R' y ((((((((w9.setCell ⟨X, 0, none⟩ (.slice C1 n1 g1)).setCell ⟨X, 1, none⟩ (.slice C2 n2 g2)).setCell ⟨X, 2, none⟩ (.slice C3 n3 g3)).setCell ⟨X, 3, none⟩ (.int .i64 (y.first : Int))).setCell ⟨X, 4, none⟩ (.int .i64 (y.many : Int))).setCell ⟨X, 5, none⟩ (.int .u32 (y.epoch : Int))).setCell ⟨X, 6, none⟩ (.int .u32 (y.low : Int))).setCell ⟨X, 7, none⟩ (.int .u32 (y.next : Int)))) := Lib.hid (Lp6.put K hXw hbw4 hXa nF4 nR4 hF4 hB4)
            have HT4 : Hid (Turn (fun b => F b ∨ b = X) wr ((((((((w9.setCell ⟨X, 0, none⟩ (.slice C1 n1 g1)).setCell ⟨X, 1, none⟩ (.slice C2 n2 g2)).setCell ⟨X, 2, none⟩ (.slice C3 n3 g3)).setCell ⟨X, 3, none⟩ (.int .i64 (y.first : Int))).setCell ⟨X, 4, none⟩ (.int .i64 (y.many : Int))).setCell ⟨X, 5, none⟩ (.int .u32 (y.epoch : Int))).setCell ⟨X, 6, none⟩ (.int .u32 (y.low : Int))).setCell ⟨X, 7, none⟩ (.int .u32 (y.next : Int)))) := Lib.hid (Turn.more (Turn.more (Turn.refl _ wr) ht4 (fun b _ g => Or.inl g)) (set8_turn w9 X (.slice C1 n1 g1) (.slice C2 n2 g2) (.slice C3 n3 g3) (.int .i64 (y.first : Int)) (.int .i64 (y.many : Int)) (.int .u32 (y.epoch : Int)) (.int .u32 (y.low : Int)) (.int .u32 (y.next : Int))) (fun b _ e => Or.inr e))
            have hFs : ∀ b, b < wr.heap.size → F' b → F b := fun b hb g => (hF' b g).elim id (fun g => by have := hbd2.out.size; have := g.1; omega)
            have hRs : ∀ b, b < wr.heap.size → R' b → R b := fun b hb g => (hR' b g).elim id (fun g => by have := hbd2.out.size; have := g.1; omega)
            have xa0 := hXa.cell 0 _ rfl
            have xa1 := hXa.cell 1 _ rfl
            have xa2 := hXa.cell 2 _ rfl
            have xa3 := hXa.cell 3 _ rfl
            have xa4 := hXa.cell 4 _ rfl
            have xa5 := hXa.cell 5 _ rfl
            have xa6 := hXa.cell 6 _ rfl
            have xa7 := hXa.cell 7 _ rfl
            have xf0 := hXa.fz 0 (by simp)
            have xf1 := hXa.fz 1 (by simp)
            have xf2 := hXa.fz 2 (by simp)
            have xf3 := hXa.fz 3 (by simp)
            have xf4 := hXa.fz 4 (by simp)
            have xf5 := hXa.fz 5 (by simp)
            have xf6 := hXa.fz 6 (by simp)
            have xf7 := hXa.fz 7 (by simp)
            clear hXa hB4 ht4 htd hB' ht HO HXk HXf HDk HYk HA8 HXF HAl HSd HSz hT9 hs9 hYa
            go_wp2_with fail
            clear xa0 xf0 xa1 xf1 xa2 xf2 xa3 xf3 xa4 xf4 xa5 xf5 xa6 xf6 xa7 xf7
            generalize ((((((((w9.setCell ⟨X, 0, none⟩ (.slice C1 n1 g1)).setCell ⟨X, 1, none⟩ (.slice C2 n2 g2)).setCell ⟨X, 2, none⟩ (.slice C3 n3 g3)).setCell ⟨X, 3, none⟩ (.int .i64 (y.first : Int))).setCell ⟨X, 4, none⟩ (.int .i64 (y.many : Int))).setCell ⟨X, 5, none⟩ (.int .u32 (y.epoch : Int))).setCell ⟨X, 6, none⟩ (.int .u32 (y.low : Int))).setCell ⟨X, 7, none⟩ (.int .u32 (y.next : Int))) = w9 at *
            obtain ⟨⟨z1, z2, z3, hB5, hX5⟩, _⟩ := id HL4.out
            obtain ⟨D1, q1, h1, D2, q2, h2, D3, q3, h3, ee⟩ := hB5.ref.form
            obtain ⟨rfl, rfl, rfl⟩ := agg3 ee
            clear ee
            have hX5' : Bk w9 X [.slice D1 q1 h1, .slice D2 q2 h2, .slice D3 q3 h3, .int .i64 (y.first : Int), .int .i64 (y.many : Int), .int .u32 (y.epoch : Int), .int .u32 (y.low : Int), .int .u32 (y.next : Int)] := hX5
            have HB5 := Lib.hid hB5
            have HK3 : Hid (∀ w', Below w9.heap.size w9 w' → w'.cell? ⟨X, 0, none⟩ = some (.slice D1 q1 h1) ∧ w'.cell? ⟨X, 1, none⟩ = some (.slice D2 q2 h2) ∧ w'.cell? ⟨X, 2, none⟩ = some (.slice D3 q3 h3) ∧ w'.cell? ⟨X, 3, none⟩ = some (.int .i64 (y.first : Int)) ∧ w'.cell? ⟨X, 4, none⟩ = some (.int .i64 (y.many : Int)) ∧ w'.cell? ⟨X, 5, none⟩ = some (.int .u32 (y.epoch : Int)) ∧ w'.cell? ⟨X, 6, none⟩ = some (.int .u32 (y.low : Int)) ∧ w'.cell? ⟨X, 7, none⟩ = some (.int .u32 (y.next : Int)) ∧ Below w9.heap.size w9 w') := Lib.hid (fun w' hb => have q := hX5'.step hb; ⟨q.cell 0 _ rfl, q.cell 1 _ rfl, q.cell 2 _ rfl, q.cell 3 _ rfl, q.cell 4 _ rfl, q.cell 5 _ rfl, q.cell 6 _ rfl, q.cell 7 _ rfl, hb⟩)
            obtain ⟨fr, hfr⟩ : ∃ fr, fr = y.free := ⟨_, rfl⟩
            have HLo : Hid (∀ w', (w'.cell? ⟨X, 0, none⟩ = some (.slice D1 q1 h1) ∧ w'.cell? ⟨X, 1, none⟩ = some (.slice D2 q2 h2) ∧ w'.cell? ⟨X, 2, none⟩ = some (.slice D3 q3 h3) ∧ w'.cell? ⟨X, 3, none⟩ = some (.int .i64 (y.first : Int)) ∧ w'.cell? ⟨X, 4, none⟩ = some (.int .i64 (y.many : Int)) ∧ w'.cell? ⟨X, 5, none⟩ = some (.int .u32 (y.epoch : Int)) ∧ w'.cell? ⟨X, 6, none⟩ = some (.int .u32 (y.low : Int)) ∧ w'.cell? ⟨X, 7, none⟩ = some (.int .u32 (y.next : Int)) ∧ Below w9.heap.size w9 w') → Calls Try.prog 16 #[.pointer (some pa)] w' fun e w'' => e = .returned (.int .u32 (y.low : Int)) ∧ (w''.cell? ⟨X, 0, none⟩ = some (.slice D1 q1 h1) ∧ w''.cell? ⟨X, 1, none⟩ = some (.slice D2 q2 h2) ∧ w''.cell? ⟨X, 2, none⟩ = some (.slice D3 q3 h3) ∧ w''.cell? ⟨X, 3, none⟩ = some (.int .i64 (y.first : Int)) ∧ w''.cell? ⟨X, 4, none⟩ = some (.int .i64 (y.many : Int)) ∧ w''.cell? ⟨X, 5, none⟩ = some (.int .u32 (y.epoch : Int)) ∧ w''.cell? ⟨X, 6, none⟩ = some (.int .u32 (y.low : Int)) ∧ w''.cell? ⟨X, 7, none⟩ = some (.int .u32 (y.next : Int)) ∧ Below w9.heap.size w9 w'')) :=
              Lib.hid (fun w' hS => (ring_low (HB5.out.real.below K hS.2.2.2.2.2.2.2.2)).mono (fun e w'' ⟨e1, hb⟩ => ⟨e1, HK3.out _ (below_two hS.2.2.2.2.2.2.2.2 hb)⟩))
            have HNe : Hid (∀ w', (w'.cell? ⟨X, 0, none⟩ = some (.slice D1 q1 h1) ∧ w'.cell? ⟨X, 1, none⟩ = some (.slice D2 q2 h2) ∧ w'.cell? ⟨X, 2, none⟩ = some (.slice D3 q3 h3) ∧ w'.cell? ⟨X, 3, none⟩ = some (.int .i64 (y.first : Int)) ∧ w'.cell? ⟨X, 4, none⟩ = some (.int .i64 (y.many : Int)) ∧ w'.cell? ⟨X, 5, none⟩ = some (.int .u32 (y.epoch : Int)) ∧ w'.cell? ⟨X, 6, none⟩ = some (.int .u32 (y.low : Int)) ∧ w'.cell? ⟨X, 7, none⟩ = some (.int .u32 (y.next : Int)) ∧ Below w9.heap.size w9 w') → Calls Try.prog 17 #[.pointer (some pa)] w' fun e w'' => e = .returned (.int .u32 (y.next : Int)) ∧ (w''.cell? ⟨X, 0, none⟩ = some (.slice D1 q1 h1) ∧ w''.cell? ⟨X, 1, none⟩ = some (.slice D2 q2 h2) ∧ w''.cell? ⟨X, 2, none⟩ = some (.slice D3 q3 h3) ∧ w''.cell? ⟨X, 3, none⟩ = some (.int .i64 (y.first : Int)) ∧ w''.cell? ⟨X, 4, none⟩ = some (.int .i64 (y.many : Int)) ∧ w''.cell? ⟨X, 5, none⟩ = some (.int .u32 (y.epoch : Int)) ∧ w''.cell? ⟨X, 6, none⟩ = some (.int .u32 (y.low : Int)) ∧ w''.cell? ⟨X, 7, none⟩ = some (.int .u32 (y.next : Int)) ∧ Below w9.heap.size w9 w'')) :=
              Lib.hid (fun w' hS => (ring_next (HB5.out.real.below K hS.2.2.2.2.2.2.2.2)).mono (fun e w'' ⟨e1, hb⟩ => ⟨e1, HK3.out _ (below_two hS.2.2.2.2.2.2.2.2 hb)⟩))
            have HFr : Hid (∀ w', (w'.cell? ⟨X, 0, none⟩ = some (.slice D1 q1 h1) ∧ w'.cell? ⟨X, 1, none⟩ = some (.slice D2 q2 h2) ∧ w'.cell? ⟨X, 2, none⟩ = some (.slice D3 q3 h3) ∧ w'.cell? ⟨X, 3, none⟩ = some (.int .i64 (y.first : Int)) ∧ w'.cell? ⟨X, 4, none⟩ = some (.int .i64 (y.many : Int)) ∧ w'.cell? ⟨X, 5, none⟩ = some (.int .u32 (y.epoch : Int)) ∧ w'.cell? ⟨X, 6, none⟩ = some (.int .u32 (y.low : Int)) ∧ w'.cell? ⟨X, 7, none⟩ = some (.int .u32 (y.next : Int)) ∧ Below w9.heap.size w9 w') → Calls Try.prog 18 #[.pointer (some pa)] w' fun e w'' => e = .returned (.int .i64 (fr : Int)) ∧ (w''.cell? ⟨X, 0, none⟩ = some (.slice D1 q1 h1) ∧ w''.cell? ⟨X, 1, none⟩ = some (.slice D2 q2 h2) ∧ w''.cell? ⟨X, 2, none⟩ = some (.slice D3 q3 h3) ∧ w''.cell? ⟨X, 3, none⟩ = some (.int .i64 (y.first : Int)) ∧ w''.cell? ⟨X, 4, none⟩ = some (.int .i64 (y.many : Int)) ∧ w''.cell? ⟨X, 5, none⟩ = some (.int .u32 (y.epoch : Int)) ∧ w''.cell? ⟨X, 6, none⟩ = some (.int .u32 (y.low : Int)) ∧ w''.cell? ⟨X, 7, none⟩ = some (.int .u32 (y.next : Int)) ∧ Below w9.heap.size w9 w'')) :=
              Lib.hid (fun w' hS => (ring_free (HB5.out.real.below K hS.2.2.2.2.2.2.2.2)).mono (fun e w'' ⟨e1, hb⟩ => ⟨by rw [hfr]; exact e1, HK3.out _ (below_two hS.2.2.2.2.2.2.2.2 hb)⟩))
            have HRf : Hid (∀ w', (w'.cell? ⟨X, 0, none⟩ = some (.slice D1 q1 h1) ∧ w'.cell? ⟨X, 1, none⟩ = some (.slice D2 q2 h2) ∧ w'.cell? ⟨X, 2, none⟩ = some (.slice D3 q3 h3) ∧ w'.cell? ⟨X, 3, none⟩ = some (.int .i64 (y.first : Int)) ∧ w'.cell? ⟨X, 4, none⟩ = some (.int .i64 (y.many : Int)) ∧ w'.cell? ⟨X, 5, none⟩ = some (.int .u32 (y.epoch : Int)) ∧ w'.cell? ⟨X, 6, none⟩ = some (.int .u32 (y.low : Int)) ∧ w'.cell? ⟨X, 7, none⟩ = some (.int .u32 (y.next : Int)) ∧ Below w9.heap.size w9 w') → Calls Try.prog 19 #[.agg #[.slice D1 q1 h1, .slice D2 q2 h2, .slice D3 q3 h3, .int .i64 (y.first : Int), .int .i64 (y.many : Int), .int .u32 (y.epoch : Int), .int .u32 (y.low : Int), .int .u32 (y.next : Int)]] w' fun e w'' => e = .returned (.int .i64 (fr : Int)) ∧ (w''.cell? ⟨X, 0, none⟩ = some (.slice D1 q1 h1) ∧ w''.cell? ⟨X, 1, none⟩ = some (.slice D2 q2 h2) ∧ w''.cell? ⟨X, 2, none⟩ = some (.slice D3 q3 h3) ∧ w''.cell? ⟨X, 3, none⟩ = some (.int .i64 (y.first : Int)) ∧ w''.cell? ⟨X, 4, none⟩ = some (.int .i64 (y.many : Int)) ∧ w''.cell? ⟨X, 5, none⟩ = some (.int .u32 (y.epoch : Int)) ∧ w''.cell? ⟨X, 6, none⟩ = some (.int .u32 (y.low : Int)) ∧ w''.cell? ⟨X, 7, none⟩ = some (.int .u32 (y.next : Int)) ∧ Below w9.heap.size w9 w'')) :=
              Lib.hid (fun w' hS => (rfree_any (HB5.out.ref.below hS.2.2.2.2.2.2.2.2 HB5.out.rlt) HB5.out.real.num HB5.out.real.may).mono (fun e w'' ⟨e1, hb⟩ => ⟨by rw [hfr]; exact e1, HK3.out _ (below_two hS.2.2.2.2.2.2.2.2 hb)⟩))
            have hbd9 : Below w9.heap.size w9 w9.drew := (Below.refl _ _).drew
            clear hX5 hX5' hB5 hfr hB
            go_region_held3 (fun w' => w'.cell? ⟨X, 0, none⟩ = some (.slice D1 q1 h1) ∧ w'.cell? ⟨X, 1, none⟩ = some (.slice D2 q2 h2) ∧ w'.cell? ⟨X, 2, none⟩ = some (.slice D3 q3 h3) ∧ w'.cell? ⟨X, 3, none⟩ = some (.int .i64 (y.first : Int)) ∧ w'.cell? ⟨X, 4, none⟩ = some (.int .i64 (y.many : Int)) ∧ w'.cell? ⟨X, 5, none⟩ = some (.int .u32 (y.epoch : Int)) ∧ w'.cell? ⟨X, 6, none⟩ = some (.int .u32 (y.low : Int)) ∧ w'.cell? ⟨X, 7, none⟩ = some (.int .u32 (y.next : Int)) ∧ Below w9.heap.size w9 w')
              (first | with_reducible exact HK3.out _ hbd9 | with_reducible assumption)
              (first
                | (go_at_call 16
                   with_reducible refine (HLo.out _ (by assumption)).mono ?_
                   rintro ea wa ⟨rfl, hSa⟩)
                | (go_at_call 17
                   with_reducible refine (HNe.out _ (by assumption)).mono ?_
                   rintro eb wb ⟨rfl, hSb⟩)
                | (go_at_call 18
                   with_reducible refine (HFr.out _ (by assumption)).mono ?_
                   rintro ec wc ⟨rfl, hSc⟩)
                | (go_at_call 19
                   with_reducible refine (HRf.out _ (by assumption)).mono ?_
                   rintro ed we ⟨rfl, hSd⟩))
            all_goals
              have HLE := Lib.hid (HL4.out.below K hSd.2.2.2.2.2.2.2.2)
              clear HLo HNe HFr HRf HK3 hSa hSb hSc hSd
              go_wp2_with fail
              go_roundw
            case rel => exact ⟨k + 1, F', R', by omega, by go_num, by rw [HSt.out]; exact HLE.out⟩
            case measure => simp [intOf]; omega
        · obtain rfl : k = l.length := by omega
          rw [List.take_length] at hL
          have hrow := rsteps_row l (r := r0) HM0.out hfew.2
          have hsec : (rsteps r0 l).d.secs.length = 12 := (rsteps_secs l (r := r0)).trans HS0.out
          have hrow9 : (rsteps r0 l).d.row.length ≤ 900 := by have := HR0.out; have := hfew.1; omega
          obtain ⟨⟨z1, z2, z3, hB, hX8⟩, nF, nR, hF, hbl, hXw⟩ := hL
          obtain ⟨y, hy⟩ : ∃ y, y = rsteps r0 l := ⟨_, rfl⟩
          rw [← hy] at hB hX8 hsec hrow9
          clear hy hrow
          obtain ⟨D1, q1, h1, D2, q2, h2, D3, q3, h3, ee⟩ := hB.ref.form
          obtain ⟨rfl, rfl, rfl⟩ := agg3 ee
          have hrd : Rd wr R (.agg #[.slice D1 q1 h1, .slice D2 q2 h2, .slice D3 q3 h3]) y.d := by
            obtain ⟨a', b', c', e', hd'⟩ := hB.ref
            obtain ⟨rfl, rfl, rfl⟩ := agg3 e'
            exact hd'
          obtain ⟨_, _, _, _, _, _, e3⟩ := hrd.form
          have hq3 : q3 = y.d.row.length := by simp at e3; exact e3.2.2.2.1
          clear ee e3
          obtain ⟨Fd, _, hDk⟩ := hB.real.disk
          have HRd := Lib.hid hrd
          have HDk := Lib.hid hDk
          have HX8 : Hid (Bk wr X [.slice D1 q1 h1, .slice D2 q2 h2, .slice D3 q3 h3, .int .i64 (y.first : Int), .int .i64 (y.many : Int), .int .u32 (y.epoch : Int), .int .u32 (y.low : Int), .int .u32 (y.next : Int)]) := Lib.hid hX8
          have HRl := Lib.hid hB.rlt
          have HSc := Lib.hid hsec
          have HQ3 := Lib.hid hq3
          have HBl := Lib.hid hbl
          clear hrd hDk hX8 hB hsec hq3 hbl
          go_wp2_with fail
          generalize wr = wl at *
          go_loopw [12] (fun i wr => ∃ k : Nat, k ≤ 12 ∧ i = .int .i64 k ∧ Hid (Below wl.heap.size wl wr)) (fun i _ => 12 - (intOf i).toNat)
          case atStart => exact ⟨0, by omega, rfl, Lib.hid (Below.refl _ _)⟩
          case round =>
            obtain ⟨k, hk, rfl, HW⟩ := hrel
            by_cases hk12 : k < 12
            · have hk12' : (k : Int) < 12 := by omega
              have HRa := Lib.hid (K.read (k : Int) (K.below HDk.out HW.out) (by omega) (by omega))
              go_wp2_with fail
              refine HRa.out.mono ?_
              rintro e w7 ⟨vb7, l7, k7, rfl, hrd7, hsl7, hb7⟩
              have hW7 := below_two HW.out hb7
              have hk7 : k7 = 0 := by
                have ht : y.d.there (k : Int) := ⟨by omega, by have := HSc.out; omega⟩
                rw [rdV, if_pos ht] at hrd7
                simp at hrd7
                exact hrd7.2.symm
              subst hk7
              have HRb := Lib.hid (rread_any _ y.d (k : Int) w7 R (fun b g => Nat.lt_of_lt_of_le (HRl.out b g) hW7.size) (HRd.out.below hW7 HRl.out) (by omega) (by have := HSc.out; omega))
              rw [hrd7] at HRb
              obtain ⟨A7, cap7, rfl, hc7⟩ := Sg_form hsl7
              have HSL7 := Lib.hid hsl7
              have q7 := HX8.out.step hW7
              have x0 := q7.cell 0 _ rfl
              have x1 := q7.cell 1 _ rfl
              have x2 := q7.cell 2 _ rfl
              clear HRa hrd7 hsl7 q7
              go_wp2_with fail
              refine HRb.out.mono ?_
              rintro e w8 ⟨rfl, hb8⟩
              have HW8 := Lib.hid (below_two hW7 hb8)
              have hcv7 := conv_sg (HSL7.out.below hb8 (fun b g => g.2))
              clear HRb hb8 hb7 x0 x1 x2
              go_wp2_with fail
              go_roundw
              case rel => exact ⟨k + 1, by omega, by go_num, HW8⟩
              case measure => simp [intOf]; omega
            · have hk12' : ¬ (k : Int) < 12 := by omega
              have HPe : Hid (∀ w', (w'.cell? ⟨X, 2, none⟩ = some (.slice D3 q3 h3) ∧ Below wl.heap.size wl w') → Calls Try.prog 22 #[.pointer (some da)] w' fun e w'' => e = .returned (.int .i64 (q3 : Int)) ∧ (w''.cell? ⟨X, 2, none⟩ = some (.slice D3 q3 h3) ∧ Below wl.heap.size wl w'')) :=
                Lib.hid (fun w' hS => (K.pending (K.below HDk.out hS.2)).mono (fun e w'' ⟨e1, hb⟩ => ⟨by rw [HQ3.out]; exact e1, (HX8.out.step (below_two hS.2 hb)).cell 2 _ rfl, below_two hS.2 hb⟩))
              have HSd : Hid (wr.drew.cell? ⟨X, 2, none⟩ = some (.slice D3 q3 h3) ∧ Below wl.heap.size wl wr.drew) := Lib.hid ⟨(HX8.out.step HW.out).cell 2 _ rfl, HW.out.drew⟩
              go_wp2_with fail
              go_region_held3 (fun w' => w'.cell? ⟨X, 2, none⟩ = some (.slice D3 q3 h3) ∧ Below wl.heap.size wl w')
                (first | with_reducible exact HSd.out | with_reducible assumption)
                (first
                  | (go_at_call 22
                     with_reducible refine (HPe.out _ (by assumption)).mono ?_
                     rintro ea wa ⟨rfl, hSa⟩))
              all_goals
                have hbe := HBl.out.trans (hSa.2.mono HBl.out.size)
                go_wp2
                go_ret
                exact ⟨rfl, hbe⟩

theorem plays6_any (K : DiskOk H) (KF : FrameOk) (first many : Int) (epoch low next : Nat) (v : Value) (l : List Dd) (w : World) (Gd : Nat → Prop) (hd : Dds w Gd v l) (hG : ∀ b, Gd b → b < w.heap.size) (hl : l.length ≤ 9223372036854775807) (he : epoch < 4294967296) (hlo : low < 4294967296) (hnx : next < 4294967296) (hf0 : -9223372036854775808 ≤ first) (hf1 : first ≤ 9223372036854775807) (hm0 : -9223372036854775808 ≤ many) (hm1 : many ≤ 9223372036854775807) :
    Calls Try.prog 3 #[.agg #[.int .i64 first, .int .i64 many, .int .u32 (epoch : Int), .int .u32 (low : Int), .int .u32 (next : Int)], v] w fun e w' => e = .returned (.bool true) ∧ Below w.heap.size w w' := by
  cases hmay : mayB 12 first many low next
  · exact playsN_any K KF first many epoch low next v l w Gd hd hG hl he hlo hnx hf0 hf1 hm0 hm1 hmay
  · obtain ⟨g1, g2, g3, _⟩ := mayB_of hmay
    obtain ⟨f, rfl⟩ := Int.eq_ofNat_of_zero_le g1
    obtain ⟨m, rfl⟩ := Int.eq_ofNat_of_zero_le (show 0 ≤ many by omega)
    exact playsY_any K KF f m epoch low next v l w Gd hd hG hl he hlo hnx (by omega) (by omega) hmay
end

end Go.Proofs.Ytfpojbnidoeohaa
