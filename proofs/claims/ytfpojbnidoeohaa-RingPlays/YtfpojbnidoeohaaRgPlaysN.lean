/-
  The walk of the law RingPlays: a start that may not be.
-/
import Derived.Test.YtfpojbnidoeohaaRgLaw5
namespace Go.Proofs.Ytfpojbnidoeohaa
open Go.RowKit

section
variable {H : World → (Nat → Prop) → Value → D.Dk → Prop}

set_option maxRecDepth 100000 in
set_option maxHeartbeats 8000000 in
theorem playsN_any (K : DiskOk H) (KF : FrameOk) (first many : Int) (epoch low next : Nat) (v : Value) (l : List Dd) (w : World) (Gd : Nat → Prop) (hd : Dds w Gd v l) (_hG : ∀ b, Gd b → b < w.heap.size) (_hl : l.length ≤ 9223372036854775807) (he : epoch < 4294967296) (hlo : low < 4294967296) (hnx : next < 4294967296) (hf0 : -9223372036854775808 ≤ first) (hf1 : first ≤ 9223372036854775807) (hm0 : -9223372036854775808 ≤ many) (hm1 : many ≤ 9223372036854775807) (hmay : mayB 12 first many low next = false) :
    Calls Try.prog 3 #[.agg #[.int .i64 first, .int .i64 many, .int .u32 (epoch : Int), .int .u32 (low : Int), .int .u32 (next : Int)], v] w fun e w' => e = .returned (.bool true) ∧ Below w.heap.size w w' := by
  obtain ⟨A, cap, rfl, hc, _, _⟩ := hd
  have P0 := Bk.new w [.int .i64 first, .int .i64 many, .int .u32 (epoch : Int), .int .u32 (low : Int), .int .u32 (next : Int)] 26 rfl
  have hb0 : Below w.heap.size w (w.alloc (.cells #[.int .i64 first, .int .i64 many, .int .u32 (epoch : Int), .int .u32 (low : Int), .int .u32 (next : Int)] 26)) := (Below.refl _ _).alloc (Nat.le_refl _) _
  have HA := Lib.hid (awake6_any K KF (w.alloc (.cells #[.int .i64 first, .int .i64 many, .int .u32 (epoch : Int), .int .u32 (low : Int), .int .u32 (next : Int)] 26)))
  go_enter Try.func3, Try.ntmps3
  go_wp2_with fail
  refine HA.out.mono ?_
  rintro e w1 ⟨rfl, hb1⟩
  have HP1 := Lib.hid (P0.step hb1)
  have hbw1 := below_two hb0 hb1
  have hp1 : w.heap.size < w1.heap.size := Nat.lt_of_lt_of_le (by simp) hb1.size
  clear P0 HA hb0 hb1
  have HN := Lib.hid (K.new 12 w1 (by decide) (by decide))
  go_wp2_with fail
  refine HN.out.mono ?_
  rintro e w2 ⟨vd, rfl, hH2, hb2⟩
  obtain ⟨da, rfl⟩ := K.ptr hH2
  have hs2 := hb2.size
  have hbw2 := below_two hbw1 hb2
  have P2 := HP1.out.step hb2
  have HP2 := Lib.hid P2
  have HNw := Lib.hid (ring_new K hH2 first many epoch low next hf0 hf1 hm0 hm1 he hlo hnx)
  generalize hpe : w.heap.size = p at HP1 HP2 P2 hp1
  have p0 := P2.cell 0 _ rfl
  have p1 := P2.cell 1 _ rfl
  have p2 := P2.cell 2 _ rfl
  have p3 := P2.cell 3 _ rfl
  have p4 := P2.cell 4 _ rfl
  clear HP1 P2 HN hH2
  go_wp2_with fail
  refine HNw.out.mono ?_
  rintro e w3 ⟨hb3, h3⟩
  have hs3 := hb3.size
  have hbw3 := below_two hbw2 hb3
  obtain rfl : e = .returned (.pointer none) := by
    rcases h3 with ⟨_, h⟩ | ⟨h, _⟩
    · exact h
    · rw [List.length_replicate, hmay] at h; cases h
  have HS3 := Lib.hid (HP2.out.step hb3)
  clear HNw h3 p0 p1 p2 p3 p4 HP2 hb3
  have HSd : Hid (w3.drew.cell? ⟨p, 0, none⟩ = some (.int .i64 first) ∧ w3.drew.cell? ⟨p, 1, none⟩ = some (.int .i64 many) ∧ w3.drew.cell? ⟨p, 2, none⟩ = some (.int .u32 (epoch : Int)) ∧ w3.drew.cell? ⟨p, 3, none⟩ = some (.int .u32 (low : Int)) ∧ w3.drew.cell? ⟨p, 4, none⟩ = some (.int .u32 (next : Int))) := Lib.hid ⟨HS3.out.cell 0 _ rfl, HS3.out.cell 1 _ rfl, HS3.out.cell 2 _ rfl, HS3.out.cell 3 _ rfl, HS3.out.cell 4 _ rfl⟩
  have HSz : Hid ((w3.alloc (.cells #[nilV, nilV, nilV, .int .i64 0, .int .i64 0, .int .u32 0, .int .u32 0, .int .u32 0] 39)).drew.cell? ⟨p, 0, none⟩ = some (.int .i64 first) ∧ (w3.alloc (.cells #[nilV, nilV, nilV, .int .i64 0, .int .i64 0, .int .u32 0, .int .u32 0, .int .u32 0] 39)).drew.cell? ⟨p, 1, none⟩ = some (.int .i64 many) ∧ (w3.alloc (.cells #[nilV, nilV, nilV, .int .i64 0, .int .i64 0, .int .u32 0, .int .u32 0, .int .u32 0] 39)).drew.cell? ⟨p, 2, none⟩ = some (.int .u32 (epoch : Int)) ∧ (w3.alloc (.cells #[nilV, nilV, nilV, .int .i64 0, .int .i64 0, .int .u32 0, .int .u32 0, .int .u32 0] 39)).drew.cell? ⟨p, 3, none⟩ = some (.int .u32 (low : Int)) ∧ (w3.alloc (.cells #[nilV, nilV, nilV, .int .i64 0, .int .i64 0, .int .u32 0, .int .u32 0, .int .u32 0] 39)).drew.cell? ⟨p, 4, none⟩ = some (.int .u32 (next : Int))) := Lib.hid (have q := HS3.out.alloc (.cells #[nilV, nilV, nilV, .int .i64 0, .int .i64 0, .int .u32 0, .int .u32 0, .int .u32 0] 39); ⟨q.cell 0 _ rfl, q.cell 1 _ rfl, q.cell 2 _ rfl, q.cell 3 _ rfl, q.cell 4 _ rfl⟩)
  have hpl3 := HS3.out.lt
  have HAl : Hid (∀ (w' : World) (o : Obj), (w'.cell? ⟨p, 0, none⟩ = some (.int .i64 first) ∧ w'.cell? ⟨p, 1, none⟩ = some (.int .i64 many) ∧ w'.cell? ⟨p, 2, none⟩ = some (.int .u32 (epoch : Int)) ∧ w'.cell? ⟨p, 3, none⟩ = some (.int .u32 (low : Int)) ∧ w'.cell? ⟨p, 4, none⟩ = some (.int .u32 (next : Int))) → (w'.alloc o).cell? ⟨p, 0, none⟩ = some (.int .i64 first) ∧ (w'.alloc o).cell? ⟨p, 1, none⟩ = some (.int .i64 many) ∧ (w'.alloc o).cell? ⟨p, 2, none⟩ = some (.int .u32 (epoch : Int)) ∧ (w'.alloc o).cell? ⟨p, 3, none⟩ = some (.int .u32 (low : Int)) ∧ (w'.alloc o).cell? ⟨p, 4, none⟩ = some (.int .u32 (next : Int))) := Lib.hid (fun w' o h =>
    have q (a : Addr) (u : Value) (h : w'.cell? a = some u) : (w'.alloc o).cell? a = some u := (((Below.refl w'.heap.size w').alloc (Nat.le_refl _) o).cell (World.block_lt_of_cell? w' a h)).trans h
    ⟨q _ _ h.1, q _ _ h.2.1, q _ _ h.2.2.1, q _ _ h.2.2.2.1, q _ _ h.2.2.2.2⟩)
  have HRn : Hid (∀ wd, Below w3.heap.size w3 wd → Calls Try.prog 12 #[.int .i64 12] wd fun e w' => ∃ B1 f1 B2 f2 B3 f3, e = .returned (.agg #[.slice B1 12 f1, .slice B2 0 f2, .slice B3 0 f3]) ∧ Rd w' (S.New wd w') (.agg #[.slice B1 12 f1, .slice B2 0 f2, .slice B3 0 f3]) (newD6 12) ∧ Below wd.heap.size wd w' ∧ (w'.cell? ⟨p, 0, none⟩ = some (.int .i64 first) ∧ w'.cell? ⟨p, 1, none⟩ = some (.int .i64 many) ∧ w'.cell? ⟨p, 2, none⟩ = some (.int .u32 (epoch : Int)) ∧ w'.cell? ⟨p, 3, none⟩ = some (.int .u32 (low : Int)) ∧ w'.cell? ⟨p, 4, none⟩ = some (.int .u32 (next : Int)))) := Lib.hid (fun wd hbd => (rnew_any 12 wd (by decide)).mono (fun e w' ⟨x, e1, hR, hb⟩ => by
    obtain ⟨B1, f1, B2, f2, B3, f3, rfl⟩ := hR.form
    have q := HS3.out.step (below_two hbd hb)
    exact ⟨B1, f1, B2, f2, B3, f3, by rw [e1]; simp, hR, hb, q.cell 0 _ rfl, q.cell 1 _ rfl, q.cell 2 _ rfl, q.cell 3 _ rfl, q.cell 4 _ rfl⟩))
  have hbz : Below w3.heap.size w3 (w3.alloc (.cells #[nilV, nilV, nilV, .int .i64 0, .int .i64 0, .int .u32 0, .int .u32 0, .int .u32 0] 39)) := (Below.refl _ _).alloc (Nat.le_refl _) _
  have hbd1 := Lib.hid (Below.drew (Below.refl w3.heap.size w3))
  have hbd2 := Lib.hid hbz.drew
  have HZ3 := Lib.hid (Bk.new w3 [nilV, nilV, nilV, .int .i64 0, .int .i64 0, .int .u32 0, .int .u32 0, .int .u32 0] 39 rfl).drew
  have nXp : w3.heap.size ≠ p := by omega
  have HA8 : Hid (∀ (w' : World) (u0 u1 u2 u3 u4 u5 u6 u7 : Value), (w'.cell? ⟨p, 0, none⟩ = some (.int .i64 first) ∧ w'.cell? ⟨p, 1, none⟩ = some (.int .i64 many) ∧ w'.cell? ⟨p, 2, none⟩ = some (.int .u32 (epoch : Int)) ∧ w'.cell? ⟨p, 3, none⟩ = some (.int .u32 (low : Int)) ∧ w'.cell? ⟨p, 4, none⟩ = some (.int .u32 (next : Int))) → (set8 w' w3.heap.size u0 u1 u2 u3 u4 u5 u6 u7).cell? ⟨p, 0, none⟩ = some (.int .i64 first) ∧ (set8 w' w3.heap.size u0 u1 u2 u3 u4 u5 u6 u7).cell? ⟨p, 1, none⟩ = some (.int .i64 many) ∧ (set8 w' w3.heap.size u0 u1 u2 u3 u4 u5 u6 u7).cell? ⟨p, 2, none⟩ = some (.int .u32 (epoch : Int)) ∧ (set8 w' w3.heap.size u0 u1 u2 u3 u4 u5 u6 u7).cell? ⟨p, 3, none⟩ = some (.int .u32 (low : Int)) ∧ (set8 w' w3.heap.size u0 u1 u2 u3 u4 u5 u6 u7).cell? ⟨p, 4, none⟩ = some (.int .u32 (next : Int))) := Lib.hid (fun w' u0 u1 u2 u3 u4 u5 u6 u7 h =>
    ⟨set8_other (a := ⟨p, 0, none⟩) h.1 nXp u0 u1 u2 u3 u4 u5 u6 u7, set8_other (a := ⟨p, 1, none⟩) h.2.1 nXp u0 u1 u2 u3 u4 u5 u6 u7, set8_other (a := ⟨p, 2, none⟩) h.2.2.1 nXp u0 u1 u2 u3 u4 u5 u6 u7, set8_other (a := ⟨p, 3, none⟩) h.2.2.2.1 nXp u0 u1 u2 u3 u4 u5 u6 u7, set8_other (a := ⟨p, 4, none⟩) h.2.2.2.2 nXp u0 u1 u2 u3 u4 u5 u6 u7⟩)
  clear hbz
  go_wp2_with fail
  go_region_held3 (fun w' => w'.cell? ⟨p, 0, none⟩ = some (.int .i64 first) ∧ w'.cell? ⟨p, 1, none⟩ = some (.int .i64 many) ∧ w'.cell? ⟨p, 2, none⟩ = some (.int .u32 (epoch : Int)) ∧ w'.cell? ⟨p, 3, none⟩ = some (.int .u32 (low : Int)) ∧ w'.cell? ⟨p, 4, none⟩ = some (.int .u32 (next : Int)))
    (first | with_reducible exact HSd.out | with_reducible exact HSz.out | with_reducible assumption | with_reducible exact HAl.out _ _ (by assumption))
    (first
      | (go_at_call 12
         (with_reducible refine (HRn.out _ hbd1.out).mono ?_)
         rintro e w4 ⟨B1, f1, B2, f2, B3, f3, rfl, hR4, hb4, hS4⟩)
      | (go_at_call 12
         (with_reducible refine (HRn.out _ hbd2.out).mono ?_)
         rintro e w4 ⟨B1, f1, B2, f2, B3, f3, rfl, hR4, hb4, hS4⟩
         have hZ4 := HZ3.out.step hb4
         have ya0 := hZ4.cell 0 _ rfl
         have ya1 := hZ4.cell 1 _ rfl
         have ya2 := hZ4.cell 2 _ rfl
         have ya3 := hZ4.cell 3 _ rfl
         have ya4 := hZ4.cell 4 _ rfl
         have ya5 := hZ4.cell 5 _ rfl
         have ya6 := hZ4.cell 6 _ rfl
         have ya7 := hZ4.cell 7 _ rfl
         have yf0 := hZ4.fz 0 (by simp)
         have yf1 := hZ4.fz 1 (by simp)
         have yf2 := hZ4.fz 2 (by simp)
         have yf3 := hZ4.fz 3 (by simp)
         have yf4 := hZ4.fz 4 (by simp)
         have yf5 := hZ4.fz 5 (by simp)
         have yf6 := hZ4.fz 6 (by simp)
         have yf7 := hZ4.fz 7 (by simp)
         have hA' := HA8.out w4 (.slice B1 12 f1) (.slice B2 0 f2) (.slice B3 0 f3) (.int .i64 first) (.int .i64 many) (.int .u32 (epoch : Int)) (.int .u32 (low : Int)) (.int .u32 (next : Int)) hS4))
  · have hbd9 : Below w3.heap.size w3 w4 := below_two hbd1.out hb4
    have hX5 : Bk (w4.alloc (.cells #[.slice B1 12 f1, .slice B2 0 f2, .slice B3 0 f3, .int .i64 first, .int .i64 many, .int .u32 (epoch : Int), .int .u32 (low : Int), .int .u32 (next : Int)] 39)) w4.heap.size [.slice B1 12 f1, .slice B2 0 f2, .slice B3 0 f3, .int .i64 first, .int .i64 many, .int .u32 (epoch : Int), .int .u32 (low : Int), .int .u32 (next : Int)] := Bk.new w4 [.slice B1 12 f1, .slice B2 0 f2, .slice B3 0 f3, .int .i64 first, .int .i64 many, .int .u32 (epoch : Int), .int .u32 (low : Int), .int .u32 (next : Int)] 39 rfl
    have HB5' : Below w3.heap.size w3 (w4.alloc (.cells #[.slice B1 12 f1, .slice B2 0 f2, .slice B3 0 f3, .int .i64 first, .int .i64 many, .int .u32 (epoch : Int), .int .u32 (low : Int), .int .u32 (next : Int)] 39)) := below_two hbd9 ((Below.refl _ _).alloc (Nat.le_refl _) _)
    have HBW5 := Lib.hid (below_two hbw3 HB5')
    clear HB5' hR4 hb4 hS4 HRn HAl HA8 HSd HSz
    generalize (w4.alloc (.cells #[.slice B1 12 f1, .slice B2 0 f2, .slice B3 0 f3, .int .i64 first, .int .i64 many, .int .u32 (epoch : Int), .int .u32 (low : Int), .int .u32 (next : Int)] 39)) = w5 at *
    generalize w4.heap.size = X at *
    have HMy := Lib.hid (rmay_any w5 B1 B2 B3 12 f1 0 f2 0 f3 first many epoch low next (by decide) hf0 hf1 hm0 hm1 hlo hnx)
    rw [hmay] at HMy
    have x0 := hX5.cell 0 _ rfl
    have x1 := hX5.cell 1 _ rfl
    have x2 := hX5.cell 2 _ rfl
    have x3 := hX5.cell 3 _ rfl
    have x4 := hX5.cell 4 _ rfl
    have x5 := hX5.cell 5 _ rfl
    have x6 := hX5.cell 6 _ rfl
    have x7 := hX5.cell 7 _ rfl
    have hbw5 : Below w.heap.size w w5 := HBW5.out
    clear hX5
    go_wp2_with fail
    refine HMy.out.mono ?_
    rintro e w6 ⟨rfl, hb6⟩
    have hbw6 := below_two hbw5 hb6
    clear HMy x0 x1 x2 x3 x4 x5 x6 x7
    go_wp2
    go_ret
    exact ⟨rfl, hbw6⟩
  · have hT9 := set8_turn w4 w3.heap.size (.slice B1 12 f1) (.slice B2 0 f2) (.slice B3 0 f3) (.int .i64 first) (.int .i64 many) (.int .u32 (epoch : Int)) (.int .u32 (low : Int)) (.int .u32 (next : Int))
    have hbd9 : Below w3.heap.size w3 w4 := below_two hbd2.out hb4
    have hX5 : Bk ((((((((w4.setCell ⟨w3.heap.size, 0, none⟩ (.slice B1 12 f1)).setCell ⟨w3.heap.size, 1, none⟩ (.slice B2 0 f2)).setCell ⟨w3.heap.size, 2, none⟩ (.slice B3 0 f3)).setCell ⟨w3.heap.size, 3, none⟩ (.int .i64 first)).setCell ⟨w3.heap.size, 4, none⟩ (.int .i64 many)).setCell ⟨w3.heap.size, 5, none⟩ (.int .u32 (epoch : Int))).setCell ⟨w3.heap.size, 6, none⟩ (.int .u32 (low : Int))).setCell ⟨w3.heap.size, 7, none⟩ (.int .u32 (next : Int))) w3.heap.size [.slice B1 12 f1, .slice B2 0 f2, .slice B3 0 f3, .int .i64 first, .int .i64 many, .int .u32 (epoch : Int), .int .u32 (low : Int), .int .u32 (next : Int)] := hZ4.all8 (.slice B1 12 f1) (.slice B2 0 f2) (.slice B3 0 f3) (.int .i64 first) (.int .i64 many) (.int .u32 (epoch : Int)) (.int .u32 (low : Int)) (.int .u32 (next : Int))
    have HB5' : Below w3.heap.size w3 ((((((((w4.setCell ⟨w3.heap.size, 0, none⟩ (.slice B1 12 f1)).setCell ⟨w3.heap.size, 1, none⟩ (.slice B2 0 f2)).setCell ⟨w3.heap.size, 2, none⟩ (.slice B3 0 f3)).setCell ⟨w3.heap.size, 3, none⟩ (.int .i64 first)).setCell ⟨w3.heap.size, 4, none⟩ (.int .i64 many)).setCell ⟨w3.heap.size, 5, none⟩ (.int .u32 (epoch : Int))).setCell ⟨w3.heap.size, 6, none⟩ (.int .u32 (low : Int))).setCell ⟨w3.heap.size, 7, none⟩ (.int .u32 (next : Int))) := hbd9.trans (hT9.below hbd9.size (fun b e => by omega))
    have HBW5 := Lib.hid (below_two hbw3 HB5')
    clear HB5' hR4 hb4 hS4 HRn HAl HA8 HSd HSz hZ4 hA' hT9 ya0 yf0 ya1 yf1 ya2 yf2 ya3 yf3 ya4 yf4 ya5 yf5 ya6 yf6 ya7 yf7 HZ3
    generalize ((((((((w4.setCell ⟨w3.heap.size, 0, none⟩ (.slice B1 12 f1)).setCell ⟨w3.heap.size, 1, none⟩ (.slice B2 0 f2)).setCell ⟨w3.heap.size, 2, none⟩ (.slice B3 0 f3)).setCell ⟨w3.heap.size, 3, none⟩ (.int .i64 first)).setCell ⟨w3.heap.size, 4, none⟩ (.int .i64 many)).setCell ⟨w3.heap.size, 5, none⟩ (.int .u32 (epoch : Int))).setCell ⟨w3.heap.size, 6, none⟩ (.int .u32 (low : Int))).setCell ⟨w3.heap.size, 7, none⟩ (.int .u32 (next : Int))) = w5 at *
    generalize w3.heap.size = X at *
    have HMy := Lib.hid (rmay_any w5 B1 B2 B3 12 f1 0 f2 0 f3 first many epoch low next (by decide) hf0 hf1 hm0 hm1 hlo hnx)
    rw [hmay] at HMy
    have x0 := hX5.cell 0 _ rfl
    have x1 := hX5.cell 1 _ rfl
    have x2 := hX5.cell 2 _ rfl
    have x3 := hX5.cell 3 _ rfl
    have x4 := hX5.cell 4 _ rfl
    have x5 := hX5.cell 5 _ rfl
    have x6 := hX5.cell 6 _ rfl
    have x7 := hX5.cell 7 _ rfl
    have hbw5 : Below w.heap.size w w5 := HBW5.out
    clear hX5
    go_wp2_with fail
    refine HMy.out.mono ?_
    rintro e w6 ⟨rfl, hb6⟩
    have hbw6 := below_two hbw5 hb6
    clear HMy x0 x1 x2 x3 x4 x5 x6 x7
    go_wp2
    go_ret
    exact ⟨rfl, hbw6⟩
end

end Go.Proofs.Ytfpojbnidoeohaa
