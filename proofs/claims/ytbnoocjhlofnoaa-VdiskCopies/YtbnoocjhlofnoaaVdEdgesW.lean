/-
  The law VdiskEdges, walked: where there is no sector nothing is written or read; more than a sector isn't written; a disk that is nil has none.
-/
import Derived.Test.YtbnoocjhlofnoaaVdAnyW
namespace Go.Proofs.Ytbnoocjhlofnoaa
open Go.RowKit

/-- the calls of a disk that is nil -/
structure NilOk : Prop where
  read : ∀ (i : Int) (w : World), Calls Try.prog 15 #[.pointer none, .int .i64 i] w fun e w' => (∃ vb, e = .returned (.tuple #[vb, .int .i64 11])) ∧ Below w.heap.size w w'
  sync : ∀ w : World, Calls Try.prog 20 #[.pointer none] w fun e w' => e = .returned (.tuple #[]) ∧ Below w.heap.size w w'
  crash : ∀ w : World, Calls Try.prog 21 #[.pointer none, .slice none 0 0] w fun e w' => e = .returned (.tuple #[]) ∧ Below w.heap.size w w'
  write : ∀ (i : Int) (w : World), Calls Try.prog 19 #[.pointer none, .int .i64 i, .slice none 0 0] w fun e w' => e = .returned (.int .i64 11) ∧ Below w.heap.size w w'
  len : ∀ w : World, Calls Try.prog 17 #[.pointer none] w fun e w' => e = .returned (.int .i64 0) ∧ Below w.heap.size w w'
  pending : ∀ w : World, Calls Try.prog 14 #[.pointer none] w fun e w' => e = .returned (.int .i64 0) ∧ Below w.heap.size w w'
  copy : ∀ w : World, Calls Try.prog 23 #[.pointer none] w fun e w' => e = .returned (.pointer none) ∧ Below w.heap.size w w'

theorem bad_far {d : D.Dk} {i : Int} {l : List UInt8} (h : ¬ d.there i) : d.bad i l = 11 := by rw [D.Dk.bad, if_neg h]
theorem write_far {d : D.Dk} {i : Int} {l : List UInt8} (h : ¬ d.there i) : d.write i l = d := by rw [D.Dk.write, if_neg (fun g => h g.1)]
theorem bad_long {d : D.Dk} {i : Int} {l : List UInt8} (h : d.there i) (hl : 64 < l.length) : d.bad i l = 1 := by rw [D.Dk.bad, if_pos h, if_neg (by omega)]
theorem write_long {d : D.Dk} {i : Int} {l : List UInt8} (hl : 64 < l.length) : d.write i l = d := by rw [D.Dk.write, if_neg (fun g => by omega)]

section
variable {H : World → (Nat → Prop) → Value → D.Dk → Prop}

set_option maxRecDepth 100000 in
set_option maxHeartbeats 4000000 in
theorem edges_any (K : DiskOk H) (N : NilOk) (n : Nat) (lb : List UInt8) (w : World) (hn : n < 256) (hlb : lb.length = 65) :
    Calls Try.prog 8 #[.int .u8 n, .agg (arr lb)] w fun e w' => e = .returned (.bool true) ∧ Below w.heap.size w w' := by
  have hsz := arr_size lb
  have hba : Below w.heap.size w (w.alloc (.cells (arr lb) 56)) := (Below.refl _ _).alloc (Nat.le_refl _) _
  have hh0 : (w.alloc (.cells (arr lb) 56)).heap[w.heap.size]? = some (.cells (arr lb) 56 (0, 0)) := heap_alloc_new w _
  have hz0 : (w.alloc (.cells (arr lb) 56)).heap.size = w.heap.size + 1 := by simp
  go_enter Try.func8, Try.ntmps8
  go_wp2_with fail
  refine (vawake_any K _).mono ?_
  rintro e w1 ⟨rfl, hb1⟩
  have hb1' := below_two hba hb1
  have HN := Lib.hid (K.new 8 w1 (by omega) (by omega))
  go_wp2_with fail
  refine HN.out.mono ?_
  rintro e w2 ⟨p, rfl, hH2, hb2⟩
  obtain ⟨pa, rfl⟩ := K.ptr hH2
  have hh2 : w2.heap[w.heap.size]? = some (.cells (arr lb) 56 (0, 0)) := (hb2.block _ (by have := hb1.size; omega)).trans ((hb1.block _ (by omega)).trans hh0)
  have hs1 := hb1.size
  have hs2 := hb2.size
  have hO2 : One H w (.pointer (some pa)) (newD 8) (S.New w1 w2) w2 := ⟨hH2, fun b g => by have := g.1; omega, below_two hb1' hb2⟩
  have nF2 : ¬ S.New w1 w2 w.heap.size := fun g => by have := g.1; omega
  have hlt2 : w.heap.size < w2.heap.size := by omega
  have hdl : (newD 8).secs.length = 8 := by decide
  have hfar : ¬ (newD 8).there (8 + (n : Int)) := fun g => by have := g.2; rw [hdl] at this; omega
  have hneg : ¬ (newD 8).there (-1 - (n : Int)) := fun g => by have := g.1; omega
  generalize S.New w1 w2 = F2 at *
  have HW := Lib.hid (by have := K.write (fun _ => False) (.slice none 0 0) [] (8 + (n : Int)) hO2.real (S.Sg.nil ..) (fun _ h => h.elim) (by decide) (by simp) (by omega) (by omega); rw [bad_far hfar, write_far hfar] at this; exact this)
  clear HN hH2 hb2 hb1 hb1' hba hh0 hz0
  go_wp2_with fail
  refine HW.out.mono ?_
  rintro e w3 ⟨rfl, hH3, ht3⟩
  have hO3 := hO2.turn hH3 ht3
  have hh3 := (ht3.block _ hlt2 nF2).trans hh2
  have nF3 : ¬ More F2 w2 w3 w.heap.size := fun g => g.elim nF2 (fun g => by have := g.1; omega)
  have hlt3 := Nat.lt_of_lt_of_le hlt2 ht3.size
  generalize More F2 w2 w3 = F3 at *
  have HR := Lib.hid (K.read (-1 - (n : Int)) hO3.real (by omega) (by omega))
  rw [rdV, if_neg hneg] at HR
  clear HW hH3 ht3 hO2 hh2 nF2 hlt2
  go_wp2_with fail
  refine HR.out.mono ?_
  rintro e w4 ⟨vb4, l4, k4, rfl, he4, _, hb4⟩
  have hk4 : k4 = 11 := by
    have := congrArg Array.toList (Value.tuple.inj he4)
    simp at this
    omega
  subst hk4
  have hO4 := hO3.below K hb4
  have hh4 := (hb4.block _ hlt3).trans hh3
  have hlt4 := Nat.lt_of_lt_of_le hlt3 hb4.size
  have ht0 : (newD 8).there 0 := ⟨by omega, by rw [hdl]; omega⟩
  have HW := Lib.hid (by have := K.write (fun b => b = w.heap.size) (.slice (some ⟨w.heap.size, 0, none⟩) 65 65) lb 0 hO4.real (sl_arr hh4 hlb) (fun b h => by omega) (by decide) (by omega) (by omega) (by omega); rw [bad_long ht0 (by omega), write_long (by omega)] at this; exact this)
  clear HR hO3 hh3 hlt3 he4 hb4
  go_wp2_with fail
  refine HW.out.mono ?_
  rintro e w5 ⟨rfl, hH5, ht5⟩
  have hO5 := hO4.turn hH5 ht5
  have hh5 := (ht5.block _ hlt4 nF3).trans hh4
  have nF5 : ¬ More F3 w4 w5 w.heap.size := fun g => g.elim nF3 (fun g => by have := g.1; omega)
  have hlt5 := Nat.lt_of_lt_of_le hlt4 ht5.size
  generalize More F3 w4 w5 = F5 at *
  have hl64 : (lb.take 64).length = 64 := by rw [List.length_take]; omega
  have hs5 : SlB w5 (fun b => b = w.heap.size) (.slice (some ⟨w.heap.size, 0, none⟩) 64 65) (lb.take 64) := by
    have h65 := sl_arr hh5 hlb
    rw [← hlb] at h65
    have := Sg_take h65 64 (by omega)
    rw [hlb] at this
    exact this
  have HW := Lib.hid (by have := K.write (fun b => b = w.heap.size) (.slice (some ⟨w.heap.size, 0, none⟩) 64 65) (lb.take 64) 0 hO5.real hs5 (fun b h => by omega) (by decide) (by omega) (by omega) (by omega); rw [show (0 : Int) = ((0 : Nat) : Int) from rfl, bad_ok (by rw [hdl]; omega) (by omega)] at this; exact this)
  clear hH5 ht5 hO4 hh4 nF3 hlt4 hs5
  go_wp2_with fail
  refine HW.out.mono ?_
  rintro e w6 ⟨rfl, hH6, ht6⟩
  have hO6 := hO5.turn hH6 ht6
  have hh6 := (ht6.block _ hlt5 nF5).trans hh5
  have hlt6 := Nat.lt_of_lt_of_le hlt5 ht6.size
  generalize More F5 w5 w6 = F6 at *
  have hrd : ((newD 8).write ((0 : Nat) : Int) (lb.take 64)).read 0 = lb.take 64 := by
    rw [D.Dk.write, if_pos ⟨ht0, by omega⟩, D.Dk.read]
    show D.lastOf ([] ++ [(0, D.full (lb.take 64))]) 0 _ = _
    rw [D.lastOf_snoc, if_pos rfl, D.full_whole (by omega)]
  have HR := Lib.hid (by have := K.read_at 0 hO6.real (by rw [D.write_len, hdl]; omega); rw [hrd] at this; exact this)
  clear HW hH6 ht6 hO5 hh5 nF5 hlt5
  go_wp2_with fail
  refine HR.out.mono ?_
  rintro e w7 ⟨a7, cp7, rfl, hcp7, _, hs7, hb7⟩
  have hb7' := below_two hO6.bel hb7
  have hh7 := (hb7.block _ hlt6).trans hh6
  have hlt7 := Nat.lt_of_lt_of_le hlt6 hb7.size
  have hs7' : SlB w7 (fun b => b = w.heap.size) (.slice (some ⟨w.heap.size, 0, none⟩) 64 65) (lb.take 64) := by
    have h65 := sl_arr hh7 hlb
    rw [← hlb] at h65
    have := Sg_take h65 64 (by omega)
    rw [hlb] at this
    exact this
  obtain ⟨t64, ht64⟩ : ∃ t64, t64 = lb.take 64 := ⟨_, rfl⟩
  rw [← ht64] at hs7 hs7' hl64
  have HC : Hid (∀ wz, Below w7.heap.size w7 wz → (convert 34 9 (.slice (some a7) 64 cp7)).run Try.prog wz = .ok (.string ⟨t64.toArray⟩) wz ∧ (convert 34 9 (.slice (some ⟨w.heap.size, 0, none⟩) 64 65)).run Try.prog wz = .ok (.string ⟨t64.toArray⟩) wz) := Lib.hid (fun wz hbz => by
    have h1 := conv_sg (hs7.below hbz (fun b h => h.2))
    have h2 := conv_sg (hs7'.below hbz (fun b h => by omega))
    rw [hl64] at h1
    exact ⟨h1, h2⟩)
  clear HR hs7 hs7' hO6 hh6 hlt6 hb7 hrd
  go_wp2_with fail
  refine (N.read 0 _).mono ?_
  rintro e w8 ⟨⟨vb8, rfl⟩, hb8⟩
  go_wp2_with fail
  refine (N.sync _).mono ?_
  rintro e w9 ⟨rfl, hb9⟩
  go_wp2_with fail
  refine (N.crash _).mono ?_
  rintro e w10 ⟨rfl, hb10⟩
  have hbt := below_two (below_two hb8 hb9) hb10
  have HB : Hid (∀ wz, Below w10.heap.size w10.drew wz → Below w7.heap.size w7 wz) := Lib.hid (fun wz hz => hbt.trans ((Below.refl _ _).drew.trans (hz.mono hbt.size)))
  have hc10 := HC.out _ (HB.out _ (Below.refl _ _))
  have HZ : Hid (∀ a b : World, Below w10.heap.size w10.drew a → Below a.heap.size a b → Below w10.heap.size w10.drew b) := Lib.hid (fun a b h1 h2 => h1.trans (h2.mono h1.size))
  clear hb8 hb9 hb10
  go_wp2_with fail
  go_region_held3 (fun w' => (convert 34 9 (.slice (some a7) 64 cp7)).run Try.prog w' = .ok (.string ⟨t64.toArray⟩) w' ∧ (convert 34 9 (.slice (some ⟨w.heap.size, 0, none⟩) 64 65)).run Try.prog w' = .ok (.string ⟨t64.toArray⟩) w')
    (first | assumption | go_keep)
    (first
      | (go_at_call 19
         (with_reducible refine (N.write 0 _).mono ?_)
         rintro e w11 ⟨rfl, hb11⟩
         have hx11 : Below w10.heap.size w10.drew w11 := hb11
         have hA := HC.out _ (HB.out _ hx11))
      | (go_at_call 17
         (with_reducible refine (N.len _).mono ?_)
         rintro e w12 ⟨rfl, hb12⟩
         have hx12 := HZ.out _ _ hx11 hb12
         have hA := HC.out _ (HB.out _ hx12))
      | (go_at_call 14
         (with_reducible refine (N.pending _).mono ?_)
         rintro e w13 ⟨rfl, hb13⟩
         have hx13 := HZ.out _ _ hx12 hb13
         have hA := HC.out _ (HB.out _ hx13))
      | (go_at_call 23
         (with_reducible refine (N.copy _).mono ?_)
         rintro e w14 ⟨rfl, hb14⟩
         have hx14 := HZ.out _ _ hx13 hb14
         have hA := HC.out _ (HB.out _ hx14)
         have hbf := below_two hb7' (HB.out _ hx14)))
  all_goals (try go_wp2)
  all_goals go_ret
  all_goals exact ⟨rfl, hbf⟩
end

end Go.Proofs.Ytbnoocjhlofnoaa
