/-
  Walks of layer vdisk's laws: the law's own example.
-/
import Derived.Test.YtbnoocjhlofnoaaVdLaw6
import Derived.Lib.SlBytesConst
namespace Go.Proofs.Ytbnoocjhlofnoaa
open Go.RowKit

theorem two_bytes (w : World) (x y : UInt8) : SlB (w.alloc (.cells #[.int .u8 (x.toNat : Int), .int .u8 (y.toNat : Int)] 5 (2, 3))) (fun b => b = w.heap.size) (.slice (some ⟨w.heap.size, 0, none⟩) 2 2) [x, y] :=
  ⟨rfl, _, 2, rfl, Nat.le_refl _, fun _ => ⟨_, rfl, rfl, fun j u hj => by
    match j, hj with
    | 0, hj => cases hj; rw [Addr.add_lit, World.cell?_alloc_mark]; rfl
    | 1, hj => cases hj; rw [Addr.add_lit, World.cell?_alloc_mark]; rfl⟩⟩

/-- a slice's begin -/
theorem Sg_take {w : World} {F : Nat → Prop} {a : Addr} {l : List UInt8} {cap : Nat} (h : SlB w F (.slice (some a) l.length cap) l) (m : Nat) (hm : m ≤ l.length) : SlB w F (.slice (some a) m cap) (l.take m) := by
  obtain ⟨_, A, c, e, hc, hx⟩ := h
  cases e
  have hlm : (l.take m).length = m := by rw [List.length_take]; omega
  refine ⟨by rw [bytesV_length]; omega, some a, cap, by rw [hlm], by omega, fun hn => ?_⟩
  obtain ⟨a', e, hF, hx⟩ := hx (by omega)
  cases e
  refine ⟨a, rfl, hF, fun j u hj => hx j u ?_⟩
  have hjl := (List.getElem?_eq_some_iff.1 hj).1
  rw [bytesV_length] at hjl
  rw [bytesV_at _ j hjl] at hj
  rw [bytesV_at _ j (by omega), ← hj, List.getElem_take]

section
variable {H : World → (Nat → Prop) → Value → D.Dk → Prop}

theorem DiskOk.read_at (K : DiskOk H) {w : World} {F : Nat → Prop} {v : Value} {d : D.Dk} (i : Nat) (h : H w F v d) (hi : i < d.secs.length) :
    Calls Try.prog 15 #[v, .int .i64 (i : Int)] w fun e w' => ∃ a cap, e = .returned (.tuple #[.slice (some a) 64 cap, .int .i64 0]) ∧ 64 ≤ cap ∧ (d.read i).length = 64 ∧ SlB w' (S.New w w') (.slice (some a) (d.read i).length cap) (d.read i) ∧ Below w.heap.size w w' := by
  have hfit := K.fit h
  have hlen := hfit.1.read_len hi
  have ht : d.there (i : Int) := ⟨by omega, by omega⟩
  refine (K.read (i : Int) h (by omega) (by omega)).mono ?_
  rintro e w' ⟨vb, l, k, rfl, hr, hs, hb⟩
  rw [rdV, if_pos ht, Int.toNat_natCast] at hr
  simp only [Value.tuple.injEq] at hr
  have hr' := congrArg Array.toList hr
  simp only [List.cons.injEq, and_true, Value.string.injEq, Value.int.injEq, true_and, ByteArray.mk.injEq] at hr'
  obtain ⟨e1, rfl⟩ := hr'
  obtain rfl : d.read i = l := by simpa using congrArg Array.toList e1
  obtain ⟨_, A, cap, rfl, hc, hx⟩ := id hs
  obtain ⟨a, rfl, _⟩ := hx (by omega)
  exact ⟨a, cap, by rw [hlen], by omega, hlen, hs, hb⟩

set_option maxRecDepth 100000 in
set_option maxHeartbeats 4000000 in
theorem vawake_any (K : DiskOk H) (w : World) : Calls Try.prog 9 #[] w fun e w' => e = .returned (.bool true) ∧ Below w.heap.size w w' := by
  have kc := fun (w : World) (C : Array Value) (n c : Nat) => Lib.run_convert_bytes_const (P := Try.prog) w 34 5 C n c Try.underlying34 Try.underlying5
  have HN := Lib.hid (K.new 2 w (by omega) (by omega))
  go_enter Try.func9, Try.ntmps9
  go_wp2_with fail
  refine HN.out.mono ?_
  rintro e w1 ⟨p, rfl, hH1, hb1⟩
  obtain ⟨pa, rfl⟩ := K.ptr hH1
  have hba := (Below.refl w1.heap.size w1).alloc (Nat.le_refl _) (.cells #[.int .u8 97, .int .u8 98] 5 (2, 3))
  have HW := Lib.hid (by
    have := K.write (fun b => b = w1.heap.size) (.slice (some ⟨w1.heap.size, 0, none⟩) 2 2) [97, 98] 1 (K.below hH1 hba) (two_bytes w1 97 98) (fun b h => by subst h; simp) (by simp) (by simp) (by omega) (by omega)
    rw [show D.Dk.bad ⟨List.replicate 2 (D.full []), []⟩ 1 [97, 98] = 0 by decide +kernel] at this
    exact this)
  have hba0 := below_two hb1 hba
  clear HN hH1
  go_wp2_with fail
  refine HW.out.mono ?_
  rintro e w2 ⟨rfl, hH2, ht2⟩
  have hF2 : ∀ b, More (S.New w w1) (w1.alloc (.cells #[.int .u8 97, .int .u8 98] 5 (2, 3))) w2 b → w.heap.size ≤ b := fun b h => h.elim (fun h => h.1) (fun h => Nat.le_trans hba0.size h.1)
  have hb2 := hba0.trans (ht2.below hba0.size (fun b h => h.1))
  have HS := Lib.hid (K.sync hH2)
  clear HW hH2 ht2 hba hba0
  generalize More (S.New w w1) (w1.alloc (.cells #[.int .u8 97, .int .u8 98] 5 (2, 3))) w2 = F2 at *
  go_wp2_with fail
  refine HS.out.mono ?_
  rintro e w3 ⟨rfl, hH3, ht3⟩
  have hF3 : ∀ b, More F2 w2 w3 b → w.heap.size ≤ b := fun b h => h.elim (hF2 b) (fun h => Nat.le_trans hb2.size h.1)
  have hb3 := hb2.trans (ht3.below hb2.size hF2)
  have hba := (Below.refl w3.heap.size w3).alloc (Nat.le_refl _) (.cells #[.int .u8 99, .int .u8 100] 5 (2, 3))
  have HW := Lib.hid (by
    have := K.write (fun b => b = w3.heap.size) (.slice (some ⟨w3.heap.size, 0, none⟩) 2 2) [99, 100] 1 (K.below hH3 hba) (two_bytes w3 99 100) (fun b h => by subst h; simp) (by decide +kernel) (by simp) (by omega) (by omega)
    rw [show D.Dk.bad (D.Dk.sync (D.Dk.write ⟨List.replicate 2 (D.full []), []⟩ 1 [97, 98])) 1 [99, 100] = 0 by decide +kernel] at this
    exact this)
  have hba0 := below_two hb3 hba
  clear HS hH3 ht3 hb2 hF2
  generalize More F2 w2 w3 = F3 at *
  go_wp2_with fail
  refine HW.out.mono ?_
  rintro e w4 ⟨rfl, hH4, ht4⟩
  have hF4 : ∀ b, More F3 (w3.alloc (.cells #[.int .u8 99, .int .u8 100] 5 (2, 3))) w4 b → w.heap.size ≤ b := fun b h => h.elim (hF3 b) (fun h => Nat.le_trans hba0.size h.1)
  have hb4 := hba0.trans (ht4.below hba0.size hF3)
  have hlt4 := K.lt hH4
  have HR := Lib.hid (K.read_at 1 hH4 (by decide +kernel))
  rw [show D.Dk.read (D.Dk.write (D.Dk.sync (D.Dk.write ⟨List.replicate 2 (D.full []), []⟩ 1 [97, 98])) 1 [99, 100]) 1 = D.full [99, 100] by decide +kernel] at HR
  clear HW ht4 hba hba0 hb3 hF3
  generalize More F3 (w3.alloc (.cells #[.int .u8 99, .int .u8 100] 5 (2, 3))) w4 = F4 at *
  go_wp2_with fail
  refine HR.out.mono ?_
  rintro e w5 ⟨a5, cap5, rfl, hcap5, _, hs5, hb5⟩
  have hH5 := K.below hH4 hb5
  have hb5' := below_two hb4 hb5
  have HC := Lib.hid (K.crash (fun _ => False) (.slice none 0 0) [] hH5 (S.Sg.nil ..) (fun _ h => h.elim) (fun _ h => h.elim))
  clear HR hH4
  go_wp2_with fail
  refine HC.out.mono ?_
  rintro e w6 ⟨rfl, hH6, ht6⟩
  have hb6 := hb5'.trans (ht6.below hb5'.size hF4)
  have hs6 := hs5.keep (w' := w6) fun p hp => ht6.cell hp.2 (fun g => by have := hlt4 _ g; have := hp.1; omega)
  have HR := Lib.hid (K.read_at 1 hH6 (by decide +kernel))
  rw [show D.Dk.read (D.Dk.crash (D.Dk.write (D.Dk.sync (D.Dk.write ⟨List.replicate 2 (D.full []), []⟩ 1 [97, 98])) 1 [99, 100]) []) 1 = D.full [97, 98] by decide +kernel] at HR
  have hsz6 := ht6.size
  clear HC hH5 hs5
  go_wp2_with fail
  refine HR.out.mono ?_
  rintro e w7 ⟨a7, cap7, rfl, hcap7, _, hs7, hb7⟩
  have hb7' := below_two hb6 hb7
  have hs6' := hs6.below hb7 (fun b h => Nat.lt_of_lt_of_le h.2 hsz6)
  have hcv := conv_sg (Sg_take hs7 3 (by decide))
  rw [show (D.full [97, 98]).take 3 = [97, 98, 0] by decide] at hcv
  have hc0 : w7.cell? a5 = some (.int .u8 99) := by
    rw [show a5 = a5.add 0 by unfold Addr.add; simp]
    obtain ⟨_, A, c, e, _, hx⟩ := hs6'
    cases e
    obtain ⟨a, e, _, hx⟩ := hx (by decide)
    cases e
    exact hx 0 _ rfl
  clear HR hs6 hs6' hs7 hb7 hb6 hH6
  go_wp2_with fail
  go_ret
  exact ⟨rfl, hb7'⟩
end

end Go.Proofs.Ytbnoocjhlofnoaa
