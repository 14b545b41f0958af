/-
  The program's disk: a read where there is no sector; a new disk.
-/
import Derived.Test.YtbjbnjpdackloaaVrRead
namespace Go.Proofs.Ytbjbnjpdackloaa
open Go.RowKit

/-- a read where there is no sector -/
theorem read_no (v : Value) (i : Int) (w : World) (h : Calls Try.prog 43 #[v, .int .i64 i] w fun e w' => e = .returned (.bool false) ∧ w' = w) :
    Calls Try.prog 24 #[v, .int .i64 i] w fun e w' => e = .returned (.tuple #[.slice none 0 0, .int .i64 11]) ∧ w' = w := by
  go_enter Try.func24, Try.ntmps24
  go_wp2_with fail
  refine h.mono ?_
  rintro e w1 ⟨rfl, rfl⟩
  go_wp2
  go_ret2
  exact ⟨rfl, rfl⟩

theorem read_any {w : World} {F : Nat → Prop} {v : Value} {d : D.Dk} (i : Int) (h : Hd w F v d) :
    Calls Try.prog 24 #[v, .int .i64 i] w fun e w' => ∃ vb l k, e = .returned (.tuple #[vb, .int .i64 k]) ∧ rdV d i = .tuple #[.string ⟨l.toArray⟩, .int .i64 k] ∧ SlB w' (S.New w w') vb l ∧ Below w.heap.size w w' := by
  by_cases ht : d.there i
  · obtain ⟨k, rfl⟩ := Int.eq_ofNat_of_zero_le ht.1
    have hi := ht.2
    refine (read_yes h k (by omega)).mono ?_
    rintro e w' ⟨vb, rfl, hs, hb⟩
    exact ⟨vb, _, _, rfl, by rw [rdV, if_pos ht, Int.toNat_natCast], hs, hb⟩
  · have hh := has_any h i
    rw [decide_eq_false ht] at hh
    refine (read_no v i w hh).mono ?_
    rintro e w' ⟨rfl, rfl⟩
    exact ⟨_, [], _, rfl, by rw [rdV, if_neg ht], S.Sg.nil .., Below.refl _ _⟩

theorem Try.infoSec : (Try.prog.info? 92).map (fun i => (i.zero, i.size, i.bytes)) = some (some (.agg (Array.replicate 64 (.int .u8 0))), 64, 64) := by kernel_rfl

theorem bytesV_zeros (n : Nat) : bytesV (List.replicate n 0) = List.replicate n (.int .u8 0) := by simp [bytesV]
theorem secV_zeros : ∀ n : Nat, secV (List.replicate n (D.full [])) = List.replicate (n * 64) (.int .u8 0)
  | 0 => by simp [secV]
  | n + 1 => by
    have e : bytesV (D.full []) = List.replicate 64 (.int .u8 0) := by rw [D.full, List.nil_append]; exact bytesV_zeros 64
    rw [secV, List.replicate_succ, List.flatMap_cons, show List.flatMap bytesV (List.replicate n (D.full [])) = _ from secV_zeros n, e, List.replicate_append_replicate, show 64 + n * 64 = (n + 1) * 64 by omega]
theorem made_zeros (z : Value) (k n : Nat) (hk : 0 < k) : (madeCells (Array.replicate k z) n).toList = List.replicate n z := by
  apply List.ext_getElem?
  intro j
  by_cases hj : j < n
  · have hm : j % k < k := Nat.mod_lt _ hk
    simp [madeCells, hj, hm]
  · rw [List.getElem?_eq_none (by simp [size_madeCells]; omega), List.getElem?_eq_none (by simp; omega)]

theorem new_fit (n : Nat) : (⟨List.replicate n (D.full []), []⟩ : D.Dk).Fit :=
  ⟨fun s hs => by rw [(List.mem_replicate.1 hs).2]; exact D.full_len (by simp), fun x hx => by cases hx⟩

set_option maxRecDepth 100000 in
set_option maxHeartbeats 1000000 in
theorem new_any (n : Nat) (w : World) (h1 : 1 ≤ n) (hn : n ≤ 1024) :
    Calls Try.prog 10 #[.int .i64 n] w fun e w' => ∃ v, e = .returned v ∧ Hd w' (S.New w w') v ⟨List.replicate n (D.full []), []⟩ ∧ Below w.heap.size w w' := by
  obtain ⟨i0, hi0, hz0, hz1, hz2⟩ := info_parts Try.infoSec
  have HB := Lib.hid (show i0.bytes * n ≤ 281474976710656 by rw [hz2]; omega)
  go_enter Try.func10, Try.ntmps10
  go_wp2_with (at_make; refine wpList_make_full _ rfl _ _ 62 rfl w.heap.size 92 i0 _ 64 Try.underlying62 hi0 hz0 hz1 .i64 .i64 (n : Int) (n : Int) n rfl rfl rfl rfl HB.out (by unfold maxLen; omega) (Nat.le_refl _) ?_)
  intro w1 hown hgrow
  have hb1 := below_none hgrow
  have hlt1 := (World.ownsRow.lt hown _ rfl).2
  have HO : Hid (w1.ownsRow w.heap.size 92 64 (.slice (some ⟨w.heap.size, 0, none⟩) n n) n (secV (List.replicate n (D.full [])))) := by
    rw [secV_zeros, ← made_zeros _ 64 (n * 64) (by decide)]; exact Lib.hid hown
  clear hown hgrow hi0 hz0 hz1 hz2 HB
  go_wp2
  go_ret
  have hb2 := hb1.alloc hb1.size (.cells #[.slice (some ⟨w.heap.size, 0, none⟩) n n, .slice none 0 0] 65)
  refine ⟨_, rfl, ⟨w1.heap.size, .slice (some ⟨w.heap.size, 0, none⟩) n n, .slice none 0 0, rfl, ?_⟩, hb2⟩
  exact {
    blk := B2.new w1 _ _ _
    fp := ⟨hb1.size, by simp⟩
    secs := by rw [List.length_replicate]; exact V.own_base (HO.out.alloc _)
    row := S.own_nil _ _ _ _
    fs := fun j hj => by cases hj; exact ⟨⟨Nat.le_refl _, by simp; omega⟩, by show w.heap.size ≠ w1.heap.size; omega⟩
    fr := fun j hj => by cases hj
    lt := fun b hb => hb.2
    fit := new_fit n
    n1 := by rw [List.length_replicate]; exact h1
    n2 := by rw [List.length_replicate]; exact hn
    r1 := by simp }

theorem new_no (n : Int) (w : World) (h : n < 1 ∨ 1024 < n) : Calls Try.prog 10 #[.int .i64 n] w fun e w' => e = .returned (.pointer none) ∧ Below w.heap.size w w' := by
  by_cases h1 : n < 1
  · go_enter Try.func10, Try.ntmps10
    go_wp2
    go_ret
    exact ⟨rfl, Below.refl _ _⟩
  · have h2 : 1024 < n := by omega
    go_enter Try.func10, Try.ntmps10
    go_wp2
    go_ret
    exact ⟨rfl, Below.refl _ _⟩

end Go.Proofs.Ytbjbnjpdackloaa
