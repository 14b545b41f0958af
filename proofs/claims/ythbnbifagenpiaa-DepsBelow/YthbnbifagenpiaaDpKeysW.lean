/-
  The keys of a map keyed by int64, in whatever order they come (maps.Keys over map[int64]struct{}, also a nil one).
-/
import Derived.Test.YthbnbifagenpiaaDpRange
namespace Go.Proofs.Ythbnbifagenpiaa
open Go.RowKit Go.Shelf

set_option maxRecDepth 100000 in
set_option maxHeartbeats 1000000 in
theorem keysF1_w (N : Nat) (hN : 1 ≤ N) (l Bm b n : Nat) (m : Int → Option Value) (J : List Int → World → Prop)
    (hY : ∀ pre x W, J pre W → pre.length < n → YieldAt Fence.wide (N - 1) Try.prog l #[.int .i64 x] W fun e W' => e = .returned (.bool true) ∧ J (pre ++ [x]) W' ∧ KeepsWalks W W')
    (W : World) (hJ : AbidesFrom W.heap.size J) (hm : W.cell? ⟨Bm, 0, none⟩ = some (.map (some b))) (hown : Mi W b n m) (h0 : J [] W) :
    CallsIn Fence.wide N Try.prog 36 #[.func (.yield l) #[] #[], .pointer (some ⟨Bm, 0, none⟩)] W fun e W' => (∃ v, e = .returned v) ∧ ∃ ks, Ksi m ks ∧ J ks W' := by
  have HY := Lib.hid hY
  have HJ := Lib.hid hJ
  have H0 := Lib.hid h0
  have hbl : b < W.heap.size := by
    obtain ⟨_, _, hb, _⟩ := hown
    exact (Array.getElem?_eq_some_iff.1 hb).1
  clear hY hJ h0
  refine callsIn_of_wp Try.func36 rfl trivial ?_ rfl
  simp only [Try.ntmps36, List.size_toArray, List.length_cons, List.length_nil, Nat.reduceAdd, Nat.reduceSub, Array.replicate_succ, Array.replicate_zero, List.push_toArray, List.append_toArray, List.nil_append, List.cons_append]
  gi_wp2_with (first
    | (gi_at_range; refine wpListIn_range_k_i rfl _ 58 60 rfl Try.underlying58 rfl hown ?_; intro w0 T hrg0 hl0 hp0 ha0 hb0)
    | gi_in)
  have HG0 := Lib.hid (Goti.start hp0 ha0)
  have HB0 := Lib.hid hb0
  clear hp0 ha0 hb0
  go_frame
  gi_loopw [3] (fun _ wr => ∃ (T : List Eni) (ks : List Int), Rni wr b W.heap.size n m T ∧ ks.length + T.length ≤ n ∧ Hid (Goti m ks T) ∧ Hid (J ks wr)) (fun _ wr => wr.rangeLeft b W.heap.size)
  case atStart => exact ⟨T, [], hrg0, by simpa using hl0, HG0, Lib.hid (HJ.out _ _ _ none H0.out (Y.grown_under HB0.out) (fun r e => by cases e))⟩
  case round =>
    obtain ⟨T, ks, hrg, hl, HG, HJS⟩ := hrel
    gi_wp2_with (first
      | (gi_at_next; refine wpListIn_next_k_i rfl _ rfl rfl hrg (Nat.ne_of_lt hbl) ?_ ?_)
      | gi_in)
    · intro hT
      have HGF := Lib.hid hT
      clear hT
      gi_wp2
      go_end0
      exact ⟨⟨_, rfl⟩, ks, (by have := HG.out; rw [HGF.out] at this; exact this.fin), HJS.out⟩
    · intro A x B w2 hT hrg2 hg2 hen
      have hl2 : ks.length + (A.length + B.length + 1) ≤ n := by rw [hT] at hl; simp at hl; omega
      have HG2 : Hid (Goti m (ks ++ [x.k]) (A ++ B)) := Lib.hid (by have := HG.out; rw [hT] at this; exact this.step)
      have hJ2 : J ks w2 := HJ.out ks wr w2 (some W.heap.size) HJS.out hg2 (fun r e => by cases e; exact ⟨Nat.le_refl _, hrg.iter⟩)
      have HM : Hid ((A ++ B).length < T.length) := Lib.hid (by rw [hT]; simp)
      have HLE := Lib.hid hrg.left_eq
      have HK4 := Lib.hid (KeepsWalks.refl w2)
      obtain ⟨fn, tmps, assign, body, hy, hR⟩ := HY.out ks x.k _ hJ2 (by omega)
      clear hT hg2 hJ2 hrg hl
      gi_wp2
      refine hR.mono ?_
      rintro e W3 ⟨rfl, hJ3, hk3⟩
      have HJ3 := Lib.hid hJ3
      have hrg3 := hrg2.walks (HK4.out.trans hk3)
      clear hJ3 hk3 hrg2 hy hR hen
      gi_wp2
      go_roundw
      case rel => exact ⟨A ++ B, ks ++ [x.k], hrg3, by simp; omega, HG2, HJ3⟩
      case measure => rw [hrg3.left_eq, HLE.out]; exact HM.out

/-- maps.Keys(m) gives m's keys, each once -/
theorem keysGive_w (N : Nat) (hN : 1 ≤ N) (Bm b n : Nat) (m : Int → Option Value) (w : World) (hBm : Bm < w.heap.size) (hm : w.cell? ⟨Bm, 0, none⟩ = some (.map (some b))) (hown : Mi w b n m) :
    SeqGives Fence.wide N Try.prog 36 #[.pointer (some ⟨Bm, 0, none⟩)] (fun x => .int .i64 x) (Ksi m) n w := fun l J W hW hJ hY h0 =>
  keysF1_w N hN l Bm b n m J hY W hJ ((hW.cell (p := ⟨Bm, 0, none⟩) hBm).trans hm) (hown.below hW) h0

set_option maxHeartbeats 1000000 in
theorem keysF_w (N : Nat) (mb : Option Nat) (w : World) :
    CallsIn Fence.wide N Try.prog 30 #[.map mb] w fun e w' => e = .returned (.func (.func 36) #[] #[.pointer (some ⟨w.heap.size, 0, none⟩)]) ∧ w' = w.alloc (.cells #[.map mb] 58) := by
  refine callsIn_of_wp Try.func30 rfl trivial ?_ rfl
  simp only [Try.ntmps30, List.size_toArray, List.length_cons, List.length_nil, Nat.reduceAdd, Nat.reduceSub, Array.replicate_succ, Array.replicate_zero, List.push_toArray, List.append_toArray, List.nil_append, List.cons_append]
  gi_wp2
  go_ret
  exact ⟨rfl, rfl⟩

set_option maxRecDepth 100000 in
set_option maxHeartbeats 1000000 in
theorem keysF1_nil (N : Nat) (l Bm : Nat) (J : List Int → World → Prop) (W : World) (hJ : AbidesFrom W.heap.size J) (hm : W.cell? ⟨Bm, 0, none⟩ = some (.map none)) (h0 : J [] W) :
    CallsIn Fence.wide N Try.prog 36 #[.func (.yield l) #[] #[], .pointer (some ⟨Bm, 0, none⟩)] W fun e W' => (∃ v, e = .returned v) ∧ ∃ ks, Ksi (fun _ => none) ks ∧ J ks W' := by
  have HJ := Lib.hid hJ
  have H0 := Lib.hid h0
  clear hJ h0
  have HB0 := Lib.hid ((Below.refl W.heap.size W).alloc (Nat.le_refl _) (.mapIter none 0 #[] 0))
  have HI := heap_alloc_new W (.mapIter none 0 #[] 0)
  refine callsIn_of_wp Try.func36 rfl trivial ?_ rfl
  simp only [Try.ntmps36, List.size_toArray, List.length_cons, List.length_nil, Nat.reduceAdd, Nat.reduceSub, Array.replicate_succ, Array.replicate_zero, List.push_toArray, List.append_toArray, List.nil_append, List.cons_append]
  gi_wp2_with (first
    | (gi_at_range; refine wpListIn_range_nil rfl _ 58 60 rfl Try.underlying58 rfl ?_)
    | gi_in)
  generalize hW0 : W.alloc (.mapIter none 0 #[] 0) = w0 at *
  clear hW0
  go_frame
  gi_loopw [3] (fun _ wr => Hid (wr = w0)) (fun _ _ => 0)
  case atStart => exact Lib.hid rfl
  case round =>
    have HW := hrel
    obtain rfl := hrel.out
    gi_wp2_with (first
      | (gi_at_next; refine wpListIn_next_nil rfl _ rfl rfl HI ?_)
      | gi_in)
    go_end0
    exact ⟨⟨_, rfl⟩, [], ⟨List.nodup_nil, fun k => by simp⟩, HJ.out _ _ _ none H0.out (Y.grown_under HB0.out) (fun r e => by cases e)⟩

/-- over a nil map none comes -/
theorem keysGive_nil (N : Nat) (Bm : Nat) (w : World) (hBm : Bm < w.heap.size) (hm : w.cell? ⟨Bm, 0, none⟩ = some (.map none)) :
    SeqGives Fence.wide N Try.prog 36 #[.pointer (some ⟨Bm, 0, none⟩)] (fun x => .int .i64 x) (Ksi (fun _ => none)) 0 w := fun l J W hW hJ _ h0 =>
  keysF1_nil N l Bm J W hJ ((hW.cell (p := ⟨Bm, 0, none⟩) hBm).trans hm) h0

end Go.Proofs.Ythbnbifagenpiaa
