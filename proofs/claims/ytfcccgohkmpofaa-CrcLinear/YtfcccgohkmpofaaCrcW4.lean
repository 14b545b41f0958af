/-
  Walks of layer crc: the sums from the start on; the document's own sums; the document's example.
-/
import Derived.Test.YtfcccgohkmpofaaCrcW3
import Derived.Lib.SlBytesConst
namespace Go.Proofs.Ytfcccgohkmpofaa
open Go.RowKit

set_option maxRecDepth 100000 in
theorem of_any (v : Value) (l : List UInt8) (w : World) (B : Nat) (hB : B ≤ w.heap.size) (h : Sl w B v l) (hl : l.length ≤ maxLen) :
    Calls Try.prog 10 #[v] w fun e w' => e = .returned (.int .u32 (C.sum l : Nat)) ∧ Below w.heap.size w w' := by
  have HS := Lib.hid h
  clear h
  go_enter Try.func10, Try.ntmps10
  go_wp2_with fail
  refine (more_any 0 v l w B hB HS.out (by decide) hl).mono ?_
  rintro e w1 ⟨rfl, hb1⟩
  go_wp2
  go_ret
  exact ⟨rfl, hb1⟩

theorem u32_in (c : Nat) (x : UInt8) (hc : c < 4294967296) : bits .xor .u32 (c : Int) (x.toNat : Int) = ((c ^^^ x.toNat : Nat) : Int) := u32_xor_nat c x.toNat hc (by have := x.toNat_lt; omega)
theorem in_lt (c : Nat) (x : UInt8) (hc : c < 4294967296) : c ^^^ x.toNat < 4294967296 := Nat.xor_lt_two_pow (n := 32) hc (by have := x.toNat_lt; omega)

theorem refSteps8_any (n : Nat) (w : World) (hn : n < 4294967296) :
    Calls Try.prog 16 #[.int .u32 n, .int .i64 8] w fun e w' => e = .returned (.int .u32 (C.s8 n : Nat)) ∧ w = w' := refSteps_any n 8 w hn (by omega)

set_option maxHeartbeats 1000000 in
theorem refMore_any (c : Nat) (v : Value) (l : List UInt8) (w : World) (B : Nat) (h : Sl w B v l) (hc : c < 4294967296) (hl : l.length ≤ maxLen) :
    Calls Try.prog 13 #[.int .u32 c, v] w fun e w' => e = .returned (.int .u32 (C.more c l : Nat)) ∧ w = w' := by
  unfold maxLen at hl
  obtain ⟨A, cap, rfl, hcap, hx⟩ := h
  have HX := Lib.hid hx
  clear hx
  have HF := Lib.hid (C.flip_sub hc)
  go_enter Try.func13, Try.ntmps13
  go_wp2
  go_loop [0, 5] (fun v i => ∃ k q : Nat, k ≤ l.length ∧ i = .int .i64 k ∧ v = .int .u32 q ∧ Hid (q = C.run (C.flip c) (l.take k)) ∧ q < 4294967296) (fun _ i => l.length - (intOf i).toNat)
  case atStart => exact ⟨0, 4294967295 - c, Nat.zero_le _, rfl, by go_num, Lib.hid (by rw [HF.out]; rfl), by omega⟩
  case round =>
    obtain ⟨k, q, hk, rfl, rfl, HQ, hq⟩ := hrel
    by_cases hlt : k < l.length
    · obtain ⟨a, rfl, hab, hcell⟩ := HX.out (fun e => by subst e; simp at hlt)
      have hck := hcell k hlt
      clear hcell
      have HS := Lib.hid (run_take_succ (C.flip c) l k hlt)
      obtain ⟨x, hxe⟩ : ∃ x, x = l[k] := ⟨_, rfl⟩
      rw [← hxe] at hck HS
      clear hxe
      have hxl := x.toNat_lt
      have h32 := u32_in q x hq
      have hml := in_lt q x hq
      have hul := C.upd_lt x hq
      obtain ⟨m, hm⟩ : ∃ m, m = q ^^^ x.toNat := ⟨_, rfl⟩
      rw [← hm] at h32 hml
      have HM := Lib.hid hm
      clear hm
      go_wp2_with (go_at_call 16; with_reducible refine (refSteps8_any m _ hml).mono ?_; rintro e w' ⟨rfl, rfl⟩)
      go_round
      case rel => exact ⟨k + 1, C.upd q x, by omega, by go_num, by rw [C.upd, ← HM.out], Lib.hid (by rw [HQ.out]; exact HS.out.symm), hul⟩
      case measure => simp [intOf]; omega
    · obtain rfl : k = l.length := by omega
      have HG := Lib.hid (C.flip_sub hq)
      go_wp2
      go_ret
      refine ⟨ret_v ?_, rfl⟩
      rw [C.more, ← List.take_length (l := l), ← HQ.out, ← HG.out]
      show Value.int _ _ = Value.int _ _
      go_num

theorem refOf_any (v : Value) (l : List UInt8) (w : World) (B : Nat) (h : Sl w B v l) (hl : l.length ≤ maxLen) :
    Calls Try.prog 11 #[v] w fun e w' => e = .returned (.int .u32 (C.sum l : Nat)) ∧ w = w' := by
  have HS := Lib.hid h
  clear h
  go_enter Try.func11, Try.ntmps11
  go_wp2_with fail
  refine (refMore_any 0 v l w B HS.out (by decide) hl).mono ?_
  rintro e w1 ⟨rfl, rfl⟩
  go_wp2
  go_ret
  exact ⟨rfl, rfl⟩

/-- the bytes of a block that is laid as a list of numbers -/
theorem Sl.laid {w : World} {g cap : Nat} {l : List UInt8} (h : l.length ≤ cap) {B : Nat} (hg : g < B) (hc : ∀ j (hj : j < l.length), w.cell? ⟨g, j, none⟩ = some (.int .u8 (l[j].toNat : Int))) :
    Sl w B (.slice (some ⟨g, 0, none⟩) l.length cap) l :=
  ⟨_, cap, rfl, h, fun _ => ⟨_, rfl, hg, fun j hj => by rw [Addr.add_lit, Nat.zero_add]; exact hc j hj⟩⟩

/-- an element of an array value, of numbers -/
theorem run_index_agg {P : Program} {t e : TypeId} {n : Nat} {q : IntKind} {cs : Array Value} {i : Nat} {v : Value} (k : IntKind) (h : P.underlying t = some (.array n e)) (he : P.underlying e = some (.int q))
    (hs : (P.info? e).map (·.size) = some 1) (hi : i < n) (hv : cs[i]? = some v) (w : World) : (Instr.index t (.agg cs) (.int k (i : Int))).run P w = .ok v w := by
  cases hq : P.info? e with
  | none => simp [hq] at hs
  | some f =>
    have hz : f.size = 1 := by simpa [hq] using hs
    simp [Instr.index, asIntOf, run_underlying h, sizeOf, typeInfo, hq, hz, part, isAgg, run_underlying he, hv]
    intro hn
    omega

theorem Try.sizeU32 : (Try.prog.info? 23).map (·.size) = some 1 := by kernel_rfl

theorem index_tab (k : IntKind) (i : Nat) (h : i < 256) (w : World) : (Instr.index 27 (.agg (tbl 256)) (.int k (i : Int))).run Try.prog w = .ok (.int .u32 (C.s8 i : Nat)) w :=
  run_index_agg k Try.underlying27 Try.underlying23 Try.sizeU32 h (tbl_at i h) w

set_option maxRecDepth 100000 in
set_option maxHeartbeats 1000000 in
theorem awake_any (w : World) :
    Calls Try.prog 9 #[] w fun e w' => e = .returned (.bool true) ∧ Below w.heap.size w w' := by
  have kc := fun (w : World) (C : Array Value) (n c : Nat) => Lib.run_convert_bytes_const (P := Try.prog) w 22 5 C n c Try.underlying22 Try.underlying5
  have ht1 : ∀ w, (Instr.index 27 (.agg (tbl 256)) (.int .i64 1)).run Try.prog w = .ok (.int .u32 4067132163) w := fun w => by
    have := index_tab .i64 1 (by decide) w
    rw [C.awake_one] at this
    exact this
  go_enter Try.func9, Try.ntmps9
  go_wp2_with fail
  have hb0 : Below w.heap.size w (w.alloc (.cells #[Value.int .u8 49, .int .u8 50, .int .u8 51, .int .u8 52, .int .u8 53, .int .u8 54, .int .u8 55, .int .u8 56, .int .u8 57] 5 (9, 10))) := (Below.refl _ _).alloc (Nat.le_refl _) _
  refine (of_any _ [49, 50, 51, 52, 53, 54, 55, 56, 57] _ (w.heap.size + 1) (by simp) (Sl.laid (l := [49, 50, 51, 52, 53, 54, 55, 56, 57]) (by decide) (by omega) ?_) (by decide)).mono ?_
  · intro j hj
    have : j = 0 ∨ j = 1 ∨ j = 2 ∨ j = 3 ∨ j = 4 ∨ j = 5 ∨ j = 6 ∨ j = 7 ∨ j = 8 := by simp at hj; omega
    rcases this with rfl | rfl | rfl | rfl | rfl | rfl | rfl | rfl | rfl <;> (rw [World.cell?_alloc_mark]; rfl)
  rw [C.awake_sum]
  rintro e w1 ⟨rfl, hb1⟩
  have hb : Below w.heap.size w w1 := hb0.trans (hb1.mono (by simp))
  clear hb0 hb1
  go_wp2_with fail
  refine (table_any w1).mono ?_
  rintro e w2 ⟨rfl, hb2⟩
  go_wp2
  go_ret
  exact ⟨rfl, hb.trans (hb2.mono hb.size)⟩

end Go.Proofs.Ytfcccgohkmpofaa
