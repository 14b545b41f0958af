/-
  Walks of layer crc: the sum of bytes, as the program makes it and as the document does.
-/
import Derived.Test.YtfcccgohkmpofaaCrcW2
namespace Go.Proofs.Ytfcccgohkmpofaa
open Go.RowKit

/-- 'the slice v holds the bytes l', in blocks below B -/
def Sl (w : World) (B : Nat) (v : Value) (l : List UInt8) : Prop :=
  ∃ A cap, v = .slice A l.length cap ∧ l.length ≤ cap ∧ (l ≠ [] → ∃ a, A = some a ∧ a.block < B ∧ ∀ j (h : j < l.length), w.cell? (a.add j) = some (.int .u8 (l[j].toNat : Int)))

theorem add_block (a : Addr) (n : Nat) : (a.add n).block = a.block := by unfold Addr.add; split <;> rfl
theorem add_add (a : Addr) (i j : Nat) : (a.add i).add j = a.add (i + j) := by
  unfold Addr.add
  by_cases hi : i = 0 <;> by_cases hj : j = 0 <;> simp [hi, hj, Nat.add_assoc]

theorem Sl.keep {w w' : World} {B : Nat} {v : Value} {l : List UInt8} (h : Sl w B v l) (hk : ∀ p : Addr, p.block < B → w'.cell? p = w.cell? p) : Sl w' B v l := by
  obtain ⟨A, cap, e, hc, hx⟩ := h
  refine ⟨A, cap, e, hc, fun hn => ?_⟩
  obtain ⟨a, e2, hb, hx2⟩ := hx hn
  exact ⟨a, e2, hb, fun j hj => (hk _ (by rw [add_block]; exact hb)).trans (hx2 j hj)⟩
theorem Sl.below {w w' : World} {B : Nat} {v : Value} {l : List UInt8} (h : Sl w B v l) (hb : Below B w w') : Sl w' B v l := h.keep fun _ hp => hb.cell hp
theorem Sl.wider {w : World} {B B' : Nat} {v : Value} {l : List UInt8} (h : Sl w B v l) (hb : B ≤ B') : Sl w B' v l := by
  obtain ⟨A, cap, e, hc, hx⟩ := h
  refine ⟨A, cap, e, hc, fun hn => ?_⟩
  obtain ⟨a, e2, hb2, hx2⟩ := hx hn
  exact ⟨a, e2, by omega, hx2⟩
theorem Sl.drew {w : World} {B : Nat} {v : Value} {l : List UInt8} (h : Sl w B v l) : Sl w.drew B v l := h
theorem Sl.nil (w : World) (B : Nat) (A : Option Addr) (cap : Nat) : Sl w B (.slice A 0 cap) [] := ⟨A, cap, rfl, Nat.zero_le _, fun h => absurd rfl h⟩

theorem run_take_succ (c : Nat) (l : List UInt8) (k : Nat) (h : k < l.length) : C.run c (l.take (k + 1)) = C.upd (C.run c (l.take k)) l[k] := by
  rw [List.take_succ_eq_append_getElem h, C.run_snoc]

theorem u32_flip (c : Nat) (hc : c < 4294967296) : bits .xor .u32 IntKind.u32.max (c : Int) = (C.flip c : Nat) := u32_xor_nat 4294967295 c (by decide) hc

theorem u8_mix (c : Nat) (x : UInt8) : bits .xor .u8 ((c : Int) % 256) (x.toNat : Int) = ((c % 256 ^^^ x.toNat : Nat) : Int) := u8_xor_nat (c % 256) x.toNat (by omega) x.toNat_lt
theorem mix_lt (c : Nat) (x : UInt8) : c % 256 ^^^ x.toNat < 256 := Nat.xor_lt_two_pow (n := 8) (by omega) x.toNat_lt
theorem u32_mix (m c : Nat) (hm : m < 4294967296) (hc : c < 4294967296) : bits .xor .u32 (m : Int) ((c : Int) / 256) = ((m ^^^ c / 256 : Nat) : Int) := u32_xor_nat m (c / 256) hm (by omega)
theorem upd_table (c : Nat) (x : UInt8) : C.s8 (c % 256 ^^^ x.toNat) ^^^ c / 256 = C.upd c x := C.s8_table c x.toNat

set_option maxRecDepth 1000000 in
set_option maxHeartbeats 1000000 in
theorem more_any (c : Nat) (v : Value) (l : List UInt8) (w : World) (B : Nat) (hB : B ≤ w.heap.size) (h : Sl w B v l) (hc : c < 4294967296) (hl : l.length ≤ maxLen) :
    Calls Try.prog 12 #[.int .u32 c, v] w fun e w' => e = .returned (.int .u32 (C.more c l : Nat)) ∧ Below w.heap.size w w' := by
  unfold maxLen at hl
  obtain ⟨A, cap, rfl, hcap, hx⟩ := h
  have HX := Lib.hid hx
  clear hx
  have hz0 := zeroTab
  have hts := tbl_size 256
  have hfl := u32_flip c hc
  have hfc := C.flip_lt hc
  go_enter Try.func12, Try.ntmps12
  go_wp2_with fail
  refine (table_any w).mono ?_
  rintro e w1 ⟨rfl, hb1⟩
  have hst := run_storeCells_new (P := Try.prog) w1 27 (tbl 0) (tbl 256) (sizeTab 256) (by rw [tbl_size, tbl_size]) (tbl_one 256)
  go_wp2_with fail
  have HB := Lib.hid (hb1.alloc hb1.size (.cells (tbl 256) 27))
  have hz1 := hb1.size
  go_loop [0, 13] (fun v i => ∃ k q : Nat, k ≤ l.length ∧ i = .int .i64 k ∧ v = .int .u32 q ∧ Hid (q = C.run (C.flip c) (l.take k)) ∧ q < 4294967296) (fun _ i => l.length - (intOf i).toNat)
  case atStart => exact ⟨0, C.flip c, Nat.zero_le _, rfl, rfl, Lib.hid rfl, hfc⟩
  case round =>
    obtain ⟨k, q, hk, rfl, rfl, HQ, hq⟩ := hrel
    clear hfl hfc hst
    by_cases hlt : k < l.length
    · obtain ⟨a, rfl, hab, hcell⟩ := HX.out (fun e => by subst e; simp at hlt)
      have hck : (w1.alloc (.cells (tbl 256) 27)).cell? (a.add k) = some (.int .u8 (l[k].toNat : Int)) := by
        rw [World.cell?_alloc_lt _ _ _ (by rw [add_block]; omega), hb1.cell (by rw [add_block]; omega)]
        exact hcell k hlt
      clear hcell
      have HS := Lib.hid (run_take_succ (C.flip c) l k hlt)
      obtain ⟨x, hxe⟩ : ∃ x, x = l[k] := ⟨_, rfl⟩
      rw [← hxe] at hck HS
      clear hxe
      have h8 := u8_mix q x
      have hml := mix_lt q x
      have HU := Lib.hid (upd_table q x)
      have hul := C.upd_lt x hq
      obtain ⟨m, hm⟩ : ∃ m, m = q % 256 ^^^ x.toNat := ⟨_, rfl⟩
      rw [← hm] at h8 hml HU
      clear hm
      have htb := tbl_in m (by rw [tbl_size]; exact hml)
      have hs8 := C.s8_lt (show m < 4294967296 by omega)
      obtain ⟨t, ht⟩ : ∃ t, t = C.s8 m := ⟨_, rfl⟩
      rw [← ht] at htb HU hs8
      clear ht
      have h32 := u32_mix t q hs8 hq
      go_wp2
      go_round
      case rel => exact ⟨k + 1, C.upd q x, by omega, by go_num, by rw [← HU.out], Lib.hid (by rw [HQ.out]; exact HS.out.symm), hul⟩
      case measure => simp [intOf]; omega
    · obtain rfl : k = l.length := by omega
      have hfl := u32_flip q hq
      go_wp2
      go_ret
      exact ⟨ret_v (by rw [C.more, ← List.take_length (l := l), ← HQ.out]; rfl), HB.out⟩

end Go.Proofs.Ytfcccgohkmpofaa
