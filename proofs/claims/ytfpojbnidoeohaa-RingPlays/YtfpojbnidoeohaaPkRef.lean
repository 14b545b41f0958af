/-
  Numbers as four bytes, as the document has them: told and taken.
-/
import Derived.Test.YtfpojbnidoeohaaSlTypes
import Derived.Test.YtfpojbnidoeohaaPackMath
import Derived.WalkLawsBesides
import Derived.Deep.RegionWith
import Derived.Lib.Strings
import Derived.Lib.IndexBytes
namespace Go.Proofs.Ytfpojbnidoeohaa
open Go.RowKit

theorem take_snoc (s : ByteArray) (k : Nat) (h : k < s.size) : s.data.toList.take (k + 1) = s.data.toList.take k ++ [s[k]] := by
  rw [List.take_succ_eq_append_getElem (by simpa using h)]; rfl

theorem num_take_succ (s : ByteArray) (k : Nat) (h : k < s.size) : M.num (s.data.toList.take (k + 1)) = 256 * M.num (s.data.toList.take k) + s[k].toNat := by
  rw [take_snoc s k h, M.num_snoc]

theorem num_take_lt (s : ByteArray) (k : Nat) (h : k ≤ 7) : M.num (s.data.toList.take k) < 72057594037927936 := by
  have h1 := M.num_lt (s.data.toList.take k)
  have h2 : (s.data.toList.take k).length ≤ 7 := by simp; omega
  have h3 : 256 ^ (s.data.toList.take k).length ≤ 256 ^ 7 := Nat.pow_le_pow_right (by decide) h2
  have h4 : 256 ^ 7 = 72057594037927936 := by decide
  omega

theorem bcell {W w1 : World} (hb : Below W.heap.size W w1) : (∀ b o, b < W.heap.size → w1.cell? ⟨b, o, none⟩ = W.cell? ⟨b, o, none⟩) ∧ (∀ b o, b < W.heap.size → w1.frozen? ⟨b, o, none⟩ = W.frozen? ⟨b, o, none⟩) :=
  ⟨fun b o h => hb.cell (p := ⟨b, o, none⟩) h, fun b o h => hb.frozen (p := ⟨b, o, none⟩) h⟩

theorem conv_one (W : World) (b : Nat) (c : UInt8) (h : W.cell? ⟨b, 0, none⟩ = some (.int .u8 (c.toNat : Int))) :
    (convert 44 9 (.slice (some ⟨b, 0, none⟩) 1 1)).run Try.prog W = .ok (.string ⟨#[c]⟩) W := by
  refine run_convert_bytes_back (P := Try.prog) W 44 9 5 ⟨b, 0, none⟩ 1 [c] Try.underlying44 Try.underlying5 Try.underlying9 fun j hj => ?_
  match j, hj with
  | 0, _ => simpa [Addr.add] using h

theorem ba_append (a b : List UInt8) : (⟨a.toArray⟩ : ByteArray) ++ ⟨b.toArray⟩ = ⟨(a ++ b).toArray⟩ := by
  apply ByteArray.ext
  simp [ByteArray.data_append]

theorem below_ca {w w' : World} {o : Obj} (hb : Below w.drew.heap.size w.drew w') : Below w.heap.size w (w'.alloc o) := by
  have h : Below w.heap.size w w' := ((Below.refl _ w).drew).trans hb
  exact h.alloc h.size o

theorem below_ac {w w' : World} {o : Obj} (hb : Below (w.alloc o).drew.heap.size (w.alloc o).drew w') : Below w.heap.size w w' :=
  (((Below.refl _ w).alloc (Nat.le_refl _) o).drew).trans (hb.mono (by simp))

theorem v_string {a b : ByteArray} (h : a = b) : Value.string a = .string b := by rw [h]

set_option maxHeartbeats 400000 in
theorem bytes_any (m : Nat) : ∀ (x y : Int) (w : World), 0 ≤ x → x ≤ 18446744073709551615 → 0 ≤ y → y ≤ 8 → y.toNat = m →
    Calls Try.prog 60 #[.int .u64 x, .int .i64 y] w fun e w' => e = .returned (.string ⟨(M.hiB m x.toNat).toArray⟩) ∧ Below w.heap.size w w' := by
  induction m with
  | zero =>
    intro x y w h0 h1 h2 h3 h4
    obtain rfl : y = 0 := by omega
    go_enter Try.func60, Try.ntmps60
    go_wp2
    go_ret
    exact ⟨rfl, Below.refl _ _⟩
  | succ m ih =>
    intro x y w h0 h1 h2 h3 h4
    have hy : 1 ≤ y := by omega
    obtain ⟨x1, hx1⟩ : ∃ x1 : Int, x1 = x / 256 := ⟨_, rfl⟩
    obtain ⟨c, hc⟩ : ∃ c : UInt8, c = UInt8.ofNat (x.toNat % 256) := ⟨_, rfl⟩
    obtain ⟨y1, hy1⟩ : ∃ y1 : Int, y1 = y - 1 := ⟨_, rfl⟩
    have e1 : IntKind.u64.wrap (x.tdiv 256) = x1 := by rw [IntKind.wrap_u64, hx1, Int.tdiv_eq_ediv_of_nonneg h0]; omega
    have e2 : IntKind.i64.wrap (y - 1) = y1 := by rw [IntKind.wrap_i64, hy1]; omega
    have e3 : IntKind.u8.wrap (x.tmod 256) = (c.toNat : Int) := by rw [IntKind.wrap_u8, hc, Int.tmod_eq_emod_of_nonneg h0]; simp; omega
    have hres : M.hiB (m + 1) x.toNat = M.hiB m x1.toNat ++ [c] := by
      rw [M.hiB, hc, hx1]; congr 2; omega
    have IH := Lib.hid (fun W => ih x1 y1 W (by omega) (by omega) (by omega) (by omega) (by omega))
    have HR := Lib.hid hres
    have hm7 : m ≤ 7 := by omega
    have hy0 : (y == 0) = false := by rw [beq_eq_false_iff_ne]; omega
    clear ih h4 hres hx1 hc hy1 h0 h1 h2 h3 hy
    have hcv := fun W b => conv_one W b c
    have hlen := M.hiB_len m x1.toNat
    go_enter Try.func60, Try.ntmps60
    go_wp2_with fail
    go_region_with (go_at_call 60; refine (IH.out _).mono ?_; rintro e w' ⟨rfl, hb⟩; obtain ⟨hcl, hf⟩ := bcell hb)
    all_goals (try go_wp2)
    all_goals go_ret
    all_goals refine ⟨ret_v (v_string ((ba_append _ [c]).trans (by rw [HR.out]))), ?_⟩
    all_goals first | exact below_ca hb | exact below_ac hb

theorem extract_end (s : ByteArray) (k : Nat) : s.extract k s.size = ⟨(s.data.toList.drop k).toArray⟩ := by
  apply ByteArray.ext
  apply Array.ext'
  rw [ByteArray.data_extract, Array.toList_extract]
  show List.extract s.data.toList k s.size = _
  rw [List.extract_eq_take_drop]
  exact List.take_of_length_le (by simp)

theorem rnum_any (n : Nat) (w : World) (h : n < 4294967296) :
    Calls Try.prog 54 #[.int .u32 n] w fun e w' => e = .returned (.string ⟨(M.hiB 4 n).toArray⟩) ∧ Below w.heap.size w w' := by
  go_enter Try.func54, Try.ntmps54
  go_wp2_with fail
  refine (bytes_any 4 n 4 w (by omega) (by omega) (by decide) (by decide) rfl).mono ?_
  rintro e w' ⟨rfl, hb⟩
  go_wp2
  go_ret
  exact ⟨rfl, hb⟩

def tnV (l : List UInt8) : Value :=
  if l.length < 4 then .tuple #[.int .u32 0, .string ⟨#[]⟩, .int .i64 2] else .tuple #[.int .u32 (M.num (l.take 4) : Nat), .string ⟨(l.drop 4).toArray⟩, .int .i64 0]

theorem tnV_no {s : ByteArray} (h : s.size < 4) : tnV s.data.toList = .tuple #[.int .u32 0, .string ⟨#[]⟩, .int .i64 2] := by
  rw [tnV, if_pos (by simpa using h)]

theorem tnV_yes {s : ByteArray} (h : ¬ s.size < 4) : tnV s.data.toList = .tuple #[.int .u32 (M.num (s.data.toList.take 4) : Nat), .string (s.extract 4 s.size), .int .i64 0] := by
  rw [tnV, if_neg (by simpa using h), extract_end]

theorem num_take4_lt (l : List UInt8) : M.num (l.take 4) < 4294967296 := by
  have h1 := M.num_lt (l.take 4)
  have h3 : 256 ^ (l.take 4).length ≤ 256 ^ 4 := Nat.pow_le_pow_right (by decide) (by simp; omega)
  have h4 : 256 ^ 4 = 4294967296 := by decide
  omega

theorem v_tup {k : IntKind} {a b : Int} {x y : Value} (h : a = b) : Value.tuple #[.int k a, x, y] = .tuple #[.int k b, x, y] := by rw [h]

theorem tn_fin {s : ByteArray} (h : ¬ s.size < 4) : tnV s.data.toList = .tuple #[.int .u32 (IntKind.u32.wrap (M.num (s.data.toList.take 4) : Nat)), .string (s.extract 4 s.size), .int .i64 0] := by
  have hn := num_take4_lt s.data.toList
  rw [tnV_yes h]
  exact v_tup (by rw [IntKind.wrap_u32]; omega)

end Go.Proofs.Ytfpojbnidoeohaa
