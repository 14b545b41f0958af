/-
  Walks of layer pack: a number's bytes and a text's string, as the document has them.
-/
import Derived.Test.YtepgefjehnjibaaPackW3
import Derived.Deep.RegionWith
namespace Go.Proofs.Ytepgefjehnjibaa
open Go.RowKit

theorem bcell {W w1 : World} (hb : Below W.heap.size W w1) : (∀ b o, b < W.heap.size → w1.cell? ⟨b, o, none⟩ = W.cell? ⟨b, o, none⟩) ∧ (∀ b o, b < W.heap.size → w1.frozen? ⟨b, o, none⟩ = W.frozen? ⟨b, o, none⟩) :=
  ⟨fun b o h => hb.cell (p := ⟨b, o, none⟩) h, fun b o h => hb.frozen (p := ⟨b, o, none⟩) h⟩

theorem conv_one (W : World) (b : Nat) (c : UInt8) (h : W.cell? ⟨b, 0, none⟩ = some (.int .u8 (c.toNat : Int))) :
    (convert 40 9 (.slice (some ⟨b, 0, none⟩) 1 1)).run Try.prog W = .ok (.string ⟨#[c]⟩) W := by
  refine run_convert_bytes_back (P := Try.prog) W 40 9 5 ⟨b, 0, none⟩ 1 [c] Try.underlying40 Try.underlying5 Try.underlying9 fun j hj => ?_
  match j, hj with
  | 0, _ => simpa [Addr.add] using h

theorem ba_append (a b : List UInt8) : (⟨a.toArray⟩ : ByteArray) ++ ⟨b.toArray⟩ = ⟨(a ++ b).toArray⟩ := by
  apply ByteArray.ext
  simp [ByteArray.data_append]

theorem below_ca {w w' : World} {o : Obj} (hb : Below w.drew.heap.size w.drew w') : Below w.heap.size w (w'.alloc o) := by
  have h : Below w.heap.size w w' := ((Below.refl _ w).drew).trans hb
  exact h.alloc h.size o

theorem below_ac {w w' : World} {o : Obj} (hb : Below (w.alloc o).drew.heap.size (w.alloc o).drew w') : Below w.heap.size w w' :=
  (((Below.refl _ w).alloc (Nat.le_refl _) o).drew).trans (hb.mono (by simp))

theorem v_string {a b : ByteArray} (h : a = b) : Value.string a = .string b := by rw [h]

set_option maxHeartbeats 400000 in
theorem bytes_any (m : Nat) : ∀ (x y : Int) (w : World), 0 ≤ x → x ≤ 18446744073709551615 → 0 ≤ y → y ≤ 8 → y.toNat = m →
    Calls Try.prog 32 #[.int .u64 x, .int .i64 y] w fun e w' => e = .returned (.string ⟨(M.hiB m x.toNat).toArray⟩) ∧ Below w.heap.size w w' := by
  induction m with
  | zero =>
    intro x y w h0 h1 h2 h3 h4
    obtain rfl : y = 0 := by omega
    go_enter Try.func32, Try.ntmps32
    go_wp2
    go_ret
    exact ⟨rfl, Below.refl _ _⟩
  | succ m ih =>
    intro x y w h0 h1 h2 h3 h4
    have hy : 1 ≤ y := by omega
    obtain ⟨x1, hx1⟩ : ∃ x1 : Int, x1 = x / 256 := ⟨_, rfl⟩
    obtain ⟨c, hc⟩ : ∃ c : UInt8, c = UInt8.ofNat (x.toNat % 256) := ⟨_, rfl⟩
    obtain ⟨y1, hy1⟩ : ∃ y1 : Int, y1 = y - 1 := ⟨_, rfl⟩
    have e1 : IntKind.u64.wrap (x.tdiv 256) = x1 := by rw [IntKind.wrap_u64, hx1, Int.tdiv_eq_ediv_of_nonneg h0]; omega
    have e2 : IntKind.i64.wrap (y - 1) = y1 := by rw [IntKind.wrap_i64, hy1]; omega
    have e3 : IntKind.u8.wrap (x.tmod 256) = (c.toNat : Int) := by rw [IntKind.wrap_u8, hc, Int.tmod_eq_emod_of_nonneg h0]; simp; omega
    have hres : M.hiB (m + 1) x.toNat = M.hiB m x1.toNat ++ [c] := by
      rw [M.hiB, hc, hx1]; congr 2; omega
    have IH := Lib.hid (fun W => ih x1 y1 W (by omega) (by omega) (by omega) (by omega) (by omega))
    have HR := Lib.hid hres
    have hm7 : m ≤ 7 := by omega
    have hy0 : (y == 0) = false := by rw [beq_eq_false_iff_ne]; omega
    clear ih h4 hres hx1 hc hy1 h0 h1 h2 h3 hy
    have hcv := fun W b => conv_one W b c
    have hlen := M.hiB_len m x1.toNat
    go_enter Try.func32, Try.ntmps32
    go_wp2_with fail
    go_region_with (go_at_call 32; refine (IH.out _).mono ?_; rintro e w' ⟨rfl, hb⟩; obtain ⟨hcl, hf⟩ := bcell hb)
    all_goals (try go_wp2)
    all_goals go_ret
    all_goals refine ⟨ret_v (v_string ((ba_append _ [c]).trans (by rw [HR.out]))), ?_⟩
    all_goals first | exact below_ca hb | exact below_ac hb

set_option maxHeartbeats 1000000 in
theorem rtext_any (s : ByteArray) (w : World) (hs : s.size ≤ 35184372088832) :
    Calls Try.prog 22 #[.string s] w fun e w' => e = .returned (.string ⟨(M.text s.data.toList).toArray⟩) ∧ Below w.heap.size w w' := by
  obtain ⟨i0, hi, hz0, hz1, hz2⟩ := info_parts Try.info5
  go_enter Try.func22, Try.ntmps22
  go_wp2_with fail
  go_loopw [3, 4] (fun v i wr => ∃ (k : Nat) (L : List UInt8), k ≤ s.size ∧ i = .int .i64 k ∧ L = M.esc (s.data.toList.take k) ∧ wr.ownsRow w.heap.size 5 1 v L.length (bytesV L) ∧ Below w.heap.size w wr) (fun _ i _ => s.size - (intOf i).toNat)
  case atStart => exact ⟨0, [], Nat.zero_le _, rfl, rfl, World.ownsRow_nil _ _ _ _, Below.refl _ _⟩
  case round =>
    obtain ⟨k, L, hk, rfl, hL, hown, hb⟩ := hrel
    have hLl : L.length ≤ 2 * k := by
      have h1 := (M.esc_len (s.data.toList.take k)).2
      have h2 : (s.data.toList.take k).length ≤ k := List.length_take_le _ _
      rw [hL]; omega
    have HL := Lib.hid hL
    clear hL
    have hsz := hb.size
    by_cases hlt : k < s.size
    · by_cases hc : s[k] = 0
      · have hcb := zero_bool hc
        have HC := Lib.hid hc
        clear hc
        go_wp2_with (at_builtin; refine wpList_append_own _ rfl _ _ 40 rfl w.heap.size 5 i0 (.int .u8 0) 1 1 Try.underlying40 hi hz0 hz1 hz2 rfl (by decide) _ _ _ rfl (hown.alloc _) ⟨wr.heap.size, 0, none⟩ 1 1 [.int .u8 (s[k].toNat : Int)] rfl rfl cell_new1 (by simp [Value.oneCell']) ?d3 ?d4 ?d5 ?_)
        case d3 => unfold maxLen; omega
        case d4 => omega
        case d5 => simp; omega
        intro v1 w2 hown' hgrow' _
        have hown2 := own_snoc hown'
        have hb2 := below_grown hb (Nat.le_refl _) hown hgrow'
        have hl2 : (L ++ [s[k]]).length ≤ 2 * k + 1 := by simp; omega
        have hsz2 := hb2.size
        clear hown' hgrow' hown hb
        obtain ⟨L2, hL2⟩ : ∃ L2, L2 = L ++ [s[k]] := ⟨_, rfl⟩
        rw [← hL2] at hown2 hl2
        have HL2 := Lib.hid hL2
        clear hL2
        go_wp2_with (at_builtin; refine wpList_append_own _ rfl _ _ 40 rfl w.heap.size 5 i0 (.int .u8 0) 1 1 Try.underlying40 hi hz0 hz1 hz2 rfl (by decide) _ _ _ rfl (hown2.alloc _) ⟨w2.heap.size, 0, none⟩ 1 1 [.int .u8 ((255 : UInt8).toNat : Int)] rfl rfl cell_new1 (by simp [Value.oneCell']) ?e3 ?e4 ?e5 ?_)
        case e3 => unfold maxLen; omega
        case e4 => omega
        case e5 => simp; omega
        intro v2 w3 hown' hgrow' _
        have HN := Lib.hid (own_snoc (c := 255) hown')
        have HB := Lib.hid (below_grown hb2 (Nat.le_refl _) hown2 hgrow')
        clear hown' hgrow' hown2 hb2
        go_wp2
        go_roundw
        case rel => exact ⟨k + 1, L2 ++ [255], by omega, by go_num, by rw [take_snoc s k hlt, M.esc_snoc_zero _ _ HC.out, HL2.out, HL.out], HN.out, HB.out⟩
        case measure => simp [intOf]; omega
      · have hcb := zero_bool' hc
        go_wp2_with (at_builtin; refine wpList_append_own _ rfl _ _ 40 rfl w.heap.size 5 i0 (.int .u8 0) 1 1 Try.underlying40 hi hz0 hz1 hz2 rfl (by decide) _ _ _ rfl (hown.alloc _) ⟨wr.heap.size, 0, none⟩ 1 1 [.int .u8 (s[k].toNat : Int)] rfl rfl cell_new1 (by simp [Value.oneCell']) ?c3 ?c4 ?c5 ?_)
        case c3 => unfold maxLen; omega
        case c4 => omega
        case c5 => simp; omega
        intro v' w2 hown' hgrow' _
        have HN := Lib.hid (own_snoc hown')
        have HB := Lib.hid (below_grown hb (Nat.le_refl _) hown hgrow')
        clear hown' hgrow' hown hb
        go_wp2
        go_roundw
        case rel => exact ⟨k + 1, L ++ [s[k]], by omega, by go_num, by rw [take_snoc s k hlt, M.esc_snoc _ _ hc, HL.out], HN.out, HB.out⟩
        case measure => simp [intOf]; omega
    · go_wp2_with (at_builtin; refine wpList_append_own _ rfl _ _ 40 rfl w.heap.size 5 i0 (.int .u8 0) 1 1 Try.underlying40 hi hz0 hz1 hz2 rfl (by decide) _ _ _ rfl (hown.alloc _) ⟨wr.heap.size, 0, none⟩ 2 2 [.int .u8 ((0 : UInt8).toNat : Int), .int .u8 ((1 : UInt8).toNat : Int)] rfl rfl cell_new2 (by simp [Value.oneCell']) ?g3 ?g4 ?g5 ?_)
      case g3 => unfold maxLen; omega
      case g4 => omega
      case g5 => simp; omega
      intro v' w2 hown' hgrow' _
      have hcv := conv_own (own_snoc2 (c := 0) (d := 1) hown')
      have HB := Lib.hid (below_grown hb (Nat.le_refl _) hown hgrow')
      clear hown' hgrow' hown hb
      go_wp2
      go_ret
      exact ⟨ret_v (by rw [HL.out, List.take_of_length_le (by simp; omega)]; rfl), HB.out⟩

end Go.Proofs.Ytepgefjehnjibaa
