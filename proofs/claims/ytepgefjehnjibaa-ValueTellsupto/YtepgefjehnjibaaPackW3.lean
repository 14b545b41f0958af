/-
  Walks of layer pack: a text as a string, as the program makes it and as the document does.
-/
import Derived.Test.YtepgefjehnjibaaPackW2
namespace Go.Proofs.Ytepgefjehnjibaa
open Go.RowKit

theorem own_snoc {w : World} {B : Nat} {v : Value} {L : List UInt8} {c : UInt8} (h : w.ownsRow B 5 1 v (L.length + 1) (bytesV L ++ [.int .u8 (c.toNat : Int)])) :
    w.ownsRow B 5 1 v (L ++ [c]).length (bytesV (L ++ [c])) := by
  have e : bytesV (L ++ [c]) = bytesV L ++ [.int .u8 (c.toNat : Int)] := by simp [bytesV]
  rw [e, List.length_append]; exact h

theorem own_snoc2 {w : World} {B : Nat} {v : Value} {L : List UInt8} {c d : UInt8} (h : w.ownsRow B 5 1 v (L.length + 2) (bytesV L ++ [.int .u8 (c.toNat : Int), .int .u8 (d.toNat : Int)])) :
    w.ownsRow B 5 1 v (L ++ [c, d]).length (bytesV (L ++ [c, d])) := by
  have e : bytesV (L ++ [c, d]) = bytesV L ++ [.int .u8 (c.toNat : Int), .int .u8 (d.toNat : Int)] := by simp [bytesV]
  rw [e, List.length_append]; exact h

theorem below_grown {B : Nat} {v : Value} {w w1 w2 : World} {n : Nat} {xs : List Value} {o : Obj} (hb : Below B w w1) (hB : B ≤ w.heap.size) (hown : w1.ownsRow B 5 1 v n xs) (hg : (w1.alloc o).grownBy w2 v.ownBlock) : Below B w w2 := by
  have h1 := hb.size
  exact (hb.alloc (by omega) o).grown hg (by simp; omega) (fun k hk => (hown.lt k hk).1)

theorem cell_new1 {w : World} {u0 : Value} {t : TypeId} : ∀ j u, [u0][j]? = some u → (w.alloc (.cells #[u0] t)).cell? ((⟨w.heap.size, 0, none⟩ : Addr).add j) = some u := by
  intro j u hj
  match j, hj with
  | 0, hj => simp at hj; subst hj; simp [Addr.add]

theorem cell_new2 {w : World} {u0 u1 : Value} {t : TypeId} : ∀ j u, [u0, u1][j]? = some u → (w.alloc (.cells #[u0, u1] t)).cell? ((⟨w.heap.size, 0, none⟩ : Addr).add j) = some u := by
  intro j u hj
  match j, hj with
  | 0, hj => simp at hj; subst hj; simp [Addr.add]
  | 1, hj => simp at hj; subst hj; simp [Addr.add]

theorem zero_bool {c : UInt8} (h : c = 0) : ((c.toNat : Int) == 0) = true := by subst h; rfl
theorem zero_bool' {c : UInt8} (h : ¬ c = 0) : ((c.toNat : Int) == 0) = false := by
  rw [beq_eq_false_iff_ne]
  intro e
  exact h (by rw [← UInt8.toNat_inj]; simpa using e)

set_option maxHeartbeats 1000000 in
theorem text_any (s : ByteArray) (w : World) (hs : s.size ≤ 35184372088832) :
    Calls Try.prog 20 #[.string s] w fun e w' => e = .returned (.string ⟨(M.text s.data.toList).toArray⟩) ∧ Below w.heap.size w w' := by
  obtain ⟨i0, hi, hz0, hz1, hz2⟩ := info_parts Try.info5
  go_enter Try.func20, Try.ntmps20
  go_wp2_with (at_make; refine wpList_make_own _ rfl _ _ 40 rfl w.heap.size 5 i0 (.int .u8 0) 1 Try.underlying40 hi hz0 hz1 _ _ _ (s.size + 2) rfl rfl (by omega) ?b1 ?b2 ?b3 ?_)
  case b1 => rw [hz2]; omega
  case b2 => unfold maxLen; omega
  case b3 => exact Nat.le_refl _
  intro w1 hown1 hgrow0
  have hb1 : Below w.heap.size w w1 := (Below.refl _ _).grown hgrow0 (Nat.le_refl _) (fun k hk => by cases hk)
  clear hgrow0
  go_wp2_with fail
  go_loopw [3, 11] (fun v i wr => ∃ (k : Nat) (L : List UInt8), k ≤ s.size ∧ i = .int .i64 k ∧ L = M.esc (s.data.toList.take k) ∧ wr.ownsRow w.heap.size 5 1 v L.length (bytesV L) ∧ Below w.heap.size w wr) (fun _ i _ => s.size - (intOf i).toNat)
  case atStart => exact ⟨0, [], Nat.zero_le _, rfl, rfl, hown1, hb1⟩
  case round =>
    clear hown1 hb1
    rename_i v _ _ 
    obtain ⟨k, L, hk, rfl, hL, hown, hb⟩ := hrel
    have hLl : L.length ≤ 2 * k := by
      have h1 := (M.esc_len (s.data.toList.take k)).2
      have h2 : (s.data.toList.take k).length ≤ k := List.length_take_le _ _
      rw [hL]; omega
    have HL := Lib.hid hL
    clear hL
    have hsz := hb.size
    by_cases hlt : k < s.size
    · by_cases hc : s[k] = 0
      · have hcb := zero_bool hc
        have HC := Lib.hid hc
        clear hc
        go_wp2_with (at_builtin; refine wpList_append_own _ rfl _ _ 40 rfl w.heap.size 5 i0 (.int .u8 0) 1 1 Try.underlying40 hi hz0 hz1 hz2 rfl (by decide) _ _ _ rfl (hown.alloc _) ⟨wr.heap.size, 0, none⟩ 1 1 [.int .u8 (s[k].toNat : Int)] rfl rfl cell_new1 (by simp [Value.oneCell']) ?d3 ?d4 ?d5 ?_)
        case d3 => unfold maxLen; omega
        case d4 => omega
        case d5 => simp; omega
        intro v1 w2 hown' hgrow' _
        have hown2 := own_snoc hown'
        have hb2 := below_grown hb (Nat.le_refl _) hown hgrow'
        have hl2 : (L ++ [s[k]]).length ≤ 2 * k + 1 := by simp; omega
        have hsz2 := hb2.size
        clear hown' hgrow' hown hb
        obtain ⟨L2, hL2⟩ : ∃ L2, L2 = L ++ [s[k]] := ⟨_, rfl⟩
        rw [← hL2] at hown2 hl2
        have HL2 := Lib.hid hL2
        clear hL2
        go_wp2_with (at_builtin; refine wpList_append_own _ rfl _ _ 40 rfl w.heap.size 5 i0 (.int .u8 0) 1 1 Try.underlying40 hi hz0 hz1 hz2 rfl (by decide) _ _ _ rfl (hown2.alloc _) ⟨w2.heap.size, 0, none⟩ 1 1 [.int .u8 ((255 : UInt8).toNat : Int)] rfl rfl cell_new1 (by simp [Value.oneCell']) ?e3 ?e4 ?e5 ?_)
        case e3 => unfold maxLen; omega
        case e4 => omega
        case e5 => simp; omega
        intro v2 w3 hown' hgrow' _
        have HN := Lib.hid (own_snoc (c := 255) hown')
        have HB := Lib.hid (below_grown hb2 (Nat.le_refl _) hown2 hgrow')
        clear hown' hgrow' hown2 hb2
        go_wp2
        go_roundw
        case rel => exact ⟨k + 1, L2 ++ [255], by omega, by go_num, by rw [take_snoc s k hlt, M.esc_snoc_zero _ _ HC.out, HL2.out, HL.out], HN.out, HB.out⟩
        case measure => simp [intOf]; omega
      · have hcb := zero_bool' hc
        go_wp2_with (at_builtin; refine wpList_append_own _ rfl _ _ 40 rfl w.heap.size 5 i0 (.int .u8 0) 1 1 Try.underlying40 hi hz0 hz1 hz2 rfl (by decide) _ _ _ rfl (hown.alloc _) ⟨wr.heap.size, 0, none⟩ 1 1 [.int .u8 (s[k].toNat : Int)] rfl rfl cell_new1 (by simp [Value.oneCell']) ?c3 ?c4 ?c5 ?_)
        case c3 => unfold maxLen; omega
        case c4 => omega
        case c5 => simp; omega
        intro v' w2 hown' hgrow' _
        have HN := Lib.hid (own_snoc hown')
        have HB := Lib.hid (below_grown hb (Nat.le_refl _) hown hgrow')
        clear hown' hgrow' hown hb
        go_wp2
        go_roundw
        case rel => exact ⟨k + 1, L ++ [s[k]], by omega, by go_num, by rw [take_snoc s k hlt, M.esc_snoc _ _ hc, HL.out], HN.out, HB.out⟩
        case measure => simp [intOf]; omega
    · go_wp2_with (at_builtin; refine wpList_append_own _ rfl _ _ 40 rfl w.heap.size 5 i0 (.int .u8 0) 1 1 Try.underlying40 hi hz0 hz1 hz2 rfl (by decide) _ _ _ rfl (hown.alloc _) ⟨wr.heap.size, 0, none⟩ 2 2 [.int .u8 ((0 : UInt8).toNat : Int), .int .u8 ((1 : UInt8).toNat : Int)] rfl rfl cell_new2 (by simp [Value.oneCell']) ?g3 ?g4 ?g5 ?_)
      case g3 => unfold maxLen; omega
      case g4 => omega
      case g5 => simp; omega
      intro v' w2 hown' hgrow' _
      have hcv := conv_own (own_snoc2 (c := 0) (d := 1) hown')
      have HB := Lib.hid (below_grown hb (Nat.le_refl _) hown hgrow')
      clear hown' hgrow' hown hb
      go_wp2
      go_ret
      exact ⟨ret_v (by rw [HL.out, List.take_of_length_le (by simp; omega)]; rfl), HB.out⟩

end Go.Proofs.Ytepgefjehnjibaa
