/-
  Walks of layer pack: the text with which a string begins, as the program takes it.
-/
import Derived.Test.YtepgefjehnjibaaPackW4
import Derived.Lib.Strings
import Derived.Lib.IndexBytes
namespace Go.Proofs.Ytepgefjehnjibaa
open Go.RowKit

def ttV : Option (List UInt8 × List UInt8) → Value
  | some (g, h) => .tuple #[.string ⟨g.toArray⟩, .string ⟨h.toArray⟩, .int .i64 0]
  | none => .tuple #[.string ⟨#[]⟩, .string ⟨#[]⟩, .int .i64 2]

theorem byte_bool {c : UInt8} (n : Nat) (h : c.toNat = n) : ((c.toNat : Int) == n) = true := by rw [h]; simp
theorem byte_bool' {c : UInt8} (n : Nat) (h : ¬ c.toNat = n) : ((c.toNat : Int) == n) = false := by
  rw [beq_eq_false_iff_ne]
  intro e
  exact h (by omega)

theorem drop_cons (s : ByteArray) (k : Nat) (h : k < s.size) : s.data.toList.drop k = s[k] :: s.data.toList.drop (k + 1) := by
  rw [List.drop_eq_getElem_cons (by simpa using h)]; rfl

theorem extract_end (s : ByteArray) (k : Nat) : s.extract k s.size = ⟨(s.data.toList.drop k).toArray⟩ := by
  apply ByteArray.ext
  apply Array.ext'
  rw [ByteArray.data_extract, Array.toList_extract]
  show List.extract s.data.toList k s.size = _
  rw [List.extract_eq_take_drop]
  exact List.take_of_length_le (by simp)

theorem tt_end {acc : List UInt8} {mk : Bool} {s : ByteArray} {k : Nat} (hk : ¬ k < s.size) : M.ttake acc mk (s.data.toList.drop k) = none := by
  have : s.data.toList.drop k = [] := List.drop_eq_nil_of_le (by simpa using hk)
  rw [this]; cases mk <;> rfl

theorem u8_eq {c d : UInt8} (h : c.toNat = d.toNat) : c = d := UInt8.toNat_inj.1 h
theorem u8_ne {c d : UInt8} (h : ¬ c.toNat = d.toNat) : ¬ c = d := fun e => h (by rw [e])

theorem tt_mark {acc r : List UInt8} {c : UInt8} (h : c.toNat = 0) : M.ttake acc false (c :: r) = M.ttake acc true r := by
  rw [M.ttake, if_pos (u8_eq (d := 0) h)]
theorem tt_byte {acc r : List UInt8} {c : UInt8} (h : ¬ c.toNat = 0) : M.ttake acc false (c :: r) = M.ttake (acc ++ [c]) false r := by
  rw [M.ttake, if_neg (u8_ne (d := 0) h)]
theorem tt_over {acc r : List UInt8} {c : UInt8} (h : c.toNat = 1) : M.ttake acc true (c :: r) = some (acc, r) := by
  rw [M.ttake, if_pos (u8_eq (d := 1) h)]
theorem tt_zero {acc r : List UInt8} {c : UInt8} (h : c.toNat = 255) : M.ttake acc true (c :: r) = M.ttake (acc ++ [0]) false r := by
  rw [M.ttake, if_neg (u8_ne (d := 1) (by rw [h]; decide)), if_pos (u8_eq (d := 255) h)]
theorem tt_bad {acc r : List UInt8} {c : UInt8} (h : ¬ c.toNat = 1) (h' : ¬ c.toNat = 255) : M.ttake acc true (c :: r) = none := by
  rw [M.ttake, if_neg (u8_ne (d := 1) h), if_neg (u8_ne (d := 255) h')]

set_option maxHeartbeats 1000000 in
theorem takeText_any (s : ByteArray) (w : World) (hs : s.size ≤ 140737488351232) :
    Calls Try.prog 37 #[.string s] w fun e w' => e = .returned (ttV (M.ttake [] false s.data.toList)) ∧ Below w.heap.size w w' := by
  obtain ⟨i0, hi, hz0, hz1, hz2⟩ := info_parts Try.info5
  obtain ⟨R, hR⟩ : ∃ R, R = M.ttake [] false s.data.toList := ⟨_, rfl⟩
  rw [← hR]
  have HR := Lib.hid hR
  clear hR
  go_enter Try.func37, Try.ntmps37
  go_wp2_with fail
  go_loopw [5, 6, 10] (fun v m i wr => ∃ (k : Nat) (acc : List UInt8) (mk : Bool), k ≤ s.size ∧ i = .int .i64 k ∧ m = .bool mk ∧ acc.length ≤ k ∧ R = M.ttake acc mk (s.data.toList.drop k) ∧ wr.ownsRow w.heap.size 5 1 v acc.length (bytesV acc) ∧ Below w.heap.size w wr) (fun _ _ i _ => s.size - (intOf i).toNat)
  case atStart => exact ⟨0, [], false, Nat.zero_le _, rfl, rfl, Nat.le_refl _, HR.out, World.ownsRow_nil _ _ _ _, Below.refl _ _⟩
  case round =>
    obtain ⟨k, acc, mk, hk, rfl, rfl, hal, hT, hown, hb⟩ := hrel
    have HT := Lib.hid hT
    clear hT
    have hsz := hb.size
    by_cases hlt : k < s.size
    · have hdr := drop_cons s k hlt
      obtain ⟨c, hc⟩ : ∃ c, c = s[k] := ⟨_, rfl⟩
      rw [← hc] at hdr
      have HD := Lib.hid hdr
      clear hdr
      cases mk with
      | true =>
        by_cases h1 : c.toNat = 1
        · have hcb : ((s[k].toNat : Int) == 1) = true := by rw [← hc]; exact byte_bool 1 h1
          have hT2 : R = some (acc, s.data.toList.drop (k + 1)) := by rw [HT.out, HD.out, tt_over h1]
          have HT2 := Lib.hid hT2
          have hcv := conv_own hown.drew
          clear hT2 hc h1
          go_wp2_with fail
          have ew : IntKind.i64.wrap ((k : Int) + 1) = (k : Int) + 1 := IntWalk.i64_in _ (by omega)
          have e0 : (0 : Int) ≤ (k : Int) + 1 := by omega
          have e1 : (k : Int) + 1 ≤ (s.size : Int) := by omega
          have e2 : ((k : Int) + 1).toNat = k + 1 := by omega
          go_region
          all_goals (try go_wp2)
          all_goals go_ret3
          all_goals (refine ⟨?_, hb.drew⟩; rw [HT2.out, ttV, ← extract_end]; rfl)
        · by_cases h2 : c.toNat = 255
          · have hcb : ((s[k].toNat : Int) == 1) = false := by rw [← hc]; exact byte_bool' 1 h1
            have hcb2 : ((s[k].toNat : Int) == 255) = true := by rw [← hc]; exact byte_bool 255 h2
            have hT2 : R = M.ttake (acc ++ [0]) false (s.data.toList.drop (k + 1)) := by rw [HT.out, HD.out, tt_zero h2]
            have HT2 := Lib.hid hT2
            clear hT2 hc h1 h2
            go_wp2_with (at_builtin; refine wpList_append_own _ rfl _ _ 40 rfl w.heap.size 5 i0 (.int .u8 0) 1 1 Try.underlying40 hi hz0 hz1 hz2 rfl (by decide) _ _ _ rfl (hown.alloc _) ⟨wr.heap.size, 0, none⟩ 1 1 [.int .u8 ((0 : UInt8).toNat : Int)] rfl rfl cell_new1 (by simp [Value.oneCell']) ?e3 ?e4 ?e5 ?_)
            case e3 => unfold maxLen; omega
            case e4 => omega
            case e5 => simp; omega
            intro v' w2 hown' hgrow' _
            have HN := Lib.hid (own_snoc (c := 0) hown')
            have HB := Lib.hid (below_grown hb (Nat.le_refl _) hown hgrow')
            clear hown' hgrow' hown hb
            go_wp2
            go_roundw
            case rel => exact ⟨k + 1, acc ++ [0], false, by omega, by go_num, rfl, by simp; omega, HT2.out, HN.out, HB.out⟩
            case measure => simp [intOf]; omega
          · have hcb : ((s[k].toNat : Int) == 1) = false := by rw [← hc]; exact byte_bool' 1 h1
            have hcb2 : ((s[k].toNat : Int) == 255) = false := by rw [← hc]; exact byte_bool' 255 h2
            have hT2 : R = none := by rw [HT.out, HD.out, tt_bad h1 h2]
            have HT2 := Lib.hid hT2
            clear hT2 hc h1 h2
            go_wp2
            go_ret3
            exact ⟨by rw [HT2.out]; rfl, hb⟩
      | false =>
        by_cases h1 : c.toNat = 0
        · have hcb : ((s[k].toNat : Int) == 0) = true := by rw [← hc]; exact byte_bool 0 h1
          have hT2 : R = M.ttake acc true (s.data.toList.drop (k + 1)) := by
            rw [HT.out, HD.out, tt_mark h1]
          have HT2 := Lib.hid hT2
          clear hT2 hc h1
          go_wp2
          go_roundw
          case rel => exact ⟨k + 1, acc, true, by omega, by go_num, rfl, by omega, HT2.out, hown, hb⟩
          case measure => simp [intOf]; omega
        · have hcb : ((s[k].toNat : Int) == 0) = false := by rw [← hc]; exact byte_bool' 0 h1
          have hT2 : R = M.ttake (acc ++ [s[k]]) false (s.data.toList.drop (k + 1)) := by
            rw [HT.out, HD.out, tt_byte h1, hc]
          have HT2 := Lib.hid hT2
          clear hT2 hc h1
          go_wp2_with (at_builtin; refine wpList_append_own _ rfl _ _ 40 rfl w.heap.size 5 i0 (.int .u8 0) 1 1 Try.underlying40 hi hz0 hz1 hz2 rfl (by decide) _ _ _ rfl (hown.alloc _) ⟨wr.heap.size, 0, none⟩ 1 1 [.int .u8 (s[k].toNat : Int)] rfl rfl cell_new1 (by simp [Value.oneCell']) ?c3 ?c4 ?c5 ?_)
          case c3 => unfold maxLen; omega
          case c4 => omega
          case c5 => simp; omega
          intro v' w2 hown' hgrow' _
          have HN := Lib.hid (own_snoc hown')
          have HB := Lib.hid (below_grown hb (Nat.le_refl _) hown hgrow')
          clear hown' hgrow' hown hb
          go_wp2
          go_roundw
          case rel => exact ⟨k + 1, acc ++ [s[k]], false, by omega, by go_num, rfl, by simp; omega, HT2.out, HN.out, HB.out⟩
          case measure => simp [intOf]; omega
    · have hRn : R = none := by rw [HT.out, tt_end hlt]
      have HRn := Lib.hid hRn
      clear hRn
      go_wp2
      go_ret3
      exact ⟨by rw [HRn.out]; rfl, hb⟩

end Go.Proofs.Ytepgefjehnjibaa
