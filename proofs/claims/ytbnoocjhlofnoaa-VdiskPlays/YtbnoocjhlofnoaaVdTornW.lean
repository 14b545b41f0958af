/-
  The law VdiskTorn, walked: a sector is never torn.
-/
import Derived.Test.YtbnoocjhlofnoaaVdKeepsW
namespace Go.Proofs.Ytbnoocjhlofnoaa
open Go.RowKit

/-- the slice v holds the arrays bs, of nine bytes each -/
def Arrs (w : World) (G : Nat → Prop) (v : Value) (bs : List (List UInt8)) : Prop :=
  (∀ x ∈ bs, x.length = 9) ∧ ∃ A cap, v = .slice A bs.length cap ∧ bs.length ≤ cap ∧ (bs ≠ [] → ∃ a, A = some a ∧ G a.block ∧ ∀ i (hi : i < bs.length) j (hj : j < bs[i].length), w.cell? (a.add (i * 9 + j)) = some (.int .u8 (bs[i][j].toNat : Int)))

theorem arrs_at {w : World} {G : Nat → Prop} {v : Value} {bs : List (List UInt8)} (h : Arrs w G v bs) (k : Nat) (hk : k < bs.length) : ∃ a cap, v = .slice (some a) bs.length cap ∧ bs.length ≤ cap ∧ G a.block ∧ bs[k].length = 9 ∧ SlB w G (.slice (some (a.add (k * 9))) 9 9) bs[k] := by
  obtain ⟨h9, A, cap, rfl, hc, hx⟩ := h
  obtain ⟨a, rfl, hg, hx⟩ := hx (fun e => by subst e; simp at hk)
  have hl := h9 _ (List.getElem_mem hk)
  refine ⟨a, cap, rfl, hc, hg, hl, ⟨by rw [bytesV_length, Nat.mul_one], _, 9, by rw [hl], by omega, fun _ => ⟨_, rfl, by rw [S.add_block]; exact hg, fun j u hj => ?_⟩⟩⟩
  have hjl := (List.getElem?_eq_some_iff.1 hj).1
  rw [bytesV_length] at hjl
  rw [S.add_add, hx k hk j hjl, ← hj, bytesV_at _ j hjl]

theorem Arrs.below {w w' : World} {G : Nat → Prop} {B : Nat} {v : Value} {bs : List (List UInt8)} (h : Arrs w G v bs) (hb : Below B w w') (hG : ∀ b, G b → b < B) : Arrs w' G v bs := by
  obtain ⟨h9, A, cap, e, hc, hx⟩ := h
  refine ⟨h9, A, cap, e, hc, fun hn => ?_⟩
  obtain ⟨a, e2, hg, hx⟩ := hx hn
  exact ⟨a, e2, hg, fun i hi j hj => (hb.cell (by rw [S.add_block]; exact hG _ hg)).trans (hx i hi j hj)⟩

def tornRow (bs : List (List UInt8)) : List (Nat × D.Sec) := bs.map fun x => (2, D.full x)
theorem torn_snoc (bs : List (List UInt8)) (k : Nat) (h : k < bs.length) : tornRow (bs.take (k + 1)) = tornRow (bs.take k) ++ [(2, D.full bs[k])] := by
  rw [List.take_succ_eq_append_getElem h, tornRow, List.map_append]; rfl

section
variable {H : World → (Nat → Prop) → Value → D.Dk → Prop}

set_option maxRecDepth 100000 in
set_option maxHeartbeats 4000000 in
theorem torn_yes (K : DiskOk H) (v vb vk : Value) (l : List Deed) (bs : List (List UInt8)) (keep : List Bool) (w : World) (G : Nat → Prop) (hd : Deeds w G v l) (hbs : Arrs w G vb bs) (hkp : SlT w G vk keep) (hG : ∀ b, G b → b < w.heap.size) (hf : fewM l = true) (_hbl : bs.length ≤ 9223372036854775807) :
    Calls Try.prog 5 #[v, vb, vk] w fun e w' => e = .returned (.bool true) ∧ Below w.heap.size w w' := by
  have hl60 := (few_of hf).1
  have HD := Lib.hid hd
  have HB := Lib.hid hbs
  have HK := Lib.hid hkp
  obtain ⟨A, cap, rfl, hc, _⟩ := hd
  obtain ⟨_, Ab, capb, rfl, hcb, _⟩ := hbs
  obtain ⟨Ak, capk, rfl, hck⟩ := Sg_form hkp
  clear hkp
  go_enter Try.func5, Try.ntmps5
  go_wp2_with fail
  refine (vawake_any K _).mono ?_
  rintro e w1 ⟨rfl, hb1⟩
  have HF1 := Lib.hid (by have := few_any (.slice A l.length cap) l w1 G (HD.out.below hb1 hG) (by omega); rw [hf] at this; exact this)
  go_wp2_with fail
  refine HF1.out.mono ?_
  rintro e w1' ⟨rfl, rfl⟩
  have HR := Lib.hid (run_any K (.slice A l.length cap) l w1 G (HD.out.below hb1 hG) (fun b h => Nat.lt_of_lt_of_le (hG b h) hb1.size) hf)
  clear HF1
  go_wp2_with fail
  refine HR.out.mono ?_
  rintro e w2 ⟨p, F2, rfl, hH2, hF2, hb2⟩
  obtain ⟨pa, rfl⟩ := K.ptr hH2
  have hO2 : One H w (.pointer (some pa)) (steps (newD 8) l) F2 w2 := ⟨hH2, fun b g => Nat.le_trans hb1.size (hF2 b g), below_two hb1 hb2⟩
  have hdl : (steps (newD 8) l).sync.secs.length = 8 := by rw [D.sync_len, steps_len]; rfl
  have hdr : (steps (newD 8) l).sync.row = [] := rfl
  have HS := Lib.hid (K.sync hH2)
  clear HR hH2 hF2 hb2 hb1
  go_wp2_with fail
  refine HS.out.mono ?_
  rintro e w3 ⟨rfl, hH3, ht3⟩
  have hO3 := hO2.turn hH3 ht3
  generalize More F2 w2 w3 = F3 at *
  generalize (steps (newD 8) l).sync = d1 at *
  have HR := Lib.hid (K.read_at 2 hO3.real (by omega))
  clear HS hH3 ht3 hO2
  go_wp2_with fail
  refine HR.out.mono ?_
  rintro e w4 ⟨aw, cpw, rfl, hcpw, hlw, hsw, hbw⟩
  have hO4 := hO3.below K hbw
  have hFW : ∀ b, S.New w3 w4 b → ¬ F3 b := fun b g f => by have := K.lt hO3.real b f; have := g.1; omega
  have hsw := Lib.hid hsw
  have hWl : ∀ b, S.New w3 w4 b → b < w4.heap.size := fun b g => g.2
  generalize S.New w3 w4 = FW at *
  clear HR hO3 hbw
  go_wp2_with fail
  go_loopw [11] (fun i wr => ∃ (k : Nat) (F : Nat → Prop), k ≤ bs.length ∧ k ≤ 40 ∧ i = .int .i64 k ∧ One H w (.pointer (some pa)) ⟨d1.secs, tornRow (bs.take k)⟩ F wr ∧ SlB wr FW (.slice (some aw) (d1.read 2).length cpw) (d1.read 2) ∧ (∀ b, FW b → ¬ F b) ∧ (∀ b, FW b → b < wr.heap.size)) (fun i _ => 40 - (intOf i).toNat)
  case atStart => exact ⟨0, F3, Nat.zero_le _, by omega, rfl, by rw [List.take_zero, show tornRow [] = [] from rfl, ← dk_eta hdr]; exact hO4, hsw.out, hFW, hWl⟩
  case round =>
    clear hO4 hsw hFW hWl
    obtain ⟨k, F, hk, hk40, rfl, hO, hsw, hFW, hWl⟩ := hrel
    have hrowl : (tornRow (bs.take k)).length ≤ 40 := by simp [tornRow]; omega
    by_cases hlt : k < bs.length ∧ k < 40
    · obtain ⟨hlt, hlt40⟩ := hlt
      obtain ⟨a, cap2, e1, _, hga, h9, hsb⟩ := arrs_at (HB.out.below hO.bel hG) k hlt
      cases e1
      have i2 : (0 : Int) ≤ (k : Int) := by omega
      have i3 : (k : Int) < (bs.length : Int) := by omega
      have HW := Lib.hid (by have := K.write G (.slice (some (a.add (k * 9))) 9 9) bs[k] 2 hO.real hsb (fun b h => Nat.lt_of_lt_of_le (hG b h) hO.bel.size) (by show (tornRow (bs.take k)).length ≤ 1000; omega) (by omega) (by omega) (by omega); rw [show (2 : Int) = ((2 : Nat) : Int) from rfl, bad_ok (by show 2 < d1.secs.length; omega) (by omega)] at this; exact this)
      have hwr : D.Dk.write ⟨d1.secs, tornRow (bs.take k)⟩ ((2 : Nat) : Int) bs[k] = ⟨d1.secs, tornRow (bs.take (k + 1))⟩ := by
        rw [D.Dk.write, if_pos ⟨⟨by omega, by show ((2 : Nat) : Int) < (d1.secs.length : Int); omega⟩, by omega⟩, torn_snoc bs k hlt]; rfl
      rw [hwr] at HW
      go_wp2_with fail
      refine HW.out.mono ?_
      rintro e w5 ⟨rfl, hH5, ht5⟩
      have hO5 := hO.turn hH5 ht5
      have hs5 := hsw.keep (w' := w5) fun p hp => ht5.cell (hWl _ hp) (hFW _ hp)
      have hFW5 : ∀ b, FW b → ¬ More F wr w5 b := fun b g f => f.elim (hFW b g) (fun f => by have := hWl b g; have := f.1; omega)
      have hWl5 : ∀ b, FW b → b < w5.heap.size := fun b g => Nat.lt_of_lt_of_le (hWl b g) ht5.size
      have HS5 := Lib.hid hs5
      clear HW hH5 ht5 hsw hs5
      go_wp2_with fail
      go_roundw
      case rel => exact ⟨k + 1, More F wr w5, by omega, by omega, by go_num, hO5, HS5.out, hFW5, hWl5⟩
      case measure => simp [intOf]; omega
    · have HC := Lib.hid (K.crash G (.slice Ak keep.length capk) keep hO.real (HK.out.below hO.bel hG) (fun b h => Nat.lt_of_lt_of_le (hG b h) hO.bel.size) (fun b h g => by have := hG b h; have := hO.new b g; omega))
      have htorn := D.torn ⟨d1.secs, tornRow (bs.take k)⟩ 2 keep (by show 2 < d1.secs.length; omega)
      have hread : d1.read 2 = d1.secs[2]'(by omega) := by
        rw [D.Dk.read, hdr, D.lastOf_nil, List.getD_eq_getElem?_getD, List.getElem?_eq_getElem (by omega)]; rfl
      have HTN : Hid ((D.Dk.crash ⟨d1.secs, tornRow (bs.take k)⟩ keep).read 2 = d1.read 2 ∨ ∃ j, ∃ hj : j < bs.length, j < k ∧ (D.Dk.crash ⟨d1.secs, tornRow (bs.take k)⟩ keep).read 2 = D.full bs[j]) := Lib.hid (by
        rcases htorn with h | ⟨x, hx, _, h⟩
        · exact Or.inl (by rw [hread]; exact h)
        · obtain ⟨y, hy, rfl⟩ := List.mem_map.1 hx
          obtain ⟨j, hj, rfl⟩ := List.getElem_of_mem hy
          rw [List.length_take] at hj
          exact Or.inr ⟨j, by omega, by omega, by rw [h, List.getElem_take]⟩)
      have hkend : k = 40 ∨ k = bs.length := by omega
      clear htorn hread
      by_cases hkl : k < bs.length
      all_goals
        go_wp2_with fail
        refine HC.out.mono ?_
        rintro e w5 ⟨rfl, hH5, ht5⟩
        have hO5 := hO.turn hH5 ht5
        have hs5 := hsw.keep (w' := w5) fun p hp => ht5.cell (hWl _ hp) (hFW _ hp)
        have hWl5 : ∀ b, FW b → b < w5.heap.size := fun b g => Nat.lt_of_lt_of_le (hWl b g) ht5.size
        have hcl : (D.Dk.crash ⟨d1.secs, tornRow (bs.take k)⟩ keep).secs.length = 8 := by rw [D.crash_len]; exact hdl
        have hcr : (D.Dk.crash ⟨d1.secs, tornRow (bs.take k)⟩ keep).row.length = 0 := rfl
        generalize D.Dk.crash ⟨d1.secs, tornRow (bs.take k)⟩ keep = d2 at *
        generalize More F wr w5 = F5 at *
        have HR := Lib.hid (K.read_at 2 hO5.real (by omega))
        clear HC hO hH5 ht5 hsw hFW hWl hrowl
        go_wp2_with fail
        refine HR.out.mono ?_
        rintro e w6 ⟨ac, cpc, rfl, hcpc, hlc, hsc, hb6⟩
        have hO6 := hO5.below K hb6
        have hcvc := conv_sg hsc
        have hcvw := conv_sg (hs5.below hb6 hWl5)
        rw [hlc] at hcvc
        rw [hlw] at hcvw
        have hsc := Lib.hid hsc
        have hCl : ∀ b, S.New w5 w6 b → b < w6.heap.size := fun b g => g.2
        generalize S.New w5 w6 = FC at *
        generalize d2.read 2 = rc at *
        generalize d1.read 2 = rw' at *
        clear HR hO5 hs5 hb6 hWl5
        go_wp2_with fail
        clear hcvc hcvw
        go_loopw [14, 15] (fun s i wr => ∃ (j : Nat) (o : Bool), j ≤ bs.length ∧ j ≤ 40 ∧ i = .int .i64 j ∧ s = .bool o ∧ Hid ((rc = rw' → o = true) ∧ ∀ m (hm : m < bs.length), m < j → rc = D.full bs[m] → o = true) ∧ One H w (.pointer (some pa)) d2 F5 wr ∧ SlB wr FC (.slice (some ac) rc.length cpc) rc ∧ (∀ b, FC b → b < wr.heap.size)) (fun _ i _ => 40 - (intOf i).toNat)
        case atStart => exact ⟨0, _, Nat.zero_le _, by omega, rfl, rfl, Lib.hid ⟨fun h => by rw [h]; simp, fun m _ hm => by omega⟩, hO6, hsc.out, hCl⟩
        case round =>
          clear hO6 hsc hCl
          obtain ⟨j, o, hj, hj40, rfl, rfl, HI, hO, hsc, hCl⟩ := hrel
          by_cases hlt2 : j < bs.length ∧ j < 40
          · obtain ⟨hlt2, hlt40⟩ := hlt2
            obtain ⟨a, cap2, e1, _, hga, h9, hsb⟩ := arrs_at (HB.out.below hO.bel hG) j hlt2
            cases e1
            have i2 : (0 : Int) ≤ (j : Int) := by omega
            have i3 : (j : Int) < (bs.length : Int) := by omega
            have HC2 : Hid (∀ w7, Below wr.heap.size wr.drew w7 → (convert 34 9 (.slice (some ac) 64 cpc)).run Try.prog w7 = .ok (.string ⟨rc.toArray⟩) w7) := Lib.hid (fun w7 hb7 => by
              have := conv_sg (hsc.drew.below hb7 hCl)
              rw [hlc] at this
              exact this)
            have hcv0 := HC2.out wr.drew (Below.refl _ _)
            have hcv1 : (convert 34 9 (.slice (some ac) 64 cpc)).run Try.prog wr = .ok (.string ⟨rc.toArray⟩) wr := by
              have := conv_sg hsc
              rw [hlc] at this
              exact this
            cases o with
            | true =>
              have HO7 := Lib.hid (hO.below K ((Below.refl _ _).drew))
              have HS7 := Lib.hid hsc.drew
              go_wp2_with fail
              go_region
              all_goals (try go_wp2)
              all_goals go_roundw
              case rel => exact ⟨j + 1, true, by omega, by omega, by go_num, rfl, Lib.hid ⟨fun _ => rfl, fun _ _ _ _ => rfl⟩, HO7.out, HS7.out, hCl⟩
              case measure => simp [intOf]; omega
            | false =>
              have HF := Lib.hid (full_any (.slice (some (a.add (j * 9))) 9 9) bs[j] wr.drew G (fun b h => Nat.lt_of_lt_of_le (hG b h) hO.bel.size) hsb (by omega))
              have HT7 : Hid (∀ w7, Below wr.heap.size wr.drew w7 → One H w (.pointer (some pa)) d2 F5 w7 ∧ SlB w7 FC (.slice (some ac) rc.length cpc) rc ∧ (∀ b, FC b → b < w7.heap.size)) := Lib.hid (fun w7 hb7 => ⟨hO.below K ((Below.refl _ _).drew.trans hb7), hsc.drew.below hb7 hCl, fun b h => Nat.lt_of_lt_of_le (hCl b h) hb7.size⟩)
              have HI2 : Hid (∀ q, q = D.full bs[j] → (rc = rw' → (rc == q) = true) ∧ ∀ m (hm : m < bs.length), m < j + 1 → rc = D.full bs[m] → (rc == q) = true) := Lib.hid (fun q hq => ⟨fun h => absurd (HI.out.1 h) (by decide), fun m hm hmj h => by
                by_cases e : m = j
                · subst e; rw [h, hq]; simp
                · exact absurd (HI.out.2 m hm (by omega) h) (by decide)⟩)
              obtain ⟨q, hq⟩ : ∃ q, q = D.full bs[j] := ⟨_, rfl⟩
              have HI3 := Lib.hid (HI2.out q hq)
              rw [← hq] at HF
              clear hq HI2 hsb
              go_wp2_with fail
              go_region_held3 (fun w' => (convert 34 9 (.slice (some ac) 64 cpc)).run Try.prog w' = .ok (.string ⟨rc.toArray⟩) w')
                (first | assumption | go_keep)
                (first
                  | (go_at_call 22
                     (with_reducible refine HF.out.mono ?_)
                     rintro e w7 ⟨rfl, hb7⟩
                     obtain ⟨hO7, hs7, hCl7⟩ := HT7.out w7 hb7
                     have hs7 := Lib.hid hs7
                     have hcv7 := HC2.out w7 hb7))
              all_goals (try go_wp2)
              all_goals go_roundw
              case rel => exact ⟨j + 1, _, by omega, by omega, by go_num, rfl, Lib.hid HI3.out, hO7, hs7.out, hCl7⟩
              case measure => simp [intOf]; omega
          · have ho : o = true := by
              rcases HTN.out with h | ⟨m, hm, hmk, h⟩
              · exact HI.out.1 h
              · exact HI.out.2 m hm (by omega) h
            subst ho
            have HP := Lib.hid (by have := K.pending hO.real; rw [hcr] at this; exact this)
            have hbO := hO.bel
            by_cases hjl : j < bs.length
            all_goals (try (exfalso; omega))
            all_goals
              go_wp2_with fail
              refine HP.out.mono ?_
              rintro e w8 ⟨rfl, hb8⟩
              have hbf := below_two hbO hb8
              go_wp2_with fail
              go_ret
              exact ⟨rfl, hbf⟩
end

end Go.Proofs.Ytbnoocjhlofnoaa
