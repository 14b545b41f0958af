/-
  Walks of the document's cells: Newest, Writes.
-/
import Derived.Test.YtpppjipelcfnkaaClRef6
namespace Go.Proofs.Ytpppjipelcfnkaa.Cl
def nw (p : Ky × Cn.Ch) : Ws := if lastV ByteArray.empty p.2 = ByteArray.empty then [] else [(p.1, lastV ByteArray.empty p.2)]
theorem newest_eq (X : Cs) : newest X = X.flatMap nw := rfl
theorem nw_succ {X : Cs} {n : Nat} (hn : n < X.length) : (X.take (n + 1)).flatMap nw = (X.take n).flatMap nw ++ nw X[n] := by
  rw [List.take_succ_eq_append_getElem hn, List.flatMap_append]
  simp
theorem lastV_succ {c : Cn.Ch} {m : Nat} (hm : m < c.length) : lastV ByteArray.empty (c.take (m + 1)) = if c[m].done = true then c[m].val else lastV ByteArray.empty (c.take m) := by
  unfold lastV
  rw [List.take_succ_eq_append_getElem hm, List.foldl_append]
  rfl
end Go.Proofs.Ytpppjipelcfnkaa.Cl

namespace Go.Proofs.Ytpppjipelcfnkaa
open Go.RowKit

set_option maxRecDepth 100000 in
set_option maxHeartbeats 8000000 in
theorem rnewest11_any {w : World} {F : Nat → Prop} {v : Value} {X : Cl.Cs} (h : Cls w F v X) (hF : ∀ b, F b → b < w.heap.size) (hl : X.length ≤ 1000) :
    Calls Try.prog 16 #[v] w fun e w' => ∃ wv, e = .returned wv ∧ S.Sg w' (S.New w w') 4 wv (Cl.newest X).length ((Cl.newest X).flatMap clW) ∧ Below w.heap.size w w' := by
  have HS := Lib.hid h
  obtain ⟨A, cap, rfl, hcap⟩ := Cls.form h
  have HTs0 := fun n (hn : n < X.length) => Cl.nw_succ hn
  have HTe0 : (X.take X.length).flatMap Cl.nw = Cl.newest X := by rw [List.take_length, Cl.newest_eq]
  clear h
  obtain ⟨T, hT⟩ : ∃ T : Nat → Cl.Ws, T = fun n => (X.take n).flatMap Cl.nw := ⟨_, rfl⟩
  have HTs : Hid (∀ n (hn : n < X.length), T (n + 1) = T n ++ Cl.nw (X[n].1, X[n].2)) := Lib.hid (by rw [hT]; exact HTs0)
  have HTe : Hid (T X.length = Cl.newest X) := Lib.hid (by rw [hT]; exact HTe0)
  have HTz : Hid (T 0 = []) := Lib.hid (by rw [hT]; rfl)
  clear hT HTs0 HTe0
  go_enter Try.func16, Try.ntmps16
  go_wp2
  go_loopw [3, 4] (fun r i wr => ∃ (n : Nat) (L : Cl.Ws), n ≤ X.length ∧ L.length ≤ n ∧ i = .int .i64 (n : Int) ∧ Hid (T n = L) ∧ Hid (wr.ownsRow w.heap.size 64 4 r L.length (L.flatMap clW)) ∧ Hid (Below w.heap.size w wr)) (fun _ i _ => X.length - (intOf i).toNat)
  case atStart => exact ⟨0, [], Nat.zero_le _, Nat.zero_le _, rfl, HTz, Lib.hid (S.own_nil ..), Lib.hid (Below.refl _ _)⟩
  case round =>
    obtain ⟨n, L, hn, hLn, rfl, HL, HO, HB⟩ := hrel
    obtain ⟨Ar, cr, rfl⟩ := own_slice HO.out
    by_cases hlt : n < X.length
    · have hlt' : (n : Int) < (X.length : Int) := by omega
      have hk0 : (0 : Int) ≤ (n : Int) := by omega
      obtain ⟨a, _, A', c', ea, _, hFa, y0, y1, y2, y3, hv⟩ := HS.out.nth n hlt
      cases ea
      have HV := Lib.hid hv
      have HCL : Hid (X[n].2.length ≤ 1000) := Lib.hid (HS.out.len hlt)
      have HT1 := Lib.hid (HTs.out n hlt)
      clear hv
      generalize X[n].1 = kk at *
      generalize X[n].2 = cc at *
      have HAd : Hid ((a.add (n * 4)).block < w.heap.size) := Lib.hid (by rw [S.add_block]; exact hF _ hFa)
      have HA4 : Hid (∀ w', Below w.heap.size w w' → w'.cell? (a.add (n * 4)) = some (.int .i64 kk.kind) ∧ w'.cell? ⟨(a.add (n * 4)).block, (a.add (n * 4)).off + 1, none⟩ = some (.int .i64 kk.a) ∧ w'.cell? ⟨(a.add (n * 4)).block, (a.add (n * 4)).off + 2, none⟩ = some (.int .i64 kk.b) ∧ w'.cell? ⟨(a.add (n * 4)).block, (a.add (n * 4)).off + 3, none⟩ = some (.slice A' cc.length c')) := Lib.hid (fun w' hb => four_keep hb HAd.out ⟨y0, y1, y2, y3⟩)
      have HLm := Lib.hid (fun m (hm : m < cc.length) => Cl.lastV_succ hm)
      clear hFa y0 y1 y2 y3
      go_wp2_with fail
      go_loopw [5, 6] (fun sv k wq => ∃ m : Nat, m ≤ cc.length ∧ sv = .string (Cl.lastV ByteArray.empty (cc.take m)) ∧ k = .int .i64 (m : Int) ∧ Hid (wq.ownsRow w.heap.size 64 4 (.slice Ar L.length cr) L.length (L.flatMap clW)) ∧ Hid (Below w.heap.size w wq)) (fun _ k _ => cc.length - (intOf k).toNat)
      case atStart => exact ⟨0, Nat.zero_le _, rfl, rfl, HO, HB⟩
      case round =>
        clear HO HB
        obtain ⟨m, hm, rfl, rfl, HO, HB⟩ := hrel
        obtain ⟨y0, y1, y2, y3⟩ := HA4.out _ HB.out
        by_cases hmt : m < cc.length
        · have hmt' : (m : Int) < (cc.length : Int) := by omega
          have hm0 : (0 : Int) ≤ (m : Int) := by omega
          obtain ⟨ad, _, ea, _, _, z0, z1, z2, z3⟩ := SlC.nth (S.Sg.below HV.out HB.out hF) m hmt
          cases ea
          have HX := Lib.hid (HLm.out m hmt)
          have HCL1 := HCL.out
          generalize cc[m] = u at *
          generalize Cl.lastV ByteArray.empty (cc.take m) = sv at *
          cases hd : u.done with
          | true =>
            rw [hd] at z3
            have HX1 : Hid (Cl.lastV ByteArray.empty (cc.take (m + 1)) = u.val) := Lib.hid (by rw [HX.out, if_pos hd])
            clear hd
            go_wp2_with fail
            go_roundw
            case rel => exact ⟨m + 1, by omega, by rw [HX1.out], by go_num, HO, HB⟩
            case measure => simp [intOf]; omega
          | false =>
            rw [hd] at z3
            have HX1 : Hid (Cl.lastV ByteArray.empty (cc.take (m + 1)) = sv) := Lib.hid (by rw [HX.out, if_neg (by rw [hd]; simp)])
            clear hd
            go_wp2_with fail
            go_roundw
            case rel => exact ⟨m + 1, by omega, by rw [HX1.out], by go_num, HO, HB⟩
            case measure => simp [intOf]; omega
        · obtain rfl : m = cc.length := by omega
          have hmt' : ¬ (cc.length : Int) < (cc.length : Int) := by omega
          have HN : Hid (Cl.nw (kk, cc) = if Cl.lastV ByteArray.empty cc = ByteArray.empty then [] else [(kk, Cl.lastV ByteArray.empty cc)]) := Lib.hid rfl
          rw [List.take_length]
          generalize Cl.lastV ByteArray.empty cc = sv at *
          by_cases he : sv = ByteArray.empty
          · have HT2 : Hid (T (n + 1) = L) := Lib.hid (by rw [HT1.out, HN.out, if_pos he, List.append_nil, HL.out])
            subst he
            have he' : (ByteArray.empty != ByteArray.mk #[]) = false := by decide
            go_wp2_with fail
            go_roundw
            case rel => exact ⟨n + 1, L, by omega, by omega, by go_num, HT2, HO, HB⟩
            case measure => simp [intOf]; omega
          · have HT2 : Hid (T (n + 1) = L ++ [(kk, sv)]) := Lib.hid (by rw [HT1.out, HN.out, if_neg he, HL.out])
            have he2 : sv.toList ≠ [] := fun e => he (by
              have h2 : sv.data.toList = [] := by rw [← ByteArray.toList_eq]; exact e
              have h3 : sv.data = #[] := by simpa using h2
              cases sv
              simp only at h3
              rw [h3]
              rfl)
            have he3 : (sv.toList == []) = false := by simpa using he2
            have he' : (sv.toList != []) = true := by simpa using he2
            go_wp2_with (at_builtin; refine S.wpList_append_sg elWr rfl _ _ rfl (base := w.heap.size) (n := L.length) (m := 1) (xs := L.flatMap clW) (cs := clW (kk, sv)) rfl rfl (HO.out.alloc _) (sg_row4 wr 64 #[.int .i64 kk.kind, .int .i64 kk.a, .int .i64 kk.b, .string sv] rfl) (four_oneW _) (by omega) (by omega) (Nat.le_trans HB.out.size (by simp)) ?_)
            intro v5 w5 hown5 hgrow5 _
            have hb5 := HB.out.trans (((Below.refl wr.heap.size wr).alloc (Nat.le_refl _) (.cells #[.int .i64 kk.kind, .int .i64 kk.a, .int .i64 kk.b, .string sv] 64)).mono HB.out.size)
            have HB5 := Lib.hid (hb5.trans (S.below_base (HO.out.alloc (.cells #[.int .i64 kk.kind, .int .i64 kk.a, .int .i64 kk.b, .string sv] 64)) hb5.size hgrow5))
            have HO5 : Hid (w5.ownsRow w.heap.size 64 4 v5 (L ++ [(kk, sv)]).length ((L ++ [(kk, sv)]).flatMap clW)) := Lib.hid (by
              rw [List.length_append, List.flatMap_append]
              simpa using hown5)
            clear hown5 hgrow5 hb5
            go_wp2_with fail
            go_roundw
            case rel => exact ⟨n + 1, _, by omega, by simp; omega, by go_num, HT2, HO5, HB5⟩
            case measure => simp [intOf]; omega
    · obtain rfl : n = X.length := by omega
      have hlt' : ¬ (X.length : Int) < (X.length : Int) := by omega
      go_wp2
      go_ret
      obtain rfl : L = Cl.newest X := HL.out.symm.trans HTe.out
      have hg := S.Sg.of_own HO.out
      exact ⟨_, rfl, hg.wider (fun b q => q), HB.out⟩

end Go.Proofs.Ytpppjipelcfnkaa
