/-
  Walks of the document's cells: Set.
  Walks of the document's cells: Set.
  Walks of the document's cells: Read, Write.
-/
import Derived.Test.YtmlocdfjjgbnjaaClRef1
namespace Go.Proofs.Ytmlocdfjjgbnjaa.Cl

theorem tw_stop {X : Cs} {k : Ky} {n : Nat} (h : ∀ j (hj : j < X.length), j < n → ahead k X[j] = true) (hn : n ≤ X.length) (hs : ∀ (hj : n < X.length), ahead k X[n] = false) : X.takeWhile (ahead k) = X.take n ∧ X.dropWhile (ahead k) = X.drop n := by
  have ht : ∀ p ∈ X.take n, ahead k p = true := fun p hp => by
    obtain ⟨j, hj, rfl⟩ := List.getElem_of_mem hp
    have hj' : j < n := by simp at hj; omega
    rw [List.getElem_take]
    exact h j (by omega) hj'
  have e1 : X.takeWhile (ahead k) = X.take n ++ (X.drop n).takeWhile (ahead k) := by
    conv => lhs; rw [← List.take_append_drop n X]
    exact List.takeWhile_append_of_pos ht
  have e2 : X.dropWhile (ahead k) = (X.drop n).dropWhile (ahead k) := by
    conv => lhs; rw [← List.take_append_drop n X]
    exact List.dropWhile_append_of_pos ht
  rw [e1, e2]
  by_cases hl : n < X.length
  · rw [List.drop_eq_getElem_cons hl, List.takeWhile_cons, List.dropWhile_cons, if_neg (by rw [hs hl]; simp), if_neg (by rw [hs hl]; simp), List.append_nil]
    exact ⟨rfl, rfl⟩
  · rw [List.drop_of_length_le (by omega)]
    exact ⟨by simp, rfl⟩
end Go.Proofs.Ytmlocdfjjgbnjaa.Cl

namespace Go.Proofs.Ytmlocdfjjgbnjaa
open Go.RowKit

/-- the four cells of a key and a chain's slice -/
def clC (p : Cl.Ky × Value) : List Value := [.int .i64 p.1.kind, .int .i64 p.1.a, .int .i64 p.1.b, p.2]
theorem elCl : S.El Try.prog 55 64 4 48 := by
  obtain ⟨i0, hi, hz0, hz1, hz2⟩ := info_parts (show (Try.prog.info? 64).map (fun i => (i.zero, i.size, i.bytes)) = some (some (.agg #[.int .i64 0, .int .i64 0, .int .i64 0, .slice none 0 0]), 4, 48) by kernel_rfl)
  exact ⟨Try.underlying55, ⟨i0, _, hi, hz0, hz1, hz2, rfl⟩, by decide⟩
theorem four_one11 (k : Cl.Ky) (A : Option Addr) (n c : Nat) : ∀ x ∈ clC (k, .slice A n c), x.oneCell' = true := by
  intro u hu
  simp only [clC, List.mem_cons, List.not_mem_nil, or_false] at hu
  rcases hu with rfl | rfl | rfl | rfl <;> rfl

theorem SlC.back {w w' : World} {F : Nat → Prop} {v : Value} {c : Cn.Ch} (h : SlC w' F v c) (hb : Below w.heap.size w w') (hF : ∀ b, F b → b < w.heap.size) : SlC w F v c := S.Sg.keep h (fun _ hp => (hb.cell (hF _ hp)).symm)

/-- cells on their way: a row of one's own, whose chains lay there ahead -/
structure Rw11 (w wr : World) (r : Value) (ps : List (Cl.Ky × Value)) (L : Cl.Cs) (F : Nat → Prop) : Prop where
  row : wr.ownsRow w.heap.size 64 4 r L.length (ps.flatMap clC)
  low : Below w.heap.size w wr
  len : ps.length = L.length
  is : ∀ i (h : i < L.length) (h' : i < ps.length), ps[i].1 = L[i].1 ∧ SlC w F ps[i].2 L[i].2 ∧ L[i].2.length ≤ 1000

section
variable {w wr w2 : World} {r r' : Value} {ps : List (Cl.Ky × Value)} {L : Cl.Cs} {F : Nat → Prop} {p : Cl.Ky × Value}
theorem Rw11.start (w : World) (F : Nat → Prop) : Rw11 w w (.slice none 0 0) [] [] F := ⟨S.own_nil .., Below.refl _ _, rfl, fun _ h => absurd h (Nat.not_lt_zero _)⟩
theorem Rw11.below (h : Rw11 w wr r ps L F) (hb : Below wr.heap.size wr w2) : Rw11 w w2 r ps L F := ⟨S.own_below h.row hb, below_two h.low hb, h.len, h.is⟩
/-- one more -/
theorem Rw11.push (h : Rw11 w wr r ps L F) (hown : w2.ownsRow w.heap.size 64 4 r' (L.length + 1) (ps.flatMap clC ++ clC p)) (hlow : Below w.heap.size w w2) {c : Cn.Ch} (hc : SlC w F p.2 c) (hcl : c.length ≤ 1000) : Rw11 w w2 r' (ps ++ [p]) (L ++ [(p.1, c)]) F where
  row := by
    rw [List.length_append, List.flatMap_append]
    simpa using hown
  low := hlow
  len := by simp [h.len]
  is := fun i hi h' => by
    have hl := h.len
    by_cases hi2 : i < L.length
    · rw [List.getElem_append_left (by omega), List.getElem_append_left hi2]
      exact h.is i hi2 (by omega)
    · have ei : i = L.length := by simp at hi; omega
      subst ei
      have e1 : (ps ++ [p])[L.length] = p := by rw [List.getElem_append_right (by omega)]; simp [hl]
      have e2 : (L ++ [(p.1, c)])[L.length] = (p.1, c) := by rw [List.getElem_append_right (by omega)]; simp
      rw [e1, e2]
      exact ⟨rfl, hc, hcl⟩
/-- at the end -/
theorem Rw11.fin (h : Rw11 w wr r ps L F) (hF : ∀ b, F b → b < w.heap.size) : Cls wr (fun b => F b ∨ S.New w wr b) r L := by
  have hs := S.Sg.of_own h.row
  obtain ⟨hl, A, cap, e, hc, hx⟩ := hs
  refine ⟨A, cap, e, hc, fun p hp => ?_, fun hn => ?_⟩
  · obtain ⟨i, hi, rfl⟩ := List.getElem_of_mem hp
    exact (h.is i hi (by rw [h.len]; exact hi)).2.2
  · obtain ⟨a, e2, hF2, hx⟩ := hx (fun e0 => hn (List.length_eq_zero_iff.1 e0))
    refine ⟨a, e2, Or.inr hF2, fun i hi => ?_⟩
    have hi' : i < ps.length := by rw [h.len]; exact hi
    obtain ⟨k1, k2, _⟩ := h.is i hi hi'
    have q (j : Nat) (hj : j < 4) : wr.cell? (a.add (i * 4 + j)) = (clC ps[i])[j]? := by
      have := V.flat_at (f := clC) (m := 4) ps (fun _ _ => rfl) i hi' j hj
      rw [← this]
      have hl2 : i * 4 + j < (ps.flatMap clC).length := by rw [hl]; omega
      rw [hx (i * 4 + j) _ (List.getElem?_eq_getElem hl2)]
      exact (List.getElem?_eq_getElem hl2).symm
    refine ⟨ps[i].2, ?_, ?_, ?_, q 3 (by decide), (k2.below h.low hF).wider (fun b q => Or.inl q)⟩
    · rw [← k1]; exact q 0 (by decide)
    · rw [← k1]; exact q 1 (by decide)
    · rw [← k1]; exact q 2 (by decide)
end

end Go.Proofs.Ytmlocdfjjgbnjaa

namespace Go.Proofs.Ytmlocdfjjgbnjaa.Cl
theorem mid_succ {X : Cs} {n i : Nat} (h1 : n ≤ i) (h2 : i < X.length) : (X.drop n).take (i + 1 - n) = (X.drop n).take (i - n) ++ [X[i]] := by
  rw [show i + 1 - n = (i - n) + 1 by omega, List.take_succ_eq_append_getElem (by simp; omega), List.getElem_drop]
  congr 3
  omega
def upto (X : Cs) (k : Ky) (c : Cn.Ch) (n i : Nat) : Cs := X.take n ++ (one k c ++ ((X.drop n).take (i - n)).filter (other k))
theorem upto_start (X : Cs) (k : Ky) (c : Cn.Ch) (n : Nat) : upto X k c n n = X.take n ++ one k c := by unfold upto; simp
theorem upto_succ {X : Cs} {k : Ky} {c : Cn.Ch} {n i : Nat} (h1 : n ≤ i) (h2 : i < X.length) : upto X k c n (i + 1) = upto X k c n i ++ (if other k X[i] = true then [X[i]] else []) := by
  unfold upto
  rw [mid_succ h1 h2, List.filter_append, List.append_assoc, List.append_assoc]
  congr 3
  by_cases h : other k X[i] = true
  · rw [if_pos h]; simp [h]
  · rw [if_neg h]; simp [h]
theorem upto_end {X : Cs} {k : Ky} {c : Cn.Ch} {n : Nat} (h : X.takeWhile (ahead k) = X.take n ∧ X.dropWhile (ahead k) = X.drop n) : upto X k c n X.length = setX X k c := by
  have e : (X.drop n).take (X.length - n) = X.drop n := List.take_of_length_le (by simp)
  unfold upto setX
  rw [h.1, h.2, e]
theorem upto_len (X : Cs) (k : Ky) (c : Cn.Ch) (n i : Nat) : (upto X k c n i).length ≤ X.length + 1 + X.length := by
  unfold upto one
  have h1 : (((X.drop n).take (i - n)).filter (other k)).length ≤ X.length := Nat.le_trans (List.length_filter_le ..) (by simp; omega)
  have h2 : (X.take n).length ≤ X.length := by simp; omega
  split
  · simp only [List.length_append, List.length_cons, List.length_nil]; omega
  · simp only [List.length_append, List.length_nil]; omega
end Go.Proofs.Ytmlocdfjjgbnjaa.Cl

namespace Go.Proofs.Ytmlocdfjjgbnjaa
open Go.RowKit

set_option maxRecDepth 100000 in
set_option maxHeartbeats 16000000 in
theorem rset11_any {w : World} {F : Nat → Prop} {v vc : Value} {X : Cl.Cs} {c : Cn.Ch} (h : Cls w F v X) (hc : SlC w F vc c) (hF : ∀ b, F b → b < w.heap.size) (hl : X.length ≤ 1000) (hcl : c.length ≤ 1000) (k : Cl.Ky) :
    Calls Try.prog 44 #[v, keyA k, vc] w fun e w' => ∃ v', e = .returned v' ∧ Cls w' (fun b => F b ∨ S.New w w' b) v' (Cl.setX X k c) ∧ Below w.heap.size w w' := by
  obtain ⟨A, cap, rfl, hcap⟩ := Cls.form h
  obtain ⟨Ac, capc, rfl, _⟩ := SlC.form hc
  have hb1 : Below w.heap.size w (w.alloc (.cells #[.int .i64 k.kind, .int .i64 k.a, .int .i64 k.b] 50)) := (Below.refl _ _).alloc (Nat.le_refl _) _
  have HP := Lib.hid (Bk.new w [.int .i64 k.kind, .int .i64 k.a, .int .i64 k.b] 50 rfl)
  have HB1 := Lib.hid hb1
  have HS := Lib.hid (h.below hb1 hF)
  have HC := Lib.hid (hc.below hb1 hF)
  have hF1 : ∀ b, F b → b < (w.alloc (.cells #[.int .i64 k.kind, .int .i64 k.a, .int .i64 k.b] 50)).heap.size := fun b q => Nat.lt_of_lt_of_le (hF b q) hb1.size
  have HPlt : Hid (w.heap.size < (w.alloc (.cells #[.int .i64 k.kind, .int .i64 k.a, .int .i64 k.b] 50)).heap.size) := Lib.hid (by simp)
  have HCl : Hid (c.length ≤ 1000) := Lib.hid hcl
  clear h hc hb1
  unfold keyA
  go_enter Try.func44, Try.ntmps44
  go_wp2
  generalize (w.alloc (.cells #[.int .i64 k.kind, .int .i64 k.a, .int .i64 k.b] 50)) = w1 at *
  obtain ⟨P, hP⟩ : ∃ P, P = w.heap.size := ⟨_, rfl⟩
  rw [← hP] at HP HPlt ⊢
  have HPe := Lib.hid hP
  clear hP
  go_loopw [7, 8] (fun r i wr => ∃ (n : Nat) (ps : List (Cl.Ky × Value)), n ≤ X.length ∧ i = .int .i64 (n : Int) ∧ Hid (Rw11 w1 wr r ps (X.take n) F) ∧ Hid (∀ j (hj : j < X.length), j < n → Cl.ahead k X[j] = true)) (fun _ i _ => X.length - (intOf i).toNat)
  case atStart => exact ⟨0, [], Nat.zero_le _, rfl, Lib.hid (Rw11.start w1 F), Lib.hid (fun j _ h => absurd h (Nat.not_lt_zero _))⟩
  case round =>
    obtain ⟨n, ps, hn, rfl, HR, HI⟩ := hrel
    obtain ⟨Ar, cr, rfl⟩ := own_slice HR.out.row
    have hnl : (X.take n).length = n := by simp; omega
    rw [hnl]
    by_cases hlt : n < X.length
    · have hlt' : (n : Int) < (X.length : Int) := by omega
      have hd' : decide ((n : Int) < (X.length : Int)) = true := decide_eq_true hlt'
      have hk0 : (0 : Int) ≤ (n : Int) := by omega
      obtain ⟨a, _, A', c', ea, _, hFa, y0, y1, y2, y3, hv⟩ := (HS.out.below HR.out.low hF1).nth n hlt
      cases ea
      have HCL : Hid (X[n].2.length ≤ 1000) := Lib.hid (HS.out.len hlt)
      have HV : Hid (SlC w1 F (.slice A' X[n].2.length c') X[n].2) := Lib.hid (hv.back HR.out.low hF1)
      have HTk : Hid (X.take (n + 1) = X.take n ++ [X[n]]) := Lib.hid (List.take_succ_eq_append_getElem hlt)
      have HI2 : Hid (Cl.ahead k X[n] = true → ∀ j (hj : j < X.length), j < n + 1 → Cl.ahead k X[j] = true) := Lib.hid (fun ha j hj hjn => by
        by_cases e : j = n
        · subst e; exact ha
        · exact HI.out j hj (by omega))
      have HI3 : Hid (Cl.ahead k X[n] = false → X.takeWhile (Cl.ahead k) = X.take n ∧ X.dropWhile (Cl.ahead k) = X.drop n) := Lib.hid (fun ha => Cl.tw_stop HI.out hn (fun _ => ha))
      have had : (a.add (n * 4)).block < w1.heap.size := by rw [S.add_block]; exact hF1 _ hFa
      have HAd := Lib.hid had
      have HY := Lib.hid (And.intro y0 (And.intro y1 (And.intro y2 y3)))
      have HL : Hid (∀ w', (w'.cell? ⟨P, 0, none⟩ = some (.int .i64 k.kind) ∧ w'.cell? ⟨P, 1, none⟩ = some (.int .i64 k.a) ∧ w'.cell? ⟨P, 2, none⟩ = some (.int .i64 k.b) ∧ w'.cell? (a.add (n * 4)) = some (.int .i64 X[n].1.kind) ∧ w'.cell? ⟨(a.add (n * 4)).block, (a.add (n * 4)).off + 1, none⟩ = some (.int .i64 X[n].1.a) ∧ w'.cell? ⟨(a.add (n * 4)).block, (a.add (n * 4)).off + 2, none⟩ = some (.int .i64 X[n].1.b) ∧ Below wr.heap.size wr w') →
          Calls Try.prog 28 #[.agg #[.int .i64 X[n].1.kind, .int .i64 X[n].1.a, .int .i64 X[n].1.b], .agg #[.int .i64 k.kind, .int .i64 k.a, .int .i64 k.b]] w' fun e w'' => e = .returned (.bool (Cl.ahead k X[n])) ∧ (w''.cell? ⟨P, 0, none⟩ = some (.int .i64 k.kind) ∧ w''.cell? ⟨P, 1, none⟩ = some (.int .i64 k.a) ∧ w''.cell? ⟨P, 2, none⟩ = some (.int .i64 k.b) ∧ w''.cell? (a.add (n * 4)) = some (.int .i64 X[n].1.kind) ∧ w''.cell? ⟨(a.add (n * 4)).block, (a.add (n * 4)).off + 1, none⟩ = some (.int .i64 X[n].1.a) ∧ w''.cell? ⟨(a.add (n * 4)).block, (a.add (n * 4)).off + 2, none⟩ = some (.int .i64 X[n].1.b) ∧ Below wr.heap.size wr w'')) := Lib.hid (fun w' hS => (rless11_any X[n].1 k w').mono (fun _ _ hh => by
        obtain ⟨rfl, hb⟩ := hh
        have hb2 := below_two hS.2.2.2.2.2.2 hb
        have hp := (HP.out.below HR.out.low HPlt.out).step hb2
        obtain ⟨q0, q1, q2, _⟩ := four_keep hb2 (Nat.lt_of_lt_of_le HAd.out HR.out.low.size) HY.out
        exact ⟨rfl, hp.cell 0 _ rfl, hp.cell 1 _ rfl, hp.cell 2 _ rfl, q0, q1, q2, hb2⟩))
      have hPr := HP.out.below HR.out.low HPlt.out
      have HSd : Hid (wr.drew.cell? ⟨P, 0, none⟩ = some (.int .i64 k.kind) ∧ wr.drew.cell? ⟨P, 1, none⟩ = some (.int .i64 k.a) ∧ wr.drew.cell? ⟨P, 2, none⟩ = some (.int .i64 k.b) ∧ wr.drew.cell? (a.add (n * 4)) = some (.int .i64 X[n].1.kind) ∧ wr.drew.cell? ⟨(a.add (n * 4)).block, (a.add (n * 4)).off + 1, none⟩ = some (.int .i64 X[n].1.a) ∧ wr.drew.cell? ⟨(a.add (n * 4)).block, (a.add (n * 4)).off + 2, none⟩ = some (.int .i64 X[n].1.b) ∧ Below wr.heap.size wr wr.drew) := Lib.hid ⟨hPr.cell 0 _ rfl, hPr.cell 1 _ rfl, hPr.cell 2 _ rfl, y0, y1, y2, Below.drew (Below.refl _ _)⟩
      clear y0 y1 y2 y3 hv had hFa hPr
      obtain ⟨kk, hkk⟩ : ∃ kk, kk = X[n].1 := ⟨_, rfl⟩
      obtain ⟨cc, hcc⟩ : ∃ cc, cc = X[n].2 := ⟨_, rfl⟩
      have HE : Hid (X[n] = (kk, cc)) := Lib.hid (by rw [hkk, hcc])
      rw [← hkk] at HL HSd HY
      rw [← hcc] at HY HV HCL
      rw [HE.out] at HTk HI2 HI3 HL
      clear hkk hcc
      cases hah : Cl.ahead k (kk, cc) with
      | true =>
        rw [hah] at HL
        have HI4 := Lib.hid (HI2.out hah)
        clear hah HI2 HI3
        go_wp2_with fail
        go_region_held3 (fun w' => w'.cell? ⟨P, 0, none⟩ = some (.int .i64 k.kind) ∧ w'.cell? ⟨P, 1, none⟩ = some (.int .i64 k.a) ∧ w'.cell? ⟨P, 2, none⟩ = some (.int .i64 k.b) ∧ w'.cell? (a.add (n * 4)) = some (.int .i64 kk.kind) ∧ w'.cell? ⟨(a.add (n * 4)).block, (a.add (n * 4)).off + 1, none⟩ = some (.int .i64 kk.a) ∧ w'.cell? ⟨(a.add (n * 4)).block, (a.add (n * 4)).off + 2, none⟩ = some (.int .i64 kk.b) ∧ Below wr.heap.size wr w')
          (first | with_reducible exact HSd.out | with_reducible assumption)
          (first
            | (go_at_call 28
               with_reducible refine (HL.out _ (by assumption)).mono ?_
               rintro ea wa ⟨rfl, hSa⟩))
        have hbr := hSa.2.2.2.2.2.2
        obtain ⟨y0, y1, y2, y3⟩ := four_keep hbr (Nat.lt_of_lt_of_le HAd.out HR.out.low.size) HY.out
        have HRa := Lib.hid (HR.out.below hbr)
        have HOa : Hid (wa.ownsRow w1.heap.size 64 4 (.slice Ar n cr) n (ps.flatMap clC)) := Lib.hid (by have := HRa.out.row; rw [hnl] at this; exact this)
        clear hSa hbr HSd HL
        go_wp2_with (at_builtin; refine S.wpList_append_sg elCl rfl _ _ rfl (base := w1.heap.size) (n := n) (m := 1) (xs := ps.flatMap clC) (cs := clC (kk, .slice A' cc.length c')) rfl rfl (HOa.out.alloc _) (sg_row4 wa 64 #[.int .i64 kk.kind, .int .i64 kk.a, .int .i64 kk.b, .slice A' cc.length c'] rfl) (four_one11 _ _ _ _) (by omega) (by omega) (Nat.le_trans HRa.out.low.size (by simp)) ?_)
        intro v5 w5 hown5 hgrow5 _
        have hb5 := HRa.out.low.trans (((Below.refl wa.heap.size wa).alloc (Nat.le_refl _) (.cells #[.int .i64 kk.kind, .int .i64 kk.a, .int .i64 kk.b, .slice A' cc.length c'] 64)).mono HRa.out.low.size)
        have hb5 := hb5.trans (S.below_base (HOa.out.alloc _) hb5.size hgrow5)
        have HR5 : Hid (Rw11 w1 w5 v5 (ps ++ [(kk, .slice A' cc.length c')]) (X.take (n + 1)) F) := Lib.hid (by
          rw [HTk.out]
          exact HRa.out.push (p := (kk, .slice A' cc.length c')) (by rw [hnl]; exact hown5) hb5 HV.out HCL.out)
        clear hown5 hgrow5 hb5 y0 y1 y2 y3
        go_wp2_with fail
        go_roundw
        case rel => exact ⟨n + 1, _, by omega, by go_num, HR5, HI4⟩
        case measure => simp [intOf]; omega
      | false =>
        rw [hah] at HL
        have HTw := Lib.hid (HI3.out hah)
        clear hah HI2 HI3
        go_wp2_with fail
        go_region_held3 (fun w' => w'.cell? ⟨P, 0, none⟩ = some (.int .i64 k.kind) ∧ w'.cell? ⟨P, 1, none⟩ = some (.int .i64 k.a) ∧ w'.cell? ⟨P, 2, none⟩ = some (.int .i64 k.b) ∧ w'.cell? (a.add (n * 4)) = some (.int .i64 kk.kind) ∧ w'.cell? ⟨(a.add (n * 4)).block, (a.add (n * 4)).off + 1, none⟩ = some (.int .i64 kk.a) ∧ w'.cell? ⟨(a.add (n * 4)).block, (a.add (n * 4)).off + 2, none⟩ = some (.int .i64 kk.b) ∧ Below wr.heap.size wr w')
          (first | with_reducible exact HSd.out | with_reducible assumption)
          (first
            | (go_at_call 28
               with_reducible refine (HL.out _ (by assumption)).mono ?_
               rintro ea wa ⟨rfl, hSa⟩))
        have HRa := Lib.hid (HR.out.below hSa.2.2.2.2.2.2)
        clear hSa HSd HL HR HY HV HTk HE HCL HAd HI
        have HM : Hid (∀ W, Below w1.heap.size w1 W → Calls Try.prog 18 #[.slice Ac c.length capc] W fun e w' => e = .returned (.bool (Cn.mayB c)) ∧ Still W w') := Lib.hid (fun W hW => rmay10_any (HC.out.below hW hF1) (by have := HCl.out; omega))
        have HOa : Hid (wa.ownsRow w1.heap.size 64 4 (.slice Ar n cr) n (ps.flatMap clC)) := Lib.hid (by have := HRa.out.row; rw [hnl] at this; exact this)
        cases hmb : Cn.mayB c with
        | true =>
          rw [hmb] at HM
          have HU : Hid (Cl.upto X k c n n = X.take n ++ [(k, c)]) := Lib.hid (by rw [Cl.upto_start]; unfold Cl.one; rw [if_pos hmb])
          clear hmb
          go_wp2_with (first
            | (go_at_call 18; refine (HM.out _ HRa.out.low).mono ?_; rintro e wb ⟨rfl, hsb⟩; have HBb := Lib.hid hsb.low; have hPb := HP.out.below (HRa.out.low.trans (hsb.low.mono HRa.out.low.size)) HPlt.out; have p0 := hPb.cell 0 _ rfl; have p1 := hPb.cell 1 _ rfl; have p2 := hPb.cell 2 _ rfl; have HOb := Lib.hid (S.own_below HOa.out hsb.low); have HRb := Lib.hid (HRa.out.below hsb.low); clear hPb hsb)
            | (at_builtin; refine S.wpList_append_sg elCl rfl _ _ rfl (base := w1.heap.size) (n := n) (m := 1) (xs := ps.flatMap clC) (cs := clC (k, .slice Ac c.length capc)) rfl rfl (HOb.out.alloc _) (sg_row4 wb 64 #[.int .i64 k.kind, .int .i64 k.a, .int .i64 k.b, .slice Ac c.length capc] rfl) (four_one11 _ _ _ _) (by omega) (by omega) (Nat.le_trans HRb.out.low.size (by simp)) ?_))
          intro v5 w5 hown5 hgrow5 _
          have hb5 := HRb.out.low.trans (((Below.refl wb.heap.size wb).alloc (Nat.le_refl _) (.cells #[.int .i64 k.kind, .int .i64 k.a, .int .i64 k.b, .slice Ac c.length capc] 64)).mono HRb.out.low.size)
          have hb5 := hb5.trans (S.below_base (HOb.out.alloc _) hb5.size hgrow5)
          have HR5 : Hid (Rw11 w1 w5 v5 (ps ++ [(k, .slice Ac c.length capc)]) (Cl.upto X k c n n) F) := Lib.hid (by
            rw [HU.out]
            exact HRb.out.push (p := (k, .slice Ac c.length capc)) (by rw [hnl]; exact hown5) hb5 HC.out HCl.out)
          clear hown5 hgrow5 hb5 p0 p1 p2 HOb HRb HBb HRa HOa HM
          go_wp2_with fail
          go_loopw [7, 9] (fun r i wr => ∃ (m : Nat) (ps : List (Cl.Ky × Value)), n ≤ m ∧ m ≤ X.length ∧ i = .int .i64 (m : Int) ∧ Hid (Rw11 w1 wr r ps (Cl.upto X k c n m) F)) (fun _ i _ => X.length - (intOf i).toNat)
          case atStart => exact ⟨n, _, Nat.le_refl _, hn, rfl, HR5⟩
          case round =>
            clear HR5
            obtain ⟨m, qs, hnm, hm, rfl, HQ⟩ := hrel
            obtain ⟨Aq, cq, rfl⟩ := own_slice HQ.out.row
            have hul := Cl.upto_len X k c n m
            by_cases hml : m < X.length
            · have hml' : (m : Int) < (X.length : Int) := by omega
              have hm0 : (0 : Int) ≤ (m : Int) := by omega
              obtain ⟨az, _, Az, cz, ez, _, hFz, y0, y1, y2, y3, hv⟩ := (HS.out.below HQ.out.low hF1).nth m hml
              cases ez
              have HCLz : Hid (X[m].2.length ≤ 1000) := Lib.hid (HS.out.len hml)
              have HVz : Hid (SlC w1 F (.slice Az X[m].2.length cz) X[m].2) := Lib.hid (hv.back HQ.out.low hF1)
              have HUs := Lib.hid (Cl.upto_succ (k := k) (c := c) hnm hml)
              have hPq := HP.out.below HQ.out.low HPlt.out
              have p0 := hPq.cell 0 _ rfl
              have p1 := hPq.cell 1 _ rfl
              have p2 := hPq.cell 2 _ rfl
              have hadz : (a.add (m * 4)).block < w1.heap.size := by rw [S.add_block]; exact hF1 _ hFz
              have HYz := Lib.hid (And.intro y0 (And.intro y1 (And.intro y2 y3)))
              have HAz := Lib.hid hadz
              have Q := neqK X[m].1 k
              obtain ⟨kz, hkz⟩ : ∃ kz, kz = X[m].1 := ⟨_, rfl⟩
              obtain ⟨cc2, hcc⟩ : ∃ cc2, cc2 = X[m].2 := ⟨_, rfl⟩
              have HEz : Hid (X[m] = (kz, cc2)) := Lib.hid (by rw [hkz, hcc])
              rw [← hkz] at HYz y0 y1 y2 Q
              rw [← hcc] at HYz HVz HCLz y3
              rw [HEz.out] at HUs
              clear hkz hcc hv hPq hFz hadz
              generalize hul2 : Cl.upto X k c n m = L at *
              have HUl := Lib.hid hul2
              clear hul2
              by_cases hsame : kz = k
              · have hq : Cl.same kz k = true := (Cl.same_iff _ _).2 hsame
                have HN : Hid (Cl.upto X k c n (m + 1) = L) := Lib.hid (by rw [HUs.out, if_neg (by unfold Cl.other; rw [hq]; simp), List.append_nil])
                clear hsame
                go_wp2_with fail
                go_quiet (fail)
                have HR9 : ∀ nz, Hid (Rw11 w1 (wr.drewN nz) (.slice Aq L.length cq) qs (Cl.upto X k c n (m + 1)) F) := fun nz => Lib.hid (by rw [HN.out]; exact HQ.out.below (still_b nz))
                go_wp2_with fail
                go_roundw
                case rel => exact ⟨m + 1, _, by omega, by omega, by go_num, HR9 _⟩
                case measure => simp [intOf]; omega
              · have hq : Cl.same kz k = false := Cl.same_no hsame
                have HN : Hid (Cl.upto X k c n (m + 1) = L ++ [(kz, cc2)]) := Lib.hid (by rw [HUs.out, if_pos (by unfold Cl.other; rw [hq]; rfl)])
                clear hsame
                go_wp2_with fail
                go_quiet (fail)
                have HB9 : ∀ nz, Below wr.heap.size wr (wr.drewN nz) := fun nz => still_b nz
                clear y0 y1 y2 y3 p0 p1 p2
                obtain ⟨w9, hw9, HB9'⟩ : ∃ w9, w9 = wr.drewN _ ∧ Hid (Below wr.heap.size wr w9) := ⟨_, rfl, Lib.hid (HB9 nq)⟩
                rw [← hw9]
                clear hw9 HB9
                obtain ⟨y0, y1, y2, y3⟩ := four_keep HB9'.out (Nat.lt_of_lt_of_le HAz.out HQ.out.low.size) HYz.out
                have HQ9 := Lib.hid (HQ.out.below HB9'.out)
                go_wp2_with (at_builtin; refine S.wpList_append_sg elCl rfl _ _ rfl (base := w1.heap.size) (n := L.length) (m := 1) (xs := qs.flatMap clC) (cs := clC (kz, .slice Az cc2.length cz)) rfl rfl (HQ9.out.row.alloc _) (sg_row4 w9 64 #[.int .i64 kz.kind, .int .i64 kz.a, .int .i64 kz.b, .slice Az cc2.length cz] rfl) (four_one11 _ _ _ _) (by omega) (by omega) (Nat.le_trans HQ9.out.low.size (by simp)) ?_)
                intro v7 w7 hown7 hgrow7 _
                have hb7 := HQ9.out.low.trans (((Below.refl w9.heap.size w9).alloc (Nat.le_refl _) (.cells #[.int .i64 kz.kind, .int .i64 kz.a, .int .i64 kz.b, .slice Az cc2.length cz] 64)).mono HQ9.out.low.size)
                have hb7 := hb7.trans (S.below_base (HQ9.out.row.alloc _) hb7.size hgrow7)
                have HR7 : Hid (Rw11 w1 w7 v7 (qs ++ [(kz, .slice Az cc2.length cz)]) (Cl.upto X k c n (m + 1)) F) := Lib.hid (by
                  rw [HN.out]
                  exact HQ9.out.push (p := (kz, .slice Az cc2.length cz)) hown7 hb7 HVz.out HCLz.out)
                clear hown7 hgrow7 hb7 y0 y1 y2 y3
                go_wp2_with fail
                go_roundw
                case rel => exact ⟨m + 1, _, by omega, by omega, by go_num, HR7⟩
                case measure => simp [intOf]; omega
            · obtain rfl : m = X.length := by omega
              have hml' : ¬ (X.length : Int) < (X.length : Int) := by omega
              have HFin := Lib.hid (Cl.upto_end (c := c) HTw.out)
              go_wp2
              go_ret
              have hb := HB1.out.trans (HQ.out.low.mono HB1.out.size)
              refine ⟨_, rfl, ?_, hb⟩
              have h9 := HQ.out.fin hF1
              rw [HFin.out] at h9
              rw [← HFin.out]
              exact (by rw [HFin.out]; exact h9.wider (fun b q => q.elim Or.inl (fun q => Or.inr ⟨Nat.le_trans (by rw [← HPe.out]; exact Nat.le_of_lt HPlt.out) q.1, q.2⟩)))
        | false =>
          rw [hmb] at HM
          have HU : Hid (Cl.upto X k c n n = X.take n) := Lib.hid (by rw [Cl.upto_start]; unfold Cl.one; rw [hmb, if_neg Bool.false_ne_true, List.append_nil])
          clear hmb
          go_wp2_with (first
            | (go_at_call 18; refine (HM.out _ HRa.out.low).mono ?_; rintro e w5 ⟨rfl, hsb⟩))
          have HR5 : Hid (Rw11 w1 w5 (.slice Ar n cr) ps (Cl.upto X k c n n) F) := Lib.hid (by
            rw [HU.out]
            have := HRa.out.below hsb.low
            rw [hnl] at this
            exact this)
          clear hsb HRa HOa HM
          go_loopw [7, 9] (fun r i wr => ∃ (m : Nat) (ps : List (Cl.Ky × Value)), n ≤ m ∧ m ≤ X.length ∧ i = .int .i64 (m : Int) ∧ Hid (Rw11 w1 wr r ps (Cl.upto X k c n m) F)) (fun _ i _ => X.length - (intOf i).toNat)
          case atStart => exact ⟨n, _, Nat.le_refl _, hn, rfl, HR5⟩
          case round =>
            clear HR5
            obtain ⟨m, qs, hnm, hm, rfl, HQ⟩ := hrel
            obtain ⟨Aq, cq, rfl⟩ := own_slice HQ.out.row
            have hul := Cl.upto_len X k c n m
            by_cases hml : m < X.length
            · have hml' : (m : Int) < (X.length : Int) := by omega
              have hm0 : (0 : Int) ≤ (m : Int) := by omega
              obtain ⟨az, _, Az, cz, ez, _, hFz, y0, y1, y2, y3, hv⟩ := (HS.out.below HQ.out.low hF1).nth m hml
              cases ez
              have HCLz : Hid (X[m].2.length ≤ 1000) := Lib.hid (HS.out.len hml)
              have HVz : Hid (SlC w1 F (.slice Az X[m].2.length cz) X[m].2) := Lib.hid (hv.back HQ.out.low hF1)
              have HUs := Lib.hid (Cl.upto_succ (k := k) (c := c) hnm hml)
              have hPq := HP.out.below HQ.out.low HPlt.out
              have p0 := hPq.cell 0 _ rfl
              have p1 := hPq.cell 1 _ rfl
              have p2 := hPq.cell 2 _ rfl
              have hadz : (a.add (m * 4)).block < w1.heap.size := by rw [S.add_block]; exact hF1 _ hFz
              have HYz := Lib.hid (And.intro y0 (And.intro y1 (And.intro y2 y3)))
              have HAz := Lib.hid hadz
              have Q := neqK X[m].1 k
              obtain ⟨kz, hkz⟩ : ∃ kz, kz = X[m].1 := ⟨_, rfl⟩
              obtain ⟨cc2, hcc⟩ : ∃ cc2, cc2 = X[m].2 := ⟨_, rfl⟩
              have HEz : Hid (X[m] = (kz, cc2)) := Lib.hid (by rw [hkz, hcc])
              rw [← hkz] at HYz y0 y1 y2 Q
              rw [← hcc] at HYz HVz HCLz y3
              rw [HEz.out] at HUs
              clear hkz hcc hv hPq hFz hadz
              generalize hul2 : Cl.upto X k c n m = L at *
              have HUl := Lib.hid hul2
              clear hul2
              by_cases hsame : kz = k
              · have hq : Cl.same kz k = true := (Cl.same_iff _ _).2 hsame
                have HN : Hid (Cl.upto X k c n (m + 1) = L) := Lib.hid (by rw [HUs.out, if_neg (by unfold Cl.other; rw [hq]; simp), List.append_nil])
                clear hsame
                go_wp2_with fail
                go_quiet (fail)
                have HR9 : ∀ nz, Hid (Rw11 w1 (wr.drewN nz) (.slice Aq L.length cq) qs (Cl.upto X k c n (m + 1)) F) := fun nz => Lib.hid (by rw [HN.out]; exact HQ.out.below (still_b nz))
                go_wp2_with fail
                go_roundw
                case rel => exact ⟨m + 1, _, by omega, by omega, by go_num, HR9 _⟩
                case measure => simp [intOf]; omega
              · have hq : Cl.same kz k = false := Cl.same_no hsame
                have HN : Hid (Cl.upto X k c n (m + 1) = L ++ [(kz, cc2)]) := Lib.hid (by rw [HUs.out, if_pos (by unfold Cl.other; rw [hq]; rfl)])
                clear hsame
                go_wp2_with fail
                go_quiet (fail)
                have HB9 : ∀ nz, Below wr.heap.size wr (wr.drewN nz) := fun nz => still_b nz
                clear y0 y1 y2 y3 p0 p1 p2
                obtain ⟨w9, hw9, HB9'⟩ : ∃ w9, w9 = wr.drewN _ ∧ Hid (Below wr.heap.size wr w9) := ⟨_, rfl, Lib.hid (HB9 nq)⟩
                rw [← hw9]
                clear hw9 HB9
                obtain ⟨y0, y1, y2, y3⟩ := four_keep HB9'.out (Nat.lt_of_lt_of_le HAz.out HQ.out.low.size) HYz.out
                have HQ9 := Lib.hid (HQ.out.below HB9'.out)
                go_wp2_with (at_builtin; refine S.wpList_append_sg elCl rfl _ _ rfl (base := w1.heap.size) (n := L.length) (m := 1) (xs := qs.flatMap clC) (cs := clC (kz, .slice Az cc2.length cz)) rfl rfl (HQ9.out.row.alloc _) (sg_row4 w9 64 #[.int .i64 kz.kind, .int .i64 kz.a, .int .i64 kz.b, .slice Az cc2.length cz] rfl) (four_one11 _ _ _ _) (by omega) (by omega) (Nat.le_trans HQ9.out.low.size (by simp)) ?_)
                intro v7 w7 hown7 hgrow7 _
                have hb7 := HQ9.out.low.trans (((Below.refl w9.heap.size w9).alloc (Nat.le_refl _) (.cells #[.int .i64 kz.kind, .int .i64 kz.a, .int .i64 kz.b, .slice Az cc2.length cz] 64)).mono HQ9.out.low.size)
                have hb7 := hb7.trans (S.below_base (HQ9.out.row.alloc _) hb7.size hgrow7)
                have HR7 : Hid (Rw11 w1 w7 v7 (qs ++ [(kz, .slice Az cc2.length cz)]) (Cl.upto X k c n (m + 1)) F) := Lib.hid (by
                  rw [HN.out]
                  exact HQ9.out.push (p := (kz, .slice Az cc2.length cz)) hown7 hb7 HVz.out HCLz.out)
                clear hown7 hgrow7 hb7 y0 y1 y2 y3
                go_wp2_with fail
                go_roundw
                case rel => exact ⟨m + 1, _, by omega, by omega, by go_num, HR7⟩
                case measure => simp [intOf]; omega
            · obtain rfl : m = X.length := by omega
              have hml' : ¬ (X.length : Int) < (X.length : Int) := by omega
              have HFin := Lib.hid (Cl.upto_end (c := c) HTw.out)
              go_wp2
              go_ret
              have hb := HB1.out.trans (HQ.out.low.mono HB1.out.size)
              refine ⟨_, rfl, ?_, hb⟩
              have h9 := HQ.out.fin hF1
              rw [HFin.out] at h9
              rw [← HFin.out]
              exact (by rw [HFin.out]; exact h9.wider (fun b q => q.elim Or.inl (fun q => Or.inr ⟨Nat.le_trans (by rw [← HPe.out]; exact Nat.le_of_lt HPlt.out) q.1, q.2⟩)))
    · have hlt' : ¬ (n : Int) < (X.length : Int) := by omega
      have hd' : decide ((n : Int) < (X.length : Int)) = false := decide_eq_false hlt'
      have HTw := Lib.hid (Cl.tw_stop HI.out hn (fun hj => absurd hj hlt))
      go_wp2_with fail
      go_quiet (fail)
      rename_i nq
      have HRa := Lib.hid (HR.out.below (still_b nq))
      clear HR HI
      generalize wr.drewN nq = wa at *
      clear nq
      have HM : Hid (∀ W, Below w1.heap.size w1 W → Calls Try.prog 18 #[.slice Ac c.length capc] W fun e w' => e = .returned (.bool (Cn.mayB c)) ∧ Still W w') := Lib.hid (fun W hW => rmay10_any (HC.out.below hW hF1) (by have := HCl.out; omega))
      have HOa : Hid (wa.ownsRow w1.heap.size 64 4 (.slice Ar n cr) n (ps.flatMap clC)) := Lib.hid (by have := HRa.out.row; rw [hnl] at this; exact this)
      cases hmb : Cn.mayB c with
      | true =>
        rw [hmb] at HM
        have HU : Hid (Cl.upto X k c n n = X.take n ++ [(k, c)]) := Lib.hid (by rw [Cl.upto_start]; unfold Cl.one; rw [if_pos hmb])
        clear hmb
        go_wp2_with (first
          | (go_at_call 18; refine (HM.out _ HRa.out.low).mono ?_; rintro e wb ⟨rfl, hsb⟩; have HBb := Lib.hid hsb.low; have hPb := HP.out.below (HRa.out.low.trans (hsb.low.mono HRa.out.low.size)) HPlt.out; have p0 := hPb.cell 0 _ rfl; have p1 := hPb.cell 1 _ rfl; have p2 := hPb.cell 2 _ rfl; have HOb := Lib.hid (S.own_below HOa.out hsb.low); have HRb := Lib.hid (HRa.out.below hsb.low); clear hPb hsb)
          | (at_builtin; refine S.wpList_append_sg elCl rfl _ _ rfl (base := w1.heap.size) (n := n) (m := 1) (xs := ps.flatMap clC) (cs := clC (k, .slice Ac c.length capc)) rfl rfl (HOb.out.alloc _) (sg_row4 wb 64 #[.int .i64 k.kind, .int .i64 k.a, .int .i64 k.b, .slice Ac c.length capc] rfl) (four_one11 _ _ _ _) (by omega) (by omega) (Nat.le_trans HRb.out.low.size (by simp)) ?_))
        intro v5 w5 hown5 hgrow5 _
        have hb5 := HRb.out.low.trans (((Below.refl wb.heap.size wb).alloc (Nat.le_refl _) (.cells #[.int .i64 k.kind, .int .i64 k.a, .int .i64 k.b, .slice Ac c.length capc] 64)).mono HRb.out.low.size)
        have hb5 := hb5.trans (S.below_base (HOb.out.alloc _) hb5.size hgrow5)
        have HR5 : Hid (Rw11 w1 w5 v5 (ps ++ [(k, .slice Ac c.length capc)]) (Cl.upto X k c n n) F) := Lib.hid (by
          rw [HU.out]
          exact HRb.out.push (p := (k, .slice Ac c.length capc)) (by rw [hnl]; exact hown5) hb5 HC.out HCl.out)
        clear hown5 hgrow5 hb5 p0 p1 p2 HOb HRb HBb HRa HOa HM
        go_wp2_with fail
        go_loopw [7, 9] (fun r i wr => ∃ (m : Nat) (ps : List (Cl.Ky × Value)), n ≤ m ∧ m ≤ X.length ∧ i = .int .i64 (m : Int) ∧ Hid (Rw11 w1 wr r ps (Cl.upto X k c n m) F)) (fun _ i _ => X.length - (intOf i).toNat)
        case atStart => exact ⟨n, _, Nat.le_refl _, hn, rfl, HR5⟩
        case round =>
          clear HR5
          obtain ⟨m, qs, hnm, hm, rfl, HQ⟩ := hrel
          obtain ⟨Aq, cq, rfl⟩ := own_slice HQ.out.row
          have hul := Cl.upto_len X k c n m
          by_cases hml : m < X.length
          · exfalso; omega
          · obtain rfl : m = X.length := by omega
            have hml' : ¬ (X.length : Int) < (X.length : Int) := by omega
            have HFin := Lib.hid (Cl.upto_end (c := c) HTw.out)
            go_wp2
            go_ret
            have hb := HB1.out.trans (HQ.out.low.mono HB1.out.size)
            refine ⟨_, rfl, ?_, hb⟩
            have h9 := HQ.out.fin hF1
            rw [HFin.out] at h9
            rw [← HFin.out]
            exact (by rw [HFin.out]; exact h9.wider (fun b q => q.elim Or.inl (fun q => Or.inr ⟨Nat.le_trans (by rw [← HPe.out]; exact Nat.le_of_lt HPlt.out) q.1, q.2⟩)))
      | false =>
        rw [hmb] at HM
        have HU : Hid (Cl.upto X k c n n = X.take n) := Lib.hid (by rw [Cl.upto_start]; unfold Cl.one; rw [hmb, if_neg Bool.false_ne_true, List.append_nil])
        clear hmb
        go_wp2_with (first
          | (go_at_call 18; refine (HM.out _ HRa.out.low).mono ?_; rintro e w5 ⟨rfl, hsb⟩))
        have HR5 : Hid (Rw11 w1 w5 (.slice Ar n cr) ps (Cl.upto X k c n n) F) := Lib.hid (by
          rw [HU.out]
          have := HRa.out.below hsb.low
          rw [hnl] at this
          exact this)
        clear hsb HRa HOa HM
        go_loopw [7, 9] (fun r i wr => ∃ (m : Nat) (ps : List (Cl.Ky × Value)), n ≤ m ∧ m ≤ X.length ∧ i = .int .i64 (m : Int) ∧ Hid (Rw11 w1 wr r ps (Cl.upto X k c n m) F)) (fun _ i _ => X.length - (intOf i).toNat)
        case atStart => exact ⟨n, _, Nat.le_refl _, hn, rfl, HR5⟩
        case round =>
          clear HR5
          obtain ⟨m, qs, hnm, hm, rfl, HQ⟩ := hrel
          obtain ⟨Aq, cq, rfl⟩ := own_slice HQ.out.row
          have hul := Cl.upto_len X k c n m
          by_cases hml : m < X.length
          · exfalso; omega
          · obtain rfl : m = X.length := by omega
            have hml' : ¬ (X.length : Int) < (X.length : Int) := by omega
            have HFin := Lib.hid (Cl.upto_end (c := c) HTw.out)
            go_wp2
            go_ret
            have hb := HB1.out.trans (HQ.out.low.mono HB1.out.size)
            refine ⟨_, rfl, ?_, hb⟩
            have h9 := HQ.out.fin hF1
            rw [HFin.out] at h9
            rw [← HFin.out]
            exact (by rw [HFin.out]; exact h9.wider (fun b q => q.elim Or.inl (fun q => Or.inr ⟨Nat.le_trans (by rw [← HPe.out]; exact Nat.le_of_lt HPlt.out) q.1, q.2⟩)))

end Go.Proofs.Ytmlocdfjjgbnjaa

namespace Go.Proofs.Ytmlocdfjjgbnjaa.Cl
theorem wlen (c : Cn.Ch) (ts : Int) (val : ByteArray) : (Cn.writeC c ts val).length ≤ c.length + 1 := by
  unfold Cn.writeC
  split
  · omega
  · split
    · omega
    · split
      · rw [List.length_set]; omega
      · simp only [List.length_append, List.length_take, List.length_cons, List.length_drop]
        omega
end Go.Proofs.Ytmlocdfjjgbnjaa.Cl

namespace Go.Proofs.Ytmlocdfjjgbnjaa
open Go.RowKit

end Go.Proofs.Ytmlocdfjjgbnjaa
