/-
  Walks of the document's cells: Commit.
-/
import Derived.Test.YtpppjipelcfnkaaClRef5
namespace Go.Proofs.Ytpppjipelcfnkaa.Cl
abbrev Ws := List (Ky × ByteArray)
def toldIn (k : Ky) (ts : Int) (c : Cn.Ch) : Ws := (c.filter (undone ts)).map (fun v => (k, v.val))
theorem told_succ {X : Cs} {ts : Int} {n : Nat} (hn : n < X.length) : (X.take (n + 1)).flatMap (tells ts) = (X.take n).flatMap (tells ts) ++ toldIn X[n].1 ts X[n].2 := by
  rw [List.take_succ_eq_append_getElem hn, List.flatMap_append]
  congr 1
  simp [tells, toldIn]
theorem toldIn_succ {k : Ky} {ts : Int} {c : Cn.Ch} {m : Nat} (hm : m < c.length) : toldIn k ts (c.take (m + 1)) = toldIn k ts (c.take m) ++ (if undone ts c[m] = true then [(k, c[m].val)] else []) := by
  unfold toldIn
  rw [List.take_succ_eq_append_getElem hm, List.filter_append, List.map_append]
  congr 1
  by_cases h : undone ts c[m] = true
  · rw [if_pos h]; simp [h]
  · rw [if_neg h]; simp [h]
end Go.Proofs.Ytpppjipelcfnkaa.Cl

namespace Go.Proofs.Ytpppjipelcfnkaa
open Go.RowKit

/-- the four cells of a key and what it has -/
def clW (p : Cl.Ky × ByteArray) : List Value := [.int .i64 p.1.kind, .int .i64 p.1.a, .int .i64 p.1.b, .string p.2]
theorem elWr : S.El Try.prog 38 64 4 40 := by
  obtain ⟨i0, hi, hz0, hz1, hz2⟩ := info_parts (show (Try.prog.info? 64).map (fun i => (i.zero, i.size, i.bytes)) = some (some (.agg #[.int .i64 0, .int .i64 0, .int .i64 0, .string ⟨#[]⟩]), 4, 40) by kernel_rfl)
  exact ⟨Try.underlying38, ⟨i0, _, hi, hz0, hz1, hz2, rfl⟩, by decide⟩
theorem four_oneW (p : Cl.Ky × ByteArray) : ∀ x ∈ clW p, x.oneCell' = true := by
  intro u hu
  simp only [clW, List.mem_cons, List.not_mem_nil, or_false] at hu
  rcases hu with rfl | rfl | rfl | rfl <;> rfl

/-- cells, and a row of writes of one's own apart from them -/
structure Rw12 (w wr : World) (F : Nat → Prop) (r wv : Value) (Y : Cl.Cs) (L : Cl.Ws) : Prop where
  cls : ∃ G : Nat → Prop, Cls wr G r Y ∧ (∀ b, G b → F b ∨ S.New w wr b) ∧ (∀ b, G b → wv.ownBlock ≠ some b)
  row : wr.ownsRow w.heap.size 64 4 wv L.length (L.flatMap clW)
  low : Below w.heap.size w wr

section
variable {w wr w2 : World} {F : Nat → Prop} {r wv : Value} {Y : Cl.Cs} {L : Cl.Ws}
theorem Rw12.start (h : Cls w F r Y) : Rw12 w w F r (.slice none 0 0) Y [] := ⟨⟨F, h, fun _ q => Or.inl q, fun b _ e => by cases e⟩, S.own_nil .., Below.refl _ _⟩
theorem Rw12.still (h : Rw12 w wr F r wv Y L) (hF : ∀ b, F b → b < w.heap.size) (hb : Below wr.heap.size wr w2) : Rw12 w w2 F r wv Y L := by
  obtain ⟨⟨G, hc, hs, hf⟩, hr, hl⟩ := h
  have hz := hb.size
  have hG : ∀ b, G b → b < wr.heap.size := fun b q => (hs b q).elim (fun q => Nat.lt_of_lt_of_le (hF b q) hl.size) (fun q => q.2)
  exact ⟨⟨G, hc.below hb hG, fun b q => (hs b q).elim Or.inl (fun q => Or.inr ⟨q.1, Nat.lt_of_lt_of_le q.2 hz⟩), hf⟩, S.own_below hr hb, below_two hl hb⟩
theorem Rw12.push (h : Rw12 w wr F r wv Y L) (hF : ∀ b, F b → b < w.heap.size) {o : Obj} {v5 : Value} {p : Cl.Ky × ByteArray}
    (hown : w2.ownsRow w.heap.size 64 4 v5 (L.length + 1) (L.flatMap clW ++ clW p)) (hg : (wr.alloc o).grownBy w2 wv.ownBlock) (hb : v5.ownBlock = wv.ownBlock ∨ v5.ownBlock = some (wr.alloc o).heap.size) : Rw12 w w2 F r v5 Y (L ++ [p]) := by
  obtain ⟨⟨G, hc, hs, hf⟩, hr, hl⟩ := h
  have hza : (wr.alloc o).heap.size = wr.heap.size + 1 := by simp
  have hz := hg.size
  have hG : ∀ b, G b → b < wr.heap.size := fun b q => (hs b q).elim (fun q => Nat.lt_of_lt_of_le (hF b q) hl.size) (fun q => q.2)
  have hba : Below wr.heap.size wr (wr.alloc o) := (Below.refl _ _).alloc (Nat.le_refl _) o
  refine ⟨⟨G, (hc.below hba hG).keep (fun q hq => World.cell?_of_block (hg.block q.block (by have := hG _ hq; omega) (fun e => hf _ hq e.symm))), fun b q => (hs b q).elim Or.inl (fun q => Or.inr ⟨q.1, by have := q.2; omega⟩), fun b q e => ?_⟩, ?_, ?_⟩
  · rcases hb with hb | hb
    · exact hf b q (hb.symm.trans e)
    · have := hG b q
      rw [hb] at e
      cases e
      omega
  · rw [List.length_append, List.flatMap_append]
    simpa using hown
  · exact (hl.trans (hba.mono hl.size)).trans (S.below_base (hr.alloc o) (by have := hl.size; omega) hg)
end

set_option maxRecDepth 100000 in
set_option maxHeartbeats 16000000 in
theorem rcommit11_any {w : World} {F : Nat → Prop} {v : Value} {X : Cl.Cs} (h : Cls w F v X) (hF : ∀ b, F b → b < w.heap.size) (hl : X.length ≤ 1000) (ho : Cl.Ord X) (ts : Int) :
    Calls Try.prog 34 #[v, .int .i64 ts] w fun e w' => ∃ v' wv, e = .returned (.tuple #[v', wv]) ∧ Cls w' (fun b => F b ∨ S.New w w' b) v' (Cl.commitX X ts) ∧ S.Sg w' (S.New w w') 4 wv (Cl.commitW X ts).length ((Cl.commitW X ts).flatMap clW) ∧ Below w.heap.size w w' := by
  have HS := Lib.hid h
  obtain ⟨A, cap, rfl, hcap⟩ := Cls.form h
  have HU := Lib.hid (fun n (hn : n < X.length) => Cl.upmap_succ (g := fun c => Cn.commitC c ts) (fun _ hc => Cn.may_commit hc ts) ho hn)
  have HE : Hid (Cl.upmap (fun c => Cn.commitC c ts) X X.length = Cl.commitX X ts) := Lib.hid (Cl.upmap_end _ _)
  have HLn := Lib.hid (Cl.upmap_len (fun c => Cn.commitC c ts) X)
  have HZ := Lib.hid (Cl.upmap_zero (fun c => Cn.commitC c ts) X)
  have HTs := Lib.hid (fun n (hn : n < X.length) => Cl.told_succ (ts := ts) hn)
  have HTe : Hid ((X.take X.length).flatMap (Cl.tells ts) = Cl.commitW X ts) := Lib.hid (by rw [List.take_length]; rfl)
  have HTz : Hid ((X.take 0).flatMap (Cl.tells ts) = []) := Lib.hid rfl
  clear h ho
  generalize Cl.upmap (fun c => Cn.commitC c ts) X = U at *
  obtain ⟨T, hT⟩ : ∃ T : Nat → Cl.Ws, T = fun n => (X.take n).flatMap (Cl.tells ts) := ⟨_, rfl⟩
  have HTs : Hid (∀ n (hn : n < X.length), T (n + 1) = T n ++ Cl.toldIn X[n].1 ts X[n].2) := Lib.hid (by rw [hT]; exact HTs.out)
  have HTe : Hid (T X.length = Cl.commitW X ts) := Lib.hid (by rw [hT]; exact HTe.out)
  have HTz : Hid (T 0 = []) := Lib.hid (by rw [hT]; exact HTz.out)
  clear hT
  go_enter Try.func34, Try.ntmps34
  go_wp2
  go_loopw [6, 7, 8] (fun r wv i wr => ∃ (n : Nat) (L : Cl.Ws), n ≤ X.length ∧ L.length ≤ 1000 * n ∧ i = .int .i64 (n : Int) ∧ Hid (T n = L) ∧ Hid (Rw12 w wr F r wv (U n) L)) (fun _ _ i _ => X.length - (intOf i).toNat)
  case atStart => exact ⟨0, [], Nat.zero_le _, Nat.zero_le _, rfl, HTz, Lib.hid (by rw [HZ.out]; exact Rw12.start HS.out)⟩
  case round =>
    obtain ⟨n, L, hn, hLn, rfl, HL, HC⟩ := hrel
    have HB := Lib.hid HC.out.low
    obtain ⟨Ar, cr, er⟩ : ∃ Ar cr, _ = Value.slice Ar X.length cr := by
      obtain ⟨⟨G, hc, _⟩, _⟩ := HC.out
      obtain ⟨Ar, cr, er, _⟩ := Cls.form hc
      rw [HLn.out] at er
      exact ⟨Ar, cr, er⟩
    subst er
    by_cases hlt : n < X.length
    · have hlt' : (n : Int) < (X.length : Int) := by omega
      have hk0 : (0 : Int) ≤ (n : Int) := by omega
      obtain ⟨a, _, A', c', ea, _, hFa, y0, y1, y2, y3, hv⟩ := HS.out.nth n hlt
      cases ea
      have HV := Lib.hid hv
      have HCL : Hid (X[n].2.length ≤ 1000) := Lib.hid (HS.out.len hlt)
      have HN := Lib.hid (HU.out n hlt)
      have HT1 := Lib.hid (HTs.out n hlt)
      clear hv
      generalize X[n].1 = kk at *
      generalize X[n].2 = cc at *
      have HAd : Hid ((a.add (n * 4)).block < w.heap.size) := Lib.hid (by rw [S.add_block]; exact hF _ hFa)
      have HA4 : Hid (∀ w', Below w.heap.size w w' → w'.cell? (a.add (n * 4)) = some (.int .i64 kk.kind) ∧ w'.cell? ⟨(a.add (n * 4)).block, (a.add (n * 4)).off + 1, none⟩ = some (.int .i64 kk.a) ∧ w'.cell? ⟨(a.add (n * 4)).block, (a.add (n * 4)).off + 2, none⟩ = some (.int .i64 kk.b) ∧ w'.cell? ⟨(a.add (n * 4)).block, (a.add (n * 4)).off + 3, none⟩ = some (.slice A' cc.length c')) := Lib.hid (fun w' hb => four_keep hb HAd.out ⟨y0, y1, y2, y3⟩)
      have HClm := Lib.hid (fun m (hm : m < cc.length) => Cl.toldIn_succ (k := kk) (ts := ts) hm)
      clear hFa y0 y1 y2 y3
      go_wp2_with fail
      go_loopw [7, 9] (fun wv k wq => ∃ (m : Nat) (M : Cl.Ws), m ≤ cc.length ∧ M.length ≤ 1000 * n + m ∧ k = .int .i64 (m : Int) ∧ Hid (T n ++ Cl.toldIn kk ts (cc.take m) = M) ∧ Hid (Rw12 w wq F (.slice Ar X.length cr) wv (U n) M) ∧ Hid (Below w.heap.size w wq) ) (fun _ k _ => cc.length - (intOf k).toNat)
      case atStart => exact ⟨0, L, Nat.zero_le _, by omega, rfl, Lib.hid (by rw [HL.out]; simp [Cl.toldIn]), HC, HB⟩
      case round =>
        obtain ⟨m, M, hm, hMm, rfl, HM, HQ, HBw⟩ := hrel
        obtain ⟨y0, y1, y2, y3⟩ := HA4.out _ HBw.out
        obtain ⟨Aw, cw, rfl⟩ := own_slice HQ.out.row
        by_cases hmt : m < cc.length
        · have hmt' : (m : Int) < (cc.length : Int) := by omega
          have hm0 : (0 : Int) ≤ (m : Int) := by omega
          obtain ⟨ad, _, ea, _, hFd, z0, z1, z2, z3⟩ := SlC.nth (S.Sg.below HV.out HBw.out hF) m hmt
          cases ea
          have HX := Lib.hid (HClm.out m hmt)
          have HCL1 := HCL.out
          generalize cc[m] = u at *
          by_cases he : u.ts = ts
          · have he' : (u.ts == ts) = true := by simpa using he
            cases hd : u.done with
            | false =>
              rw [hd] at z3
              have HX1 : Hid (T n ++ Cl.toldIn kk ts (cc.take (m + 1)) = M ++ [(kk, u.val)]) := Lib.hid (by rw [HX.out, if_pos (by unfold Cl.undone; rw [decide_eq_true he, hd]; rfl), ← List.append_assoc, HM.out])
              clear he hd
              have HAd2 : Hid ((ad.add (m * 4)).block < w.heap.size) := Lib.hid (by rw [S.add_block]; exact hF _ hFd)
              have HK6 : Hid (∀ w', Below w.heap.size w w' → w'.cell? (a.add (n * 4)) = some (.int .i64 kk.kind) ∧ w'.cell? ⟨(a.add (n * 4)).block, (a.add (n * 4)).off + 1, none⟩ = some (.int .i64 kk.a) ∧ w'.cell? ⟨(a.add (n * 4)).block, (a.add (n * 4)).off + 2, none⟩ = some (.int .i64 kk.b) ∧ w'.cell? ⟨(a.add (n * 4)).block, (a.add (n * 4)).off + 3, none⟩ = some (.slice (some ad) cc.length c') ∧ w'.cell? ⟨(ad.add (m * 4)).block, (ad.add (m * 4)).off + 2, none⟩ = some (.string u.val)) := Lib.hid (fun w' hb => by
                obtain ⟨q0, q1, q2, q3⟩ := HA4.out w' hb
                exact ⟨q0, q1, q2, q3, (hb.cell (p := ⟨(ad.add (m * 4)).block, (ad.add (m * 4)).off + 2, none⟩) HAd2.out).trans ((HBw.out.cell (p := ⟨(ad.add (m * 4)).block, (ad.add (m * 4)).off + 2, none⟩) HAd2.out).symm.trans z2)⟩)
              have HQd := Lib.hid (HQ.out.still hF (Below.drew (Below.refl _ _)))
              have HS6 := Lib.hid (HK6.out wr.drew HQd.out.low)
              have HS7 := Lib.hid (HK6.out ((wr.alloc (.cells #[.int .i64 kk.kind, .int .i64 kk.a, .int .i64 kk.b, .string u.val] 64)).drew) (Below.drew (HBw.out.alloc HBw.out.size _)))
              go_wp2_with fail
              clear y0 y1 y2 y3 z0 z1 z2 z3
              go_region_held3 (fun w' => w'.cell? (a.add (n * 4)) = some (.int .i64 kk.kind) ∧ w'.cell? ⟨(a.add (n * 4)).block, (a.add (n * 4)).off + 1, none⟩ = some (.int .i64 kk.a) ∧ w'.cell? ⟨(a.add (n * 4)).block, (a.add (n * 4)).off + 2, none⟩ = some (.int .i64 kk.b) ∧ w'.cell? ⟨(a.add (n * 4)).block, (a.add (n * 4)).off + 3, none⟩ = some (.slice (some ad) cc.length c') ∧ w'.cell? ⟨(ad.add (m * 4)).block, (ad.add (m * 4)).off + 2, none⟩ = some (.string u.val))
                (first | with_reducible exact HS6.out | with_reducible exact HS7.out | with_reducible assumption | go_keep)
                (first
                  | (refine S.step_append_sg elWr (by rfl) _ _ (by rfl) (base := w.heap.size) (n := M.length) (m := 1) (xs := M.flatMap clW) (cs := clW (kk, u.val)) (by rfl) (by rfl) (HQ.out.row.alloc (.cells #[.int .i64 kk.kind, .int .i64 kk.a, .int .i64 kk.b, .string u.val] 64)).drew (sg_row4 wr 64 #[.int .i64 kk.kind, .int .i64 kk.a, .int .i64 kk.b, .string u.val] rfl).drew (four_oneW _) (by omega) (by omega) (Nat.le_trans HQ.out.low.size (by simp)) ?_
                     intro v5 w5 hown5 hgrow5 hblk5
                     have HQ5 := Lib.hid (HQ.out.push (o := (.cells #[.int .i64 kk.kind, .int .i64 kk.a, .int .i64 kk.b, .string u.val] 64)) (p := (kk, u.val)) hF hown5 ⟨hgrow5.1, hgrow5.2, hgrow5.3, hgrow5.4, hgrow5.5⟩ hblk5)
                     have HB5 := Lib.hid HQ5.out.low
                     have hS5 := HK6.out w5 HB5.out
                     clear hown5 hgrow5 hblk5))
              all_goals (try go_wp2_with fail)
              go_roundw
              case rel => exact ⟨m + 1, _, by omega, by simp; omega, by go_num, HX1, HQ5, HB5⟩
              case measure => simp [intOf]; omega
            | true =>
              rw [hd] at z3
              have HX1 : Hid (T n ++ Cl.toldIn kk ts (cc.take (m + 1)) = M) := Lib.hid (by rw [HX.out, if_neg (by unfold Cl.undone; rw [hd]; simp), List.append_nil, HM.out])
              clear he hd
              go_wp2_with fail
              go_roundw
              case rel => exact ⟨m + 1, M, by omega, by omega, by go_num, HX1, HQ, HBw⟩
              case measure => simp [intOf]; omega
          · have he' : (u.ts == ts) = false := by simpa using he
            have HX1 : Hid (T n ++ Cl.toldIn kk ts (cc.take (m + 1)) = M) := Lib.hid (by rw [HX.out, if_neg (by unfold Cl.undone; rw [decide_eq_false he]; simp), List.append_nil, HM.out])
            clear he
            go_wp2_with fail
            go_roundw
            case rel => exact ⟨m + 1, M, by omega, by omega, by go_num, HX1, HQ, HBw⟩
            case measure => simp [intOf]; omega
        · obtain rfl : m = cc.length := by omega
          have hmt' : ¬ (cc.length : Int) < (cc.length : Int) := by omega
          have HM1 : Hid (T (n + 1) = M) := Lib.hid (by rw [HT1.out, ← HM.out, List.take_length])
          have HKp : Hid (∀ w', Below wr.heap.size wr w' → w'.cell? (a.add (n * 4)) = some (.int .i64 kk.kind) ∧ w'.cell? ⟨(a.add (n * 4)).block, (a.add (n * 4)).off + 1, none⟩ = some (.int .i64 kk.a) ∧ w'.cell? ⟨(a.add (n * 4)).block, (a.add (n * 4)).off + 2, none⟩ = some (.int .i64 kk.b) ∧ w'.cell? ⟨(a.add (n * 4)).block, (a.add (n * 4)).off + 3, none⟩ = some (.slice A' cc.length c') ∧ Below wr.heap.size wr w') := Lib.hid (fun w' hb => by
            obtain ⟨q0, q1, q2, q3⟩ := HA4.out w' (HBw.out.trans (hb.mono HBw.out.size))
            exact ⟨q0, q1, q2, q3, hb⟩)
          have HAb : Hid (∀ W, (W.cell? (a.add (n * 4)) = some (.int .i64 kk.kind) ∧ W.cell? ⟨(a.add (n * 4)).block, (a.add (n * 4)).off + 1, none⟩ = some (.int .i64 kk.a) ∧ W.cell? ⟨(a.add (n * 4)).block, (a.add (n * 4)).off + 2, none⟩ = some (.int .i64 kk.b) ∧ W.cell? ⟨(a.add (n * 4)).block, (a.add (n * 4)).off + 3, none⟩ = some (.slice A' cc.length c') ∧ Below wr.heap.size wr W) → Calls Try.prog 53 #[.slice A' cc.length c', .int .i64 ts] W fun e w' => ∃ v', e = .returned v' ∧ SlC w' (S.New wr w') v' (Cn.commitC cc ts) ∧ w'.cell? (a.add (n * 4)) = some (.int .i64 kk.kind) ∧ w'.cell? ⟨(a.add (n * 4)).block, (a.add (n * 4)).off + 1, none⟩ = some (.int .i64 kk.a) ∧ w'.cell? ⟨(a.add (n * 4)).block, (a.add (n * 4)).off + 2, none⟩ = some (.int .i64 kk.b) ∧ w'.cell? ⟨(a.add (n * 4)).block, (a.add (n * 4)).off + 3, none⟩ = some (.slice A' cc.length c') ∧ Below wr.heap.size wr w') := Lib.hid (fun W hW => by
            have hb := hW.2.2.2.2
            have hbw := HBw.out.trans (hb.mono HBw.out.size)
            refine (rcommit10_any (S.Sg.below HV.out hbw hF) (fun b q => Nat.lt_of_lt_of_le (hF b q) hbw.size) (by have := HCL.out; omega) ts).mono (fun _ _ hh => ?_)
            obtain ⟨v', rfl, hs', hb'⟩ := hh
            have hz := hb.size
            exact ⟨v', rfl, S.Sg.wider hs' (fun b q => ⟨by have := q.1; omega, q.2⟩), HKp.out _ (below_two hb hb')⟩)
          have HAl : Hid ((Cn.commitC cc ts).length ≤ 1000) := Lib.hid (by rw [Cn.commit_len]; exact HCL.out)
          generalize Cn.commitC cc ts = ca at *
          have HSe : Hid (∀ w3 v3, SlC w3 (S.New wr w3) v3 ca → (w3.cell? (a.add (n * 4)) = some (.int .i64 kk.kind) ∧ w3.cell? ⟨(a.add (n * 4)).block, (a.add (n * 4)).off + 1, none⟩ = some (.int .i64 kk.a) ∧ w3.cell? ⟨(a.add (n * 4)).block, (a.add (n * 4)).off + 2, none⟩ = some (.int .i64 kk.b) ∧ w3.cell? ⟨(a.add (n * 4)).block, (a.add (n * 4)).off + 3, none⟩ = some (.slice A' cc.length c') ∧ Below wr.heap.size wr w3) → Calls Try.prog 36 #[.slice Ar X.length cr, .agg #[.int .i64 kk.kind, .int .i64 kk.a, .int .i64 kk.b], v3] w3 fun e w' => ∃ v', e = .returned v' ∧ Rw12 w w' F v' (.slice Aw M.length cw) (U (n + 1)) M ∧ w'.cell? (a.add (n * 4)) = some (.int .i64 kk.kind) ∧ w'.cell? ⟨(a.add (n * 4)).block, (a.add (n * 4)).off + 1, none⟩ = some (.int .i64 kk.a) ∧ w'.cell? ⟨(a.add (n * 4)).block, (a.add (n * 4)).off + 2, none⟩ = some (.int .i64 kk.b) ∧ w'.cell? ⟨(a.add (n * 4)).block, (a.add (n * 4)).off + 3, none⟩ = some (.slice A' cc.length c') ∧ Below wr.heap.size wr w') := Lib.hid (fun w3 v3 hs3 hS3 => by
            have hb3 := hS3.2.2.2.2
            obtain ⟨⟨G, hc, hs, hf⟩, hr, hl'⟩ := HQ.out
            have hz := hl'.size
            have hz3 := hb3.size
            have hG : ∀ b, G b → b < wr.heap.size := fun b q => (hs b q).elim (fun q => Nat.lt_of_lt_of_le (hF b q) hz) (fun q => q.2)
            refine (rset11_any (F := fun b => G b ∨ S.New wr w3 b) ((hc.below hb3 hG).wider (fun b q => Or.inl q)) (S.Sg.wider hs3 (fun b q => Or.inr q)) (fun b q => q.elim (fun q => Nat.lt_of_lt_of_le (hG b q) hz3) (fun q => q.2)) (by rw [HLn.out]; exact hl) HAl.out kk).mono (fun _ _ hh => ?_)
            obtain ⟨v', rfl, hs', hb'⟩ := hh
            have hz' := hb'.size
            rw [HN.out] at hs'
            have hb4 := below_two hb3 hb'
            refine ⟨v', rfl, ⟨⟨_, hs', fun b q => ?_, fun b q e => ?_⟩, S.own_below hr hb4, hl'.trans (hb4.mono hz)⟩, HKp.out _ hb4⟩
            · rcases q with (q | q) | q
              · exact (hs b q).elim Or.inl (fun q => Or.inr ⟨q.1, by have := q.2; omega⟩)
              · have q1 := q.1; have q2 := q.2; exact Or.inr ⟨by omega, by omega⟩
              · have q1 := q.1; have q2 := q.2; exact Or.inr ⟨by omega, by omega⟩
            · have ho := (World.ownsRow.lt hr b e).2
              rcases q with (q | q) | q
              · exact hf b q e
              · have q1 := q.1; omega
              · have q1 := q.1; omega)
          have HSd := Lib.hid (HKp.out wr.drew (Below.drew (Below.refl _ _)))
          go_wp2_with fail
          clear y0 y1 y2 y3
          go_region_held3 (fun w' => w'.cell? (a.add (n * 4)) = some (.int .i64 kk.kind) ∧ w'.cell? ⟨(a.add (n * 4)).block, (a.add (n * 4)).off + 1, none⟩ = some (.int .i64 kk.a) ∧ w'.cell? ⟨(a.add (n * 4)).block, (a.add (n * 4)).off + 2, none⟩ = some (.int .i64 kk.b) ∧ w'.cell? ⟨(a.add (n * 4)).block, (a.add (n * 4)).off + 3, none⟩ = some (.slice A' cc.length c') ∧ Below wr.heap.size wr w')
            (first | with_reducible exact HSd.out | with_reducible assumption)
            (first
              | (go_at_call 53
                 with_reducible refine (HAb.out _ (by assumption)).mono ?_
                 rintro e w3 ⟨v3, rfl, hs3, hS3⟩
                 have HS3 := Lib.hid hs3
                 clear hs3)
              | (go_at_call 36
                 with_reducible refine (HSe.out _ _ HS3.out (by assumption)).mono ?_
                 rintro e w4 ⟨v4, rfl, hs4, hS4⟩
                 have HS4 := Lib.hid hs4
                 clear hs4))
          all_goals (try go_wp2_with fail)
          go_roundw
          case rel => exact ⟨n + 1, M, by omega, by have := HCL.out; omega, by go_num, HM1, HS4⟩
          case measure => simp [intOf]; omega
    · obtain rfl : n = X.length := by omega
      have hlt' : ¬ (X.length : Int) < (X.length : Int) := by omega
      go_wp2
      refine bodyPost_ret (results_tmp2 rfl _ _ _) rfl ?_
      obtain ⟨⟨G, hc, hs, _⟩, hr, hlow⟩ := HC.out
      have hg := S.Sg.of_own hr
      rw [← HL.out, HTe.out] at hg
      refine ⟨_, _, rfl, ?_, hg.wider (fun b q => q), hlow⟩
      rw [← HE.out]
      exact hc.wider hs

end Go.Proofs.Ytpppjipelcfnkaa
