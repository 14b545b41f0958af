/-
  Walks of the document's cells: Abort, Commit.
-/
import Derived.Test.YtpppjipelcfnkaaClRef4
namespace Go.Proofs.Ytpppjipelcfnkaa.Cl
/-- the first n chains are done -/
def upmap (g : Cn.Ch → Cn.Ch) (X : Cs) (n : Nat) : Cs := (X.take n).map (fun p => (p.1, g p.2)) ++ X.drop n
theorem upmap_len (g : Cn.Ch → Cn.Ch) (X : Cs) (n : Nat) : (upmap g X n).length = X.length := by
  unfold upmap
  simp only [List.length_append, List.length_map, List.length_take, List.length_drop]
  omega
theorem upmap_zero (g : Cn.Ch → Cn.Ch) (X : Cs) : upmap g X 0 = X := by simp [upmap]
theorem upmap_end (g : Cn.Ch → Cn.Ch) (X : Cs) : upmap g X X.length = X.map (fun p => (p.1, g p.2)) := by simp [upmap]
theorem upmap_succ {g : Cn.Ch → Cn.Ch} (hg : ∀ c, Cn.May c → Cn.May (g c)) {X : Cs} (h : Ord X) {n : Nat} (hn : n < X.length) : setX (upmap g X n) X[n].1 (g X[n].2) = upmap g X (n + 1) := by
  have e : X = X.take n ++ (X[n].1, X[n].2) :: X.drop (n + 1) := by
    have : (X[n].1, X[n].2) = X[n] := rfl
    rw [this, ← List.drop_eq_getElem_cons hn, List.take_append_drop]
  have h2 : Ord (X.take n ++ (X[n].1, X[n].2) :: X.drop (n + 1)) := by rw [← e]; exact h
  have := set_map g hg h2
  unfold upmap
  rw [List.take_succ_eq_append_getElem hn, List.drop_eq_getElem_cons hn]
  exact this
theorem alen (c : Cn.Ch) (ts : Int) : (Cn.abortC c ts).length ≤ c.length := by
  unfold Cn.abortC
  split
  · exact List.length_filter_le ..
  · omega
end Go.Proofs.Ytpppjipelcfnkaa.Cl

namespace Go.Proofs.Ytpppjipelcfnkaa
open Go.RowKit

set_option maxRecDepth 100000 in
set_option maxHeartbeats 8000000 in
theorem rabort11_any {w : World} {F : Nat → Prop} {v : Value} {X : Cl.Cs} (h : Cls w F v X) (hF : ∀ b, F b → b < w.heap.size) (hl : X.length ≤ 1000) (ho : Cl.Ord X) (ts : Int) :
    Calls Try.prog 35 #[v, .int .i64 ts] w fun e w' => ∃ v', e = .returned v' ∧ Cls w' (fun b => F b ∨ S.New w w' b) v' (Cl.abortX X ts) ∧ Below w.heap.size w w' := by
  have HS := Lib.hid h
  have HO := Lib.hid ho
  obtain ⟨A, cap, rfl, hcap⟩ := Cls.form h
  have HU := Lib.hid (fun n (hn : n < X.length) => Cl.upmap_succ (g := fun c => Cn.abortC c ts) (fun _ hc => Cn.may_abort hc ts) ho hn)
  have HE : Hid (Cl.upmap (fun c => Cn.abortC c ts) X X.length = Cl.abortX X ts) := Lib.hid (Cl.upmap_end _ _)
  have HLn := Lib.hid (Cl.upmap_len (fun c => Cn.abortC c ts) X)
  have HZ := Lib.hid (Cl.upmap_zero (fun c => Cn.abortC c ts) X)
  clear h ho
  generalize Cl.upmap (fun c => Cn.abortC c ts) X = U at *
  go_enter Try.func35, Try.ntmps35
  go_wp2
  go_loopw [5, 6] (fun r i wr => ∃ n : Nat, n ≤ X.length ∧ i = .int .i64 (n : Int) ∧ Hid (Cls wr (fun b => F b ∨ S.New w wr b) r (U n)) ∧ Hid (Below w.heap.size w wr)) (fun _ i _ => X.length - (intOf i).toNat)
  case atStart => exact ⟨0, Nat.zero_le _, rfl, Lib.hid (by rw [HZ.out]; exact HS.out.wider (fun b q => Or.inl q)), Lib.hid (Below.refl _ _)⟩
  case round =>
    obtain ⟨n, hn, rfl, HC, HB⟩ := hrel
    obtain ⟨Ar, cr, er, hcr⟩ := Cls.form HC.out
    rw [HLn.out] at er
    subst er
    clear hcr
    by_cases hlt : n < X.length
    · have hlt' : (n : Int) < (X.length : Int) := by omega
      have hk0 : (0 : Int) ≤ (n : Int) := by omega
      obtain ⟨a, _, A', c', ea, _, hFa, y0, y1, y2, y3, hv⟩ := (HS.out.below HB.out hF).nth n hlt
      cases ea
      have HV := Lib.hid hv
      have HCL : Hid (X[n].2.length ≤ 1000) := Lib.hid (HS.out.len hlt)
      have HN := Lib.hid (HU.out n hlt)
      clear hv
      generalize X[n].1 = kk at *
      generalize X[n].2 = cc at *
      have HY := Lib.hid (And.intro y0 (And.intro y1 (And.intro y2 y3)))
      have HAd : Hid ((a.add (n * 4)).block < wr.heap.size) := Lib.hid (by rw [S.add_block]; exact Nat.lt_of_lt_of_le (hF _ hFa) HB.out.size)
      have HKp : Hid (∀ w', Below wr.heap.size wr w' → w'.cell? (a.add (n * 4)) = some (.int .i64 kk.kind) ∧ w'.cell? ⟨(a.add (n * 4)).block, (a.add (n * 4)).off + 1, none⟩ = some (.int .i64 kk.a) ∧ w'.cell? ⟨(a.add (n * 4)).block, (a.add (n * 4)).off + 2, none⟩ = some (.int .i64 kk.b) ∧ w'.cell? ⟨(a.add (n * 4)).block, (a.add (n * 4)).off + 3, none⟩ = some (.slice A' cc.length c') ∧ Below wr.heap.size wr w') := Lib.hid (fun w' hb => by
        obtain ⟨q0, q1, q2, q3⟩ := four_keep hb HAd.out HY.out
        exact ⟨q0, q1, q2, q3, hb⟩)
      have HAb : Hid (∀ W, (W.cell? (a.add (n * 4)) = some (.int .i64 kk.kind) ∧ W.cell? ⟨(a.add (n * 4)).block, (a.add (n * 4)).off + 1, none⟩ = some (.int .i64 kk.a) ∧ W.cell? ⟨(a.add (n * 4)).block, (a.add (n * 4)).off + 2, none⟩ = some (.int .i64 kk.b) ∧ W.cell? ⟨(a.add (n * 4)).block, (a.add (n * 4)).off + 3, none⟩ = some (.slice A' cc.length c') ∧ Below wr.heap.size wr W) → Calls Try.prog 28 #[.slice A' cc.length c', .int .i64 ts] W fun e w' => ∃ v', e = .returned v' ∧ SlC w' (S.New wr w') v' (Cn.abortC cc ts) ∧ w'.cell? (a.add (n * 4)) = some (.int .i64 kk.kind) ∧ w'.cell? ⟨(a.add (n * 4)).block, (a.add (n * 4)).off + 1, none⟩ = some (.int .i64 kk.a) ∧ w'.cell? ⟨(a.add (n * 4)).block, (a.add (n * 4)).off + 2, none⟩ = some (.int .i64 kk.b) ∧ w'.cell? ⟨(a.add (n * 4)).block, (a.add (n * 4)).off + 3, none⟩ = some (.slice A' cc.length c') ∧ Below wr.heap.size wr w') := Lib.hid (fun W hW => by
        have hb := hW.2.2.2.2
        refine (rabort10_any (S.Sg.below HV.out hb (fun b q => Nat.lt_of_lt_of_le (hF b q) HB.out.size)) (fun b q => Nat.lt_of_lt_of_le (hF b q) (Nat.le_trans HB.out.size hb.size)) (by have := HCL.out; omega) ts).mono (fun _ _ hh => ?_)
        obtain ⟨v', rfl, hs', hb'⟩ := hh
        have hz := hb.size
        exact ⟨v', rfl, S.Sg.wider hs' (fun b q => ⟨by have := q.1; omega, q.2⟩), HKp.out _ (below_two hb hb')⟩)
      have HAl : Hid ((Cn.abortC cc ts).length ≤ 1000) := Lib.hid (Nat.le_trans (Cl.alen cc ts) HCL.out)
      generalize Cn.abortC cc ts = ca at *
      have HSe : Hid (∀ w3 v3, SlC w3 (S.New wr w3) v3 ca → (w3.cell? (a.add (n * 4)) = some (.int .i64 kk.kind) ∧ w3.cell? ⟨(a.add (n * 4)).block, (a.add (n * 4)).off + 1, none⟩ = some (.int .i64 kk.a) ∧ w3.cell? ⟨(a.add (n * 4)).block, (a.add (n * 4)).off + 2, none⟩ = some (.int .i64 kk.b) ∧ w3.cell? ⟨(a.add (n * 4)).block, (a.add (n * 4)).off + 3, none⟩ = some (.slice A' cc.length c') ∧ Below wr.heap.size wr w3) → Calls Try.prog 36 #[.slice Ar X.length cr, .agg #[.int .i64 kk.kind, .int .i64 kk.a, .int .i64 kk.b], v3] w3 fun e w' => ∃ v', e = .returned v' ∧ Cls w' (fun b => F b ∨ S.New w w' b) v' (U (n + 1)) ∧ Below w.heap.size w w' ∧ w'.cell? (a.add (n * 4)) = some (.int .i64 kk.kind) ∧ w'.cell? ⟨(a.add (n * 4)).block, (a.add (n * 4)).off + 1, none⟩ = some (.int .i64 kk.a) ∧ w'.cell? ⟨(a.add (n * 4)).block, (a.add (n * 4)).off + 2, none⟩ = some (.int .i64 kk.b) ∧ w'.cell? ⟨(a.add (n * 4)).block, (a.add (n * 4)).off + 3, none⟩ = some (.slice A' cc.length c') ∧ Below wr.heap.size wr w') := Lib.hid (fun w3 v3 hs3 hS3 => by
        have hb3 := hS3.2.2.2.2
        have hz := HB.out.size
        have hz3 := hb3.size
        refine (rset11_any (F := fun b => F b ∨ S.New w w3 b) ((HC.out.below hb3 (fun b q => q.elim (fun q => Nat.lt_of_lt_of_le (hF b q) hz) (fun q => q.2))).wider (fun b q => q.elim Or.inl (fun q => Or.inr ⟨q.1, by have := q.2; omega⟩))) (S.Sg.wider hs3 (fun b q => Or.inr ⟨by have := q.1; omega, q.2⟩)) (fun b q => q.elim (fun q => Nat.lt_of_lt_of_le (hF b q) (Nat.le_trans hz hz3)) (fun q => q.2)) (by rw [HLn.out]; exact hl) HAl.out kk).mono (fun _ _ hh => ?_)
        obtain ⟨v', rfl, hs', hb'⟩ := hh
        have hz' := hb'.size
        rw [HN.out] at hs'
        refine ⟨v', rfl, hs'.wider (fun b q => ?_), (HB.out.trans (hb3.mono hz)).trans (hb'.mono (Nat.le_trans hz hz3)), HKp.out _ (below_two hb3 hb')⟩
        rcases q with (q | q) | q
        · exact Or.inl q
        · have q1 := q.1; have q2 := q.2; exact Or.inr ⟨by omega, by omega⟩
        · have q1 := q.1; have q2 := q.2; exact Or.inr ⟨by omega, by omega⟩)
      have HSd := Lib.hid (HKp.out wr.drew (Below.drew (Below.refl _ _)))
      clear y0 y1 y2 y3 hFa
      go_wp2_with fail
      go_region_held3 (fun w' => w'.cell? (a.add (n * 4)) = some (.int .i64 kk.kind) ∧ w'.cell? ⟨(a.add (n * 4)).block, (a.add (n * 4)).off + 1, none⟩ = some (.int .i64 kk.a) ∧ w'.cell? ⟨(a.add (n * 4)).block, (a.add (n * 4)).off + 2, none⟩ = some (.int .i64 kk.b) ∧ w'.cell? ⟨(a.add (n * 4)).block, (a.add (n * 4)).off + 3, none⟩ = some (.slice A' cc.length c') ∧ Below wr.heap.size wr w')
        (first | with_reducible exact HSd.out | with_reducible assumption)
        (first
          | (go_at_call 28
             with_reducible refine (HAb.out _ (by assumption)).mono ?_
             rintro e w3 ⟨v3, rfl, hs3, hS3⟩
             have HS3 := Lib.hid hs3
             clear hs3)
          | (go_at_call 36
             with_reducible refine (HSe.out _ _ HS3.out (by assumption)).mono ?_
             rintro e w4 ⟨v4, rfl, hs4, hb4, hS4⟩
             have HS4 := Lib.hid hs4
             have HB4 := Lib.hid hb4
             clear hs4 hb4))
      all_goals (try go_wp2_with fail)
      go_roundw
      case rel => exact ⟨n + 1, by omega, by go_num, HS4, HB4⟩
      case measure => simp [intOf]; omega
    · obtain rfl : n = X.length := by omega
      have hlt' : ¬ (X.length : Int) < (X.length : Int) := by omega
      go_wp2
      go_ret
      refine ⟨_, rfl, ?_, HB.out⟩
      rw [← HE.out]
      exact HC.out

end Go.Proofs.Ytpppjipelcfnkaa
