/-
  Walks of the document's cells: Read, Write.
-/
import Derived.Test.YtpppjipelcfnkaaClRef3
namespace Go.Proofs.Ytpppjipelcfnkaa.Cl
theorem wlen (c : Cn.Ch) (ts : Int) (val : ByteArray) : (Cn.writeC c ts val).length ≤ c.length + 1 := by
  unfold Cn.writeC
  split
  · omega
  · split
    · omega
    · split
      · rw [List.length_set]; omega
      · simp only [List.length_append, List.length_take, List.length_cons, List.length_drop]
        omega
end Go.Proofs.Ytpppjipelcfnkaa.Cl

namespace Go.Proofs.Ytpppjipelcfnkaa
open Go.RowKit

set_option maxRecDepth 100000 in
set_option maxHeartbeats 8000000 in
theorem rread11_any {w : World} {F : Nat → Prop} {v : Value} {X : Cl.Cs} (h : Cls w F v X) (hF : ∀ b, F b → b < w.heap.size) (hl : X.length ≤ 1000) (k : Cl.Ky) (hk : (Cl.chain X k).length ≤ 1000) (ts : Int) :
    Calls Try.prog 32 #[v, keyA k, .int .i64 ts] w fun e w' => ∃ v', e = .returned (.tuple #[v', verA (Cl.readW X k ts)]) ∧ Cls w' (fun b => F b ∨ S.New w w' b) v' (Cl.readX X k ts) ∧ Below w.heap.size w w' := by
  have HS := Lib.hid h
  have HK := Lib.hid hk
  obtain ⟨A, cap, rfl, hcap⟩ := Cls.form h
  clear h hk
  unfold keyA
  by_cases h0 : ts < 0
  · have HV : Hid (Cl.readX X k ts = X ∧ Cl.readW X k ts = Cn.zero) := Lib.hid (by unfold Cl.readX Cl.readW; rw [if_pos h0, if_pos h0]; exact ⟨rfl, rfl⟩)
    have HB2 : Hid (Below w.heap.size w ((w.alloc (.cells #[.int .i64 k.kind, .int .i64 k.a, .int .i64 k.b] 31)).alloc (.cells #[.int .i64 0, .int .i64 0, .string ⟨#[]⟩, .bool false] 76))) := Lib.hid (((Below.refl _ _).alloc (Nat.le_refl _) _).alloc (by simp) _)
    have HR2 := Lib.hid (Bk.new (w.alloc (.cells #[.int .i64 k.kind, .int .i64 k.a, .int .i64 k.b] 31)) [.int .i64 0, .int .i64 0, .string ⟨#[]⟩, .bool false] 76 (g := w.heap.size + 1) (by simp))
    go_enter Try.func32, Try.ntmps32
    go_wp2
    refine bodyPost_ret (results_t_bk rfl _ rfl HR2.out Try.underlying76 rfl infoVr) rfl ?_
    refine ⟨_, ret_v (by rw [HV.out.2]; rfl), ?_, HB2.out⟩
    rw [HV.out.1]
    exact (HS.out.below HB2.out hF).wider (fun b q => Or.inl q)
  · have h0' : (0 : Int) ≤ ts := by omega
    have HV : Hid (Cl.readX X k ts = Cl.setX X k (Cn.readC (Cl.chain X k) ts) ∧ Cl.readW X k ts = Cn.readV (Cl.chain X k) ts) := Lib.hid (by unfold Cl.readX Cl.readW; rw [if_neg h0, if_neg h0]; exact ⟨rfl, rfl⟩)
    have HB2 : Hid (Below w.heap.size w ((w.alloc (.cells #[.int .i64 k.kind, .int .i64 k.a, .int .i64 k.b] 31)).alloc (.cells #[.int .i64 0, .int .i64 0, .string ⟨#[]⟩, .bool false] 76))) := Lib.hid (((Below.refl _ _).alloc (Nat.le_refl _) _).alloc (by simp) _)
    have HR2 := Lib.hid (Bk.new (w.alloc (.cells #[.int .i64 k.kind, .int .i64 k.a, .int .i64 k.b] 31)) [.int .i64 0, .int .i64 0, .string ⟨#[]⟩, .bool false] 76 (g := w.heap.size + 1) (by simp))
    have HK2 := Lib.hid ((Bk.new w [.int .i64 k.kind, .int .i64 k.a, .int .i64 k.b] 31 rfl).alloc (.cells #[.int .i64 0, .int .i64 0, .string ⟨#[]⟩, .bool false] 76))
    obtain ⟨rv, hrv⟩ : ∃ rv, rv = Cn.readV (Cl.chain X k) ts := ⟨_, rfl⟩
    obtain ⟨cv, hcv⟩ : ∃ cv, cv = Cn.readC (Cl.chain X k) ts := ⟨_, rfl⟩
    have hcl : cv.length ≤ 1000 := by rw [hcv, Cn.read_len]; exact HK.out
    have HRd : Hid (∀ (W : World) (G : Nat → Prop) (v3 : Value), SlC W G v3 (Cl.chain X k) → (∀ b, G b → b < W.heap.size) → Calls Try.prog 50 #[v3, .int .i64 ts] W fun e w' => ∃ A4 c4, e = .returned (.tuple #[.slice A4 cv.length c4, .agg #[.int .i64 rv.ts, .int .i64 rv.rd, .string rv.val, .bool rv.done]]) ∧ SlC w' (fun b => G b ∨ S.New W w' b) (.slice A4 cv.length c4) cv ∧ Below W.heap.size W w') := Lib.hid (fun W G v3 hs hG => (rread10_any hs hG (by have := HK.out; omega) ts).mono (fun _ _ hh => by
      obtain ⟨v4, rfl, hs4, hb4⟩ := hh
      rw [← hcv] at hs4
      obtain ⟨A4, c4, rfl, _⟩ := SlC.form hs4
      rw [← hrv]
      exact ⟨A4, c4, rfl, hs4, hb4⟩))
    rw [← hrv, ← hcv] at HV
    have HCl := Lib.hid hcl
    clear hrv hcv hcl
    go_enter Try.func32, Try.ntmps32
    go_wp2_with (first
      | (go_at_call 51
         refine (rchain11_any (HS.out.below HB2.out hF) (fun b q => Nat.lt_of_lt_of_le (hF b q) HB2.out.size) (by omega) k).mono ?_
         rintro e w3 ⟨v3, rfl, hs3, hb3⟩
         have HB3 := Lib.hid (HB2.out.trans (hb3.mono HB2.out.size))
         have HR3 := Lib.hid (HR2.out.step hb3)
         have HK3 := Lib.hid (HK2.out.step hb3)
         have HS3 := Lib.hid hs3
         have HF3 : Hid (∀ b, (F b ∨ S.New ((w.alloc (.cells #[.int .i64 k.kind, .int .i64 k.a, .int .i64 k.b] 31)).alloc (.cells #[.int .i64 0, .int .i64 0, .string ⟨#[]⟩, .bool false] 76)) w3 b) → b < w3.heap.size) := Lib.hid (fun b q => q.elim (fun q => Nat.lt_of_lt_of_le (hF b q) HB3.out.size) (fun q => q.2))
         clear hs3 hb3 HR2 HK2 HB2)
      | (go_at_call 50
         refine (HRd.out _ _ _ HS3.out HF3.out).mono ?_
         rintro e w4 ⟨A4, c4, rfl, hs4, hb4⟩
         have HB4 := Lib.hid (HB3.out.trans (hb4.mono HB3.out.size))
         have HR4 := Lib.hid (HR3.out.step hb4)
         have HK4 := Lib.hid (HK3.out.step hb4)
         have HS4 := Lib.hid hs4
         have HW4 : Hid (∀ b, ((F b ∨ S.New ((w.alloc (.cells #[.int .i64 k.kind, .int .i64 k.a, .int .i64 k.b] 31)).alloc (.cells #[.int .i64 0, .int .i64 0, .string ⟨#[]⟩, .bool false] 76)) w3 b) ∨ S.New w3 w4 b) → F b ∨ (w.heap.size + 2 ≤ b ∧ b < w4.heap.size)) := Lib.hid (fun b q => by
           have h3 := HR3.out.lt
           have h4 := hb4.size
           rcases q with (q | q) | q
           · exact Or.inl q
           · have q1 := q.1; have q2 := q.2; simp at q1; exact Or.inr ⟨by omega, by omega⟩
           · have q1 := q.1; have q2 := q.2; exact Or.inr ⟨by omega, by omega⟩)
         have HG4 : Hid (∀ b, ((F b ∨ S.New ((w.alloc (.cells #[.int .i64 k.kind, .int .i64 k.a, .int .i64 k.b] 31)).alloc (.cells #[.int .i64 0, .int .i64 0, .string ⟨#[]⟩, .bool false] 76)) w3 b) ∨ S.New w3 w4 b) → b < w4.heap.size) := Lib.hid (fun b q => (HW4.out b q).elim (fun q => Nat.lt_of_lt_of_le (hF b q) HB4.out.size) (fun q => q.2))
         clear hs4 hb4 HR3 HK3 HB3 HS3 HF3))
    have hb5 : Below w.heap.size w (w4.alloc (.cells #[.int .i64 rv.ts, .int .i64 rv.rd, .string rv.val, .bool rv.done] 76)) := HB4.out.alloc HB4.out.size _
    have HX5 := Lib.hid (Bk.new w4 [.int .i64 rv.ts, .int .i64 rv.rd, .string rv.val, .bool rv.done] 76 rfl)
    have HR5 := Lib.hid (HR4.out.alloc (.cells #[.int .i64 rv.ts, .int .i64 rv.rd, .string rv.val, .bool rv.done] 76))
    have HK5 := Lib.hid (HK4.out.alloc (.cells #[.int .i64 rv.ts, .int .i64 rv.rd, .string rv.val, .bool rv.done] 76))
    have HS5 : Hid (SlC (w4.alloc (.cells #[.int .i64 rv.ts, .int .i64 rv.rd, .string rv.val, .bool rv.done] 76)) (fun b => F b ∨ (w.heap.size + 2 ≤ b ∧ b < (w4.alloc (.cells #[.int .i64 rv.ts, .int .i64 rv.rd, .string rv.val, .bool rv.done] 76)).heap.size)) (.slice A4 cv.length c4) cv) := Lib.hid (S.Sg.wider (S.Sg.below HS4.out (((Below.refl w4.heap.size w4).alloc (Nat.le_refl _) (.cells #[.int .i64 rv.ts, .int .i64 rv.rd, .string rv.val, .bool rv.done] 76))) HG4.out) (fun b q => (HW4.out b q).elim Or.inl (fun q => Or.inr ⟨q.1, by have := q.2; simp; omega⟩)))
    have nRX : w.heap.size + 1 ≠ w4.heap.size := by have := HR4.out.lt; omega
    have HB5 := Lib.hid hb5
    clear hb5 HR4 HK4 HB4 HS4
    change Code.wp Try.prog _ _ _ (w4.alloc (.cells #[.int .i64 rv.ts, .int .i64 rv.rd, .string rv.val, .bool rv.done] 76))
    generalize (w4.alloc (.cells #[.int .i64 rv.ts, .int .i64 rv.rd, .string rv.val, .bool rv.done] 76)) = w5 at *
    generalize w4.heap.size = P at *
    have HSe : Hid (∀ wd, Below w5.heap.size w5 wd → Calls Try.prog 36 #[.slice A X.length cap, .agg #[.int .i64 k.kind, .int .i64 k.a, .int .i64 k.b], .slice A4 cv.length c4] wd fun e w' => ∃ v', e = .returned v' ∧ Cls w' (fun b => F b ∨ (w.heap.size + 2 ≤ b ∧ b < w'.heap.size)) v' (Cl.setX X k cv) ∧ Below wd.heap.size wd w') := Lib.hid (fun wd hb => by
      have h5 := HR5.out.lt
      have hz := hb.size
      refine (rset11_any (F := fun b => F b ∨ (w.heap.size + 2 ≤ b ∧ b < w5.heap.size)) (((HS.out.below (HB5.out.trans (hb.mono HB5.out.size)) hF)).wider (fun b q => Or.inl q)) (S.Sg.below HS5.out hb (fun b q => q.elim (fun q => Nat.lt_of_lt_of_le (hF b q) HB5.out.size) (fun q => q.2))) (fun b q => q.elim (fun q => Nat.lt_of_lt_of_le (hF b q) (Nat.le_trans HB5.out.size hb.size)) (fun q => Nat.lt_of_lt_of_le q.2 hb.size)) hl HCl.out k).mono (fun _ _ hh => ?_)
      obtain ⟨v', rfl, hs', hb'⟩ := hh
      have hz' := hb'.size
      refine ⟨v', rfl, hs'.wider (fun b q => ?_), hb'⟩
      rcases q with (q | q) | q
      · exact Or.inl q
      · have q1 := q.1; have q2 := q.2; exact Or.inr ⟨by omega, by omega⟩
      · have q1 := q.1; have q2 := q.2; exact Or.inr ⟨by omega, by omega⟩)
    have HSX : Hid (∀ w', Below w5.heap.size w5 w' → w'.cell? ⟨w.heap.size, 0, none⟩ = some (.int .i64 k.kind) ∧ w'.cell? ⟨w.heap.size, 1, none⟩ = some (.int .i64 k.a) ∧ w'.cell? ⟨w.heap.size, 2, none⟩ = some (.int .i64 k.b) ∧ w'.cell? ⟨P, 0, none⟩ = some (.int .i64 rv.ts) ∧ w'.cell? ⟨P, 1, none⟩ = some (.int .i64 rv.rd) ∧ w'.cell? ⟨P, 2, none⟩ = some (.string rv.val) ∧ w'.cell? ⟨P, 3, none⟩ = some (.bool rv.done)) := Lib.hid (fun w' hb => ⟨(HK5.out.step hb).cell 0 _ rfl, (HK5.out.step hb).cell 1 _ rfl, (HK5.out.step hb).cell 2 _ rfl, (HX5.out.step hb).cell 0 _ rfl, (HX5.out.step hb).cell 1 _ rfl, (HX5.out.step hb).cell 2 _ rfl, (HX5.out.step hb).cell 3 _ rfl⟩)
    have hbd := Lib.hid (Below.drew (Below.refl w5.heap.size w5))
    have hSd := HSX.out w5.drew hbd.out
    have nRK : w.heap.size + 1 ≠ w.heap.size := by omega
    go_region_held3 (fun w' => w'.cell? ⟨w.heap.size, 0, none⟩ = some (.int .i64 k.kind) ∧ w'.cell? ⟨w.heap.size, 1, none⟩ = some (.int .i64 k.a) ∧ w'.cell? ⟨w.heap.size, 2, none⟩ = some (.int .i64 k.b) ∧ w'.cell? ⟨P, 0, none⟩ = some (.int .i64 rv.ts) ∧ w'.cell? ⟨P, 1, none⟩ = some (.int .i64 rv.rd) ∧ w'.cell? ⟨P, 2, none⟩ = some (.string rv.val) ∧ w'.cell? ⟨P, 3, none⟩ = some (.bool rv.done))
      (first | with_reducible assumption | go_keep)
      (first
        | (go_at_call 36
           (with_reducible refine (HSe.out _ hbd.out).mono ?_)
           rintro e w6 ⟨v6, rfl, hs6, b6⟩
           have hb6 := below_two hbd.out b6
           have hA := HSX.out w6 hb6
           have hR6 := HR5.out.step hb6
           have r0 := hR6.cell 0 _ rfl
           have r1 := hR6.cell 1 _ rfl
           have r2 := hR6.cell 2 _ rfl
           have r3 := hR6.cell 3 _ rfl
           have g0 := hR6.fz 0 (by simp)
           have g1 := hR6.fz 1 (by simp)
           have g2 := hR6.fz 2 (by simp)
           have g3 := hR6.fz 3 (by simp)
           have hA' := And.intro (set4_other hA.1 nRK (.int .i64 rv.ts) (.int .i64 rv.rd) (.string rv.val) (.bool rv.done)) (And.intro (set4_other hA.2.1 nRK (.int .i64 rv.ts) (.int .i64 rv.rd) (.string rv.val) (.bool rv.done)) (And.intro (set4_other hA.2.2.1 nRK (.int .i64 rv.ts) (.int .i64 rv.rd) (.string rv.val) (.bool rv.done)) (And.intro (set4_other hA.2.2.2.1 nRX (.int .i64 rv.ts) (.int .i64 rv.rd) (.string rv.val) (.bool rv.done)) (And.intro (set4_other hA.2.2.2.2.1 nRX (.int .i64 rv.ts) (.int .i64 rv.rd) (.string rv.val) (.bool rv.done)) (And.intro (set4_other hA.2.2.2.2.2.1 nRX (.int .i64 rv.ts) (.int .i64 rv.rd) (.string rv.val) (.bool rv.done)) (set4_other hA.2.2.2.2.2.2 nRX (.int .i64 rv.ts) (.int .i64 rv.rd) (.string rv.val) (.bool rv.done))))))))) 
    all_goals (try go_wp2_with fail)
    refine bodyPost_ret (results_t_bk rfl _ rfl (hR6.all4 (.int .i64 rv.ts) (.int .i64 rv.rd) (.string rv.val) (.bool rv.done)) Try.underlying76 rfl infoVr) rfl ?_
    have hbw6 : Below w.heap.size w w6 := HB5.out.trans (hb6.mono HB5.out.size)
    have hb : Below w.heap.size w ((((w6.setCell ⟨w.heap.size + 1, 0, none⟩ (.int .i64 rv.ts)).setCell ⟨w.heap.size + 1, 1, none⟩ (.int .i64 rv.rd)).setCell ⟨w.heap.size + 1, 2, none⟩ (.string rv.val)).setCell ⟨w.heap.size + 1, 3, none⟩ (.bool rv.done)) := (((hbw6.setCell (p := ⟨w.heap.size + 1, 0, none⟩) (Nat.le_succ _) _).setCell (p := ⟨w.heap.size + 1, 1, none⟩) (Nat.le_succ _) _).setCell (p := ⟨w.heap.size + 1, 2, none⟩) (Nat.le_succ _) _).setCell (p := ⟨w.heap.size + 1, 3, none⟩) (Nat.le_succ _) _
    refine ⟨_, ret_v (by rw [HV.out.2]; rfl), ?_, hb⟩
    rw [HV.out.1]
    refine Cls.wider (hs6.keep fun q hq => ?_) (fun b q => q.elim Or.inl (fun q => Or.inr ⟨by have := q.1; omega, by have := q.2; simpa [World.setCell] using this⟩))
    refine set4_far w6 (g := w.heap.size + 1) ?_ _ _ _ _
    rcases hq with hq | hq
    · have := hF _ hq; omega
    · have := hq.1; omega

set_option maxRecDepth 100000 in
set_option maxHeartbeats 8000000 in
theorem rwrite11_any {w : World} {F : Nat → Prop} {v : Value} {X : Cl.Cs} (h : Cls w F v X) (hF : ∀ b, F b → b < w.heap.size) (hl : X.length ≤ 1000) (k : Cl.Ky) (hk : (Cl.chain X k).length < 1000) (ts : Int) (val : ByteArray) :
    Calls Try.prog 33 #[v, keyA k, .int .i64 ts, .string val] w fun e w' => ∃ v', e = .returned (.tuple #[v', .int .i64 (Cl.writeF X k ts)]) ∧ Cls w' (fun b => F b ∨ S.New w w' b) v' (Cl.writeX X k ts val) ∧ Below w.heap.size w w' := by
  have HS := Lib.hid h
  have HK := Lib.hid hk
  obtain ⟨A, cap, rfl, hcap⟩ := Cls.form h
  clear h hk
  unfold keyA
  have HB1 : Hid (Below w.heap.size w (w.alloc (.cells #[.int .i64 k.kind, .int .i64 k.a, .int .i64 k.b] 31))) := Lib.hid ((Below.refl _ _).alloc (Nat.le_refl _) _)
  have HK1 := Lib.hid (Bk.new w [.int .i64 k.kind, .int .i64 k.a, .int .i64 k.b] 31 rfl)
  by_cases h0 : ts < 1
  · have HV : Hid (Cl.writeX X k ts val = X ∧ Cl.writeF X k ts = 1) := Lib.hid (by unfold Cl.writeX Cl.writeF; rw [if_pos h0, if_pos h0]; exact ⟨rfl, rfl⟩)
    go_enter Try.func33, Try.ntmps33
    go_wp2
    refine bodyPost_ret (results_tmp2 rfl _ _ _) rfl ?_
    refine ⟨_, ret_v (by rw [HV.out.2]; rfl), ?_, HB1.out⟩
    rw [HV.out.1]
    exact (HS.out.below HB1.out hF).wider (fun b q => Or.inl q)
  · have h0' : (1 : Int) ≤ ts := by omega
    have HV : Hid (Cl.writeX X k ts val = Cl.setX X k (Cn.writeC (Cl.chain X k) ts val) ∧ Cl.writeF X k ts = Cn.writeE (Cl.chain X k) ts) := Lib.hid (by unfold Cl.writeX Cl.writeF; rw [if_neg h0, if_neg h0]; exact ⟨rfl, rfl⟩)
    obtain ⟨rv, hrv⟩ : ∃ rv, rv = Cn.writeE (Cl.chain X k) ts := ⟨_, rfl⟩
    obtain ⟨cv, hcv⟩ : ∃ cv, cv = Cn.writeC (Cl.chain X k) ts val := ⟨_, rfl⟩
    have hcl : cv.length ≤ 1000 := by rw [hcv]; have := Cl.wlen (Cl.chain X k) ts val; have := HK.out; omega
    have HRd : Hid (∀ (W : World) (G : Nat → Prop) (v3 : Value), SlC W G v3 (Cl.chain X k) → (∀ b, G b → b < W.heap.size) → Calls Try.prog 52 #[v3, .int .i64 ts, .string val] W fun e w' => ∃ A4 c4, e = .returned (.tuple #[.slice A4 cv.length c4, .int .i64 rv]) ∧ SlC w' (fun b => G b ∨ S.New W w' b) (.slice A4 cv.length c4) cv ∧ Below W.heap.size W w') := Lib.hid (fun W G v3 hs hG => (rwrite10_any hs hG (by have := HK.out; omega) ts val).mono (fun _ _ hh => by
      obtain ⟨v4, rfl, hs4, hb4⟩ := hh
      rw [← hcv] at hs4
      obtain ⟨A4, c4, rfl, _⟩ := SlC.form hs4
      rw [← hrv]
      exact ⟨A4, c4, rfl, hs4, hb4⟩))
    rw [← hrv, ← hcv] at HV
    have HCl := Lib.hid hcl
    clear hrv hcv hcl
    go_enter Try.func33, Try.ntmps33
    go_wp2_with (first
      | (go_at_call 51
         refine (rchain11_any (HS.out.below HB1.out hF) (fun b q => Nat.lt_of_lt_of_le (hF b q) HB1.out.size) (by omega) k).mono ?_
         rintro e w3 ⟨v3, rfl, hs3, hb3⟩
         have HB3 := Lib.hid (HB1.out.trans (hb3.mono HB1.out.size))
         have HK3 := Lib.hid (HK1.out.step hb3)
         have HS3 := Lib.hid hs3
         have HF3 : Hid (∀ b, (F b ∨ S.New (w.alloc (.cells #[.int .i64 k.kind, .int .i64 k.a, .int .i64 k.b] 31)) w3 b) → b < w3.heap.size) := Lib.hid (fun b q => q.elim (fun q => Nat.lt_of_lt_of_le (hF b q) HB3.out.size) (fun q => q.2))
         clear hs3 hb3 HK1 HB1)
      | (go_at_call 52
         refine (HRd.out _ _ _ HS3.out HF3.out).mono ?_
         rintro e w5 ⟨A4, c4, rfl, hs4, hb4⟩
         have HB5 := Lib.hid (HB3.out.trans (hb4.mono HB3.out.size))
         have HK5 := Lib.hid (HK3.out.step hb4)
         have HS5 : Hid (SlC w5 (fun b => F b ∨ S.New w w5 b) (.slice A4 cv.length c4) cv) := Lib.hid (S.Sg.wider hs4 (fun b q => by
           have h3 := HK3.out.lt
           have h4 := hb4.size
           rcases q with (q | q) | q
           · exact Or.inl q
           · have q1 := q.1; have q2 := q.2; simp at q1; exact Or.inr ⟨by omega, by omega⟩
           · have q1 := q.1; have q2 := q.2; exact Or.inr ⟨by omega, by omega⟩))
         have k0 := HK5.out.cell 0 _ rfl
         have k1 := HK5.out.cell 1 _ rfl
         have k2 := HK5.out.cell 2 _ rfl
         clear hs4 hb4 HK3 HB3 HS3 HF3)
      | (go_at_call 36
         refine (rset11_any (F := fun b => F b ∨ S.New w w5 b) ((HS.out.below HB5.out hF).wider (fun b q => Or.inl q)) HS5.out (fun b q => q.elim (fun q => Nat.lt_of_lt_of_le (hF b q) HB5.out.size) (fun q => q.2)) hl HCl.out k).mono ?_
         rintro e w6 ⟨v6, rfl, hs6, b6⟩
         clear k0 k1 k2))
    refine bodyPost_ret (results_tmp2 rfl _ _ _) rfl ?_
    have h5 := HK5.out.lt
    have hz := b6.size
    refine ⟨_, ret_v (by rw [HV.out.2]; rfl), ?_, HB5.out.trans (b6.mono HB5.out.size)⟩
    rw [HV.out.1]
    refine hs6.wider (fun b q => ?_)
    rcases q with (q | q) | q
    · exact Or.inl q
    · have q1 := q.1; have q2 := q.2; exact Or.inr ⟨by omega, by omega⟩
    · have q1 := q.1; have q2 := q.2; exact Or.inr ⟨by omega, by omega⟩

end Go.Proofs.Ytpppjipelcfnkaa
