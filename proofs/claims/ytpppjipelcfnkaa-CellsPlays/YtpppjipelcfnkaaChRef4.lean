/-
  Walks of the document's chain: Read.
-/
import Derived.Test.YtpppjipelcfnkaaChRef3
namespace Go.Proofs.Ytpppjipelcfnkaa.Cn

theorem at_lt {c : Ch} {ts : Int} {k : Nat} (h : at? c ts = some k) : k < c.length := by
  unfold at? at h
  split at h
  · rename_i g
    have : lo c ts ≤ c.length := by unfold lo; exact (List.takeWhile_sublist _).length_le
    cases h
    omega
  · cases h
theorem getV_eq {c : Ch} {k : Nat} (hk : k < c.length) : getV c k = c[k] := by
  unfold getV
  simp [List.getD, hk]
theorem look_some {c : Ch} {ts : Int} {k : Nat} (h : at? c ts = some k) : look c ts = (k : Int) := by unfold look; rw [h]
theorem look_none {c : Ch} {ts : Int} (h : at? c ts = none) : look c ts = -1 := by unfold look; rw [h]
theorem read_some {c : Ch} {ts : Int} {k : Nat} (h : at? c ts = some k) (hk : k < c.length) : readC c ts = c.set k (touch c[k] ts) ∧ readV c ts = touch c[k] ts := by
  unfold readC readV
  rw [h]
  dsimp only
  rw [getV_eq hk]
  exact ⟨rfl, rfl⟩
end Go.Proofs.Ytpppjipelcfnkaa.Cn

namespace Go.Proofs.Ytpppjipelcfnkaa
open Go.RowKit

theorem results_t_bk {P : Program} {fn : Func} {r s : Tmp} {ty : TypeId} {d : TypeDesc} {w : World} {p : Nat} {vs : List Value} (hr : fn.results = #[.tmp s, .cell r ty]) (tmps : Array Value) (hp : tmps.getD r undef = .pointer (some ⟨p, 0, none⟩)) (h : Bk w p vs)
    (hu : P.underlying ty = some d) (hd : d.isRow = true) (hi : (P.info? ty).map (·.size) = some vs.length) : (results fn tmps).run P w = .ok (.tuple #[tmps.getD s undef, .agg vs.toArray]) w := by
  have hl := load_bk h hu hd hi
  have hp' : tmps[r]?.getD undef = .pointer (some ⟨p, 0, none⟩) := by simpa using hp
  simp [results, hr, hp', asAddr, hl]

theorem set4_far (w : World) {g : Nat} {a : Addr} (hg : g ≠ a.block) (u0 u1 u2 u3 : Value) : ((((w.setCell ⟨g, 0, none⟩ u0).setCell ⟨g, 1, none⟩ u1).setCell ⟨g, 2, none⟩ u2).setCell ⟨g, 3, none⟩ u3).cell? a = w.cell? a := by
  rw [World.cell?_setCell_far _ _ _ _ (by exact hg), World.cell?_setCell_far _ _ _ _ (by exact hg), World.cell?_setCell_far _ _ _ _ (by exact hg), World.cell?_setCell_far _ _ _ _ (by exact hg)]
theorem set4_other {w : World} {a : Addr} {v : Value} (h : w.cell? a = some v) {g : Nat} (hg : g ≠ a.block) (u0 u1 u2 u3 : Value) : ((((w.setCell ⟨g, 0, none⟩ u0).setCell ⟨g, 1, none⟩ u1).setCell ⟨g, 2, none⟩ u2).setCell ⟨g, 3, none⟩ u3).cell? a = some v := (set4_far w hg u0 u1 u2 u3).trans h
theorem four_same {w w1 : World} {p : Addr} {u0 u1 u2 u3 : Value} (hc : ∀ q : Addr, w1.cell? q = w.cell? q) (h : w.cell? p = some u0 ∧ w.cell? ⟨p.block, p.off + 1, none⟩ = some u1 ∧ w.cell? ⟨p.block, p.off + 2, none⟩ = some u2 ∧ w.cell? ⟨p.block, p.off + 3, none⟩ = some u3) :
    w1.cell? p = some u0 ∧ w1.cell? ⟨p.block, p.off + 1, none⟩ = some u1 ∧ w1.cell? ⟨p.block, p.off + 2, none⟩ = some u2 ∧ w1.cell? ⟨p.block, p.off + 3, none⟩ = some u3 :=
  ⟨(hc _).trans h.1, (hc _).trans h.2.1, (hc _).trans h.2.2.1, (hc _).trans h.2.2.2⟩
theorem four_keep {w w1 : World} {B : Nat} {p : Addr} {u0 u1 u2 u3 : Value} (hb : Below B w w1) (hp : p.block < B) (h : w.cell? p = some u0 ∧ w.cell? ⟨p.block, p.off + 1, none⟩ = some u1 ∧ w.cell? ⟨p.block, p.off + 2, none⟩ = some u2 ∧ w.cell? ⟨p.block, p.off + 3, none⟩ = some u3) :
    w1.cell? p = some u0 ∧ w1.cell? ⟨p.block, p.off + 1, none⟩ = some u1 ∧ w1.cell? ⟨p.block, p.off + 2, none⟩ = some u2 ∧ w1.cell? ⟨p.block, p.off + 3, none⟩ = some u3 :=
  ⟨(hb.cell hp).trans h.1, (hb.cell (p := ⟨p.block, p.off + 1, none⟩) hp).trans h.2.1, (hb.cell (p := ⟨p.block, p.off + 2, none⟩) hp).trans h.2.2.1, (hb.cell (p := ⟨p.block, p.off + 3, none⟩) hp).trans h.2.2.2⟩

set_option maxRecDepth 100000 in
set_option maxHeartbeats 4000000 in
theorem rread10_any {w : World} {F : Nat → Prop} {v : Value} {c : Cn.Ch} (h : SlC w F v c) (hF : ∀ b, F b → b < w.heap.size) (hl : c.length ≤ 1000000) (ts : Int) :
    Calls Try.prog 50 #[v, .int .i64 ts] w fun e w' => ∃ v', e = .returned (.tuple #[v', verA (Cn.readV c ts)]) ∧ SlC w' (fun b => F b ∨ S.New w w' b) v' (Cn.readC c ts) ∧ Below w.heap.size w w' := by
  have HS := Lib.hid h
  obtain ⟨A, cap, rfl, hcap⟩ := SlC.form h
  clear h
  have R0 := Bk.new w [.int .i64 0, .int .i64 0, .string ByteArray.empty, .bool false] 76 rfl
  have hb1 : Below w.heap.size w (w.alloc (.cells #[.int .i64 0, .int .i64 0, .string ByteArray.empty, .bool false] 76)) := (Below.refl _ _).alloc (Nat.le_refl _) _
  have HL := Lib.hid (rlook10_any (HS.out.below hb1 hF) hl ts)
  have HB1 := Lib.hid hb1
  have HR0 := Lib.hid R0
  clear hb1 R0
  cases hat : Cn.at? c ts with
  | none =>
    rw [Cn.look_none hat] at HL
    have HV : Hid (Cn.readC c ts = c ∧ Cn.readV c ts = Cn.zero) := Lib.hid ⟨Cn.readC_none hat, Cn.readV_none hat⟩
    clear hat
    go_enter Try.func50, Try.ntmps50
    go_wp2_with (first
      | (go_at_call 62; refine HL.out.mono ?_; rintro e w1 ⟨rfl, hs⟩; have R1 := Lib.hid (HR0.out.step hs.low); have r0 := R1.out.cell 0 _ rfl; have r1 := R1.out.cell 1 _ rfl; have r2 := R1.out.cell 2 _ rfl; have r3 := R1.out.cell 3 _ rfl; have f0 := R1.out.fz 0 (by simp); have f1 := R1.out.fz 1 (by simp); have f2 := R1.out.fz 2 (by simp); have f3 := R1.out.fz 3 (by simp); have HS1 := Lib.hid hs; clear hs))
    refine bodyPost_ret (results_t_bk rfl _ rfl (R1.out.all4 (.int .i64 0) (.int .i64 0) (.string ByteArray.empty) (.bool false)) Try.underlying76 rfl infoVr) rfl ?_
    have hb : Below w.heap.size w ((((w1.setCell ⟨w.heap.size, 0, none⟩ (.int .i64 0)).setCell ⟨w.heap.size, 1, none⟩ (.int .i64 0)).setCell ⟨w.heap.size, 2, none⟩ (.string ByteArray.empty)).setCell ⟨w.heap.size, 3, none⟩ (.bool false)) := ((((HB1.out.trans (HS1.out.low.mono HB1.out.size)).setCell (p := ⟨w.heap.size, 0, none⟩) (Nat.le_refl _) _).setCell (p := ⟨w.heap.size, 1, none⟩) (Nat.le_refl _) _).setCell (p := ⟨w.heap.size, 2, none⟩) (Nat.le_refl _) _).setCell (p := ⟨w.heap.size, 3, none⟩) (Nat.le_refl _) _
    refine ⟨_, ret_v (by rw [HV.out.2]; rfl), ?_, hb⟩
    rw [HV.out.1]
    exact (HS.out.below hb hF).wider (fun b q => Or.inl q)
  | some k =>
    have hk := Cn.at_lt hat
    rw [Cn.look_some hat] at HL
    have HV := Lib.hid (Cn.read_some hat hk)
    obtain ⟨x, hx⟩ : ∃ x, x = Cn.touch c[k] ts := ⟨_, rfl⟩
    rw [← hx] at HV
    have HX := Lib.hid hx
    clear hat hx
    have hk0 : (0 : Int) ≤ (k : Int) := by omega
    have hk1 : (k : Int) < (c.length : Int) := by omega
    have hkn : ¬ (k : Int) < 0 := by omega
    obtain ⟨ad, _, ea, _, hFa, y0, y1, y2, y3⟩ := HS.out.nth k hk
    cases ea
    have had : (ad.add (k * 4)).block < w.heap.size := by rw [S.add_block]; exact hF _ hFa
    have HY := Lib.hid (And.intro y0 (And.intro y1 (And.intro y2 y3)))
    have XT : Hid (x.ts = c[k].ts ∧ x.rd = max c[k].rd ts ∧ x.val = c[k].val ∧ x.done = c[k].done) := Lib.hid (by rw [HX.out]; exact ⟨rfl, rfl, rfl, rfl⟩)
    clear y0 y1 y2 y3 HX
    generalize c[k] = u at *
    by_cases hc : ts ≤ u.rd
    · have XE : Hid (verA x = .agg #[.int .i64 u.ts, .int .i64 u.rd, .string u.val, .bool u.done]) := Lib.hid (by
        obtain ⟨e1, e2, e3, e4⟩ := XT.out
        unfold verA
        rw [e1, e2, e3, e4, show max u.rd ts = u.rd by omega])
      go_enter Try.func50, Try.ntmps50
      go_wp2_with (first
        | (go_at_call 62; refine HL.out.mono ?_; rintro e w1 ⟨rfl, hs⟩; obtain ⟨y0, y1, y2, y3⟩ := four_keep (HB1.out.trans (hs.low.mono HB1.out.size)) had HY.out; have HS1 := Lib.hid hs; clear hs))
      have hb1 := HB1.out.trans (HS1.out.low.mono HB1.out.size)
      have hb5 : Below w.heap.size w (w1.alloc (.cells #[.int .i64 u.ts, .int .i64 u.rd, .string u.val, .bool u.done] 76)) := hb1.alloc hb1.size _
      have HX5 := Lib.hid (Bk.new w1 [.int .i64 u.ts, .int .i64 u.rd, .string u.val, .bool u.done] 76 rfl)
      have HR5 := Lib.hid ((HR0.out.step HS1.out.low).alloc (.cells #[.int .i64 u.ts, .int .i64 u.rd, .string u.val, .bool u.done] 76))
      have hlt : w.heap.size < w1.heap.size := (HR0.out.step HS1.out.low).lt
      have nRX : w.heap.size ≠ w1.heap.size := by omega
      have HB5 := Lib.hid hb5
      clear hb1 hb5 y0 y1 y2 y3 HS1 HR0 HB1 HL HY
      change Code.wp Try.prog _ _ _ (w1.alloc (.cells #[.int .i64 u.ts, .int .i64 u.rd, .string u.val, .bool u.done] 76))
      generalize (w1.alloc (.cells #[.int .i64 u.ts, .int .i64 u.rd, .string u.val, .bool u.done] 76)) = w5 at *
      generalize w1.heap.size = X at *
      have hbd := Lib.hid (Below.drew (Below.refl w5.heap.size w5))
      have HWi : Hid (∀ wd, Below w5.heap.size w5 wd → Calls Try.prog 63 #[.slice (some ad) c.length cap, .int .i64 (k : Int), .agg #[.int .i64 u.ts, .int .i64 u.rd, .string u.val, .bool u.done]] wd fun e w' => ∃ A6 cap6, e = .returned (.slice A6 c.length cap6) ∧ SlC w' (S.New wd w') (.slice A6 c.length cap6) (c.set k x) ∧ Below wd.heap.size wd w') := Lib.hid (fun wd hb => by
        rw [← XE.out]
        refine (rwith10_any (HS.out.below (HB5.out.trans (hb.mono HB5.out.size)) hF) (fun b q => Nat.lt_of_lt_of_le (hF b q) (Nat.le_trans HB5.out.size hb.size)) hl hk x).mono (fun _ _ hh => ?_)
        obtain ⟨v', rfl, hs', hb'⟩ := hh
        obtain ⟨A6, cap6, rfl, _⟩ := SlC.form hs'
        rw [List.length_set] at hs' ⊢
        exact ⟨A6, cap6, rfl, hs', hb'⟩)
      have HSX : Hid (∀ w', Below w5.heap.size w5 w' → w'.cell? ⟨X, 0, none⟩ = some (.int .i64 u.ts) ∧ w'.cell? ⟨X, 1, none⟩ = some (.int .i64 u.rd) ∧ w'.cell? ⟨X, 2, none⟩ = some (.string u.val) ∧ w'.cell? ⟨X, 3, none⟩ = some (.bool u.done)) := Lib.hid (fun w' hb => ⟨(HX5.out.step hb).cell 0 _ rfl, (HX5.out.step hb).cell 1 _ rfl, (HX5.out.step hb).cell 2 _ rfl, (HX5.out.step hb).cell 3 _ rfl⟩)
      have hSd := HSX.out w5.drew hbd.out
      clear had hFa hc
      go_region_held3 (fun w' => w'.cell? ⟨X, 0, none⟩ = some (.int .i64 u.ts) ∧ w'.cell? ⟨X, 1, none⟩ = some (.int .i64 u.rd) ∧ w'.cell? ⟨X, 2, none⟩ = some (.string u.val) ∧ w'.cell? ⟨X, 3, none⟩ = some (.bool u.done))
        (first | with_reducible assumption | go_keep)
        (first
          | (go_at_call 63
             (with_reducible refine (HWi.out _ hbd.out).mono ?_)
             rintro e w6 ⟨A6, cap6, rfl, hs6, b6⟩
             have hb6 := below_two hbd.out b6
             have hA := HSX.out w6 hb6
             have hR6 := HR5.out.step hb6
             have r0 := hR6.cell 0 _ rfl
             have r1 := hR6.cell 1 _ rfl
             have r2 := hR6.cell 2 _ rfl
             have r3 := hR6.cell 3 _ rfl
             have g0 := hR6.fz 0 (by simp)
             have g1 := hR6.fz 1 (by simp)
             have g2 := hR6.fz 2 (by simp)
             have g3 := hR6.fz 3 (by simp)
             have hA' := And.intro (set4_other hA.1 nRX (.int .i64 u.ts) (.int .i64 u.rd) (.string u.val) (.bool u.done)) (And.intro (set4_other hA.2.1 nRX (.int .i64 u.ts) (.int .i64 u.rd) (.string u.val) (.bool u.done)) (And.intro (set4_other hA.2.2.1 nRX (.int .i64 u.ts) (.int .i64 u.rd) (.string u.val) (.bool u.done)) (set4_other hA.2.2.2 nRX (.int .i64 u.ts) (.int .i64 u.rd) (.string u.val) (.bool u.done))))))
      all_goals (try go_wp2_with fail)
      refine bodyPost_ret (results_t_bk rfl _ rfl (hR6.all4 (.int .i64 u.ts) (.int .i64 u.rd) (.string u.val) (.bool u.done)) Try.underlying76 rfl infoVr) rfl ?_
      have hbw6 : Below w.heap.size w w6 := HB5.out.trans (hb6.mono HB5.out.size)
      have hb : Below w.heap.size w ((((w6.setCell ⟨w.heap.size, 0, none⟩ (.int .i64 u.ts)).setCell ⟨w.heap.size, 1, none⟩ (.int .i64 u.rd)).setCell ⟨w.heap.size, 2, none⟩ (.string u.val)).setCell ⟨w.heap.size, 3, none⟩ (.bool u.done)) := (((hbw6.setCell (p := ⟨w.heap.size, 0, none⟩) (Nat.le_refl _) _).setCell (p := ⟨w.heap.size, 1, none⟩) (Nat.le_refl _) _).setCell (p := ⟨w.heap.size, 2, none⟩) (Nat.le_refl _) _).setCell (p := ⟨w.heap.size, 3, none⟩) (Nat.le_refl _) _
      refine ⟨_, ret_v (by rw [HV.out.2, XE.out]), ?_, hb⟩
      rw [HV.out.1]
      have hlen : (c.set k x).length = c.length := List.length_set
      show S.Sg _ _ 4 _ (c.set k x).length _
      rw [hlen]
      have hs6 : S.Sg w6 (S.New w5.drew w6) 4 (.slice A6 c.length cap6) c.length (verV (c.set k x)) := by
        have := hs6
        unfold SlC at this
        rw [hlen] at this
        exact this
      have h5 : w.heap.size < w5.heap.size := HR5.out.lt
      refine S.Sg.wider (hs6.keep fun q hq => ?_) (fun b q => Or.inr ⟨by have := q.1; show w.heap.size ≤ b; have h9 : w5.heap.size ≤ b := q.1; omega, by have := q.2; simpa [World.setCell] using this⟩)
      have hqb : w5.heap.size ≤ q.block := hq.1
      exact set4_far w6 (g := w.heap.size) (by omega) _ _ _ _
    · have hc : u.rd < ts := by omega
      have XE : Hid (verA x = .agg #[.int .i64 u.ts, .int .i64 ts, .string u.val, .bool u.done]) := Lib.hid (by
        obtain ⟨e1, e2, e3, e4⟩ := XT.out
        unfold verA
        rw [e1, e2, e3, e4, show max u.rd ts = ts by omega])
      go_enter Try.func50, Try.ntmps50
      go_wp2_with (first
        | (go_at_call 62; refine HL.out.mono ?_; rintro e w1 ⟨rfl, hs⟩; obtain ⟨y0, y1, y2, y3⟩ := four_keep (HB1.out.trans (hs.low.mono HB1.out.size)) had HY.out; have HS1 := Lib.hid hs; clear hs))
      have hb1 := HB1.out.trans (HS1.out.low.mono HB1.out.size)
      have hb5 : Below w.heap.size w (w1.alloc (.cells #[.int .i64 u.ts, .int .i64 ts, .string u.val, .bool u.done] 76)) := hb1.alloc hb1.size _
      have HX5 := Lib.hid (Bk.new w1 [.int .i64 u.ts, .int .i64 ts, .string u.val, .bool u.done] 76 rfl)
      have HR5 := Lib.hid ((HR0.out.step HS1.out.low).alloc (.cells #[.int .i64 u.ts, .int .i64 ts, .string u.val, .bool u.done] 76))
      have hlt : w.heap.size < w1.heap.size := (HR0.out.step HS1.out.low).lt
      have nRX : w.heap.size ≠ w1.heap.size := by omega
      have HB5 := Lib.hid hb5
      clear hb1 hb5 y0 y1 y2 y3 HS1 HR0 HB1 HL HY
      change Code.wp Try.prog _ _ _ (w1.alloc (.cells #[.int .i64 u.ts, .int .i64 ts, .string u.val, .bool u.done] 76))
      generalize (w1.alloc (.cells #[.int .i64 u.ts, .int .i64 ts, .string u.val, .bool u.done] 76)) = w5 at *
      generalize w1.heap.size = X at *
      have hbd := Lib.hid (Below.drew (Below.refl w5.heap.size w5))
      have HWi : Hid (∀ wd, Below w5.heap.size w5 wd → Calls Try.prog 63 #[.slice (some ad) c.length cap, .int .i64 (k : Int), .agg #[.int .i64 u.ts, .int .i64 ts, .string u.val, .bool u.done]] wd fun e w' => ∃ A6 cap6, e = .returned (.slice A6 c.length cap6) ∧ SlC w' (S.New wd w') (.slice A6 c.length cap6) (c.set k x) ∧ Below wd.heap.size wd w') := Lib.hid (fun wd hb => by
        rw [← XE.out]
        refine (rwith10_any (HS.out.below (HB5.out.trans (hb.mono HB5.out.size)) hF) (fun b q => Nat.lt_of_lt_of_le (hF b q) (Nat.le_trans HB5.out.size hb.size)) hl hk x).mono (fun _ _ hh => ?_)
        obtain ⟨v', rfl, hs', hb'⟩ := hh
        obtain ⟨A6, cap6, rfl, _⟩ := SlC.form hs'
        rw [List.length_set] at hs' ⊢
        exact ⟨A6, cap6, rfl, hs', hb'⟩)
      have HSX : Hid (∀ w', Below w5.heap.size w5 w' → w'.cell? ⟨X, 0, none⟩ = some (.int .i64 u.ts) ∧ w'.cell? ⟨X, 1, none⟩ = some (.int .i64 ts) ∧ w'.cell? ⟨X, 2, none⟩ = some (.string u.val) ∧ w'.cell? ⟨X, 3, none⟩ = some (.bool u.done)) := Lib.hid (fun w' hb => ⟨(HX5.out.step hb).cell 0 _ rfl, (HX5.out.step hb).cell 1 _ rfl, (HX5.out.step hb).cell 2 _ rfl, (HX5.out.step hb).cell 3 _ rfl⟩)
      have hSd := HSX.out w5.drew hbd.out
      clear had hFa hc
      go_region_held3 (fun w' => w'.cell? ⟨X, 0, none⟩ = some (.int .i64 u.ts) ∧ w'.cell? ⟨X, 1, none⟩ = some (.int .i64 ts) ∧ w'.cell? ⟨X, 2, none⟩ = some (.string u.val) ∧ w'.cell? ⟨X, 3, none⟩ = some (.bool u.done))
        (first | with_reducible assumption | go_keep)
        (first
          | (go_at_call 63
             (with_reducible refine (HWi.out _ hbd.out).mono ?_)
             rintro e w6 ⟨A6, cap6, rfl, hs6, b6⟩
             have hb6 := below_two hbd.out b6
             have hA := HSX.out w6 hb6
             have hR6 := HR5.out.step hb6
             have r0 := hR6.cell 0 _ rfl
             have r1 := hR6.cell 1 _ rfl
             have r2 := hR6.cell 2 _ rfl
             have r3 := hR6.cell 3 _ rfl
             have g0 := hR6.fz 0 (by simp)
             have g1 := hR6.fz 1 (by simp)
             have g2 := hR6.fz 2 (by simp)
             have g3 := hR6.fz 3 (by simp)
             have hA' := And.intro (set4_other hA.1 nRX (.int .i64 u.ts) (.int .i64 ts) (.string u.val) (.bool u.done)) (And.intro (set4_other hA.2.1 nRX (.int .i64 u.ts) (.int .i64 ts) (.string u.val) (.bool u.done)) (And.intro (set4_other hA.2.2.1 nRX (.int .i64 u.ts) (.int .i64 ts) (.string u.val) (.bool u.done)) (set4_other hA.2.2.2 nRX (.int .i64 u.ts) (.int .i64 ts) (.string u.val) (.bool u.done))))))
      all_goals (try go_wp2_with fail)
      refine bodyPost_ret (results_t_bk rfl _ rfl (hR6.all4 (.int .i64 u.ts) (.int .i64 ts) (.string u.val) (.bool u.done)) Try.underlying76 rfl infoVr) rfl ?_
      have hbw6 : Below w.heap.size w w6 := HB5.out.trans (hb6.mono HB5.out.size)
      have hb : Below w.heap.size w ((((w6.setCell ⟨w.heap.size, 0, none⟩ (.int .i64 u.ts)).setCell ⟨w.heap.size, 1, none⟩ (.int .i64 ts)).setCell ⟨w.heap.size, 2, none⟩ (.string u.val)).setCell ⟨w.heap.size, 3, none⟩ (.bool u.done)) := (((hbw6.setCell (p := ⟨w.heap.size, 0, none⟩) (Nat.le_refl _) _).setCell (p := ⟨w.heap.size, 1, none⟩) (Nat.le_refl _) _).setCell (p := ⟨w.heap.size, 2, none⟩) (Nat.le_refl _) _).setCell (p := ⟨w.heap.size, 3, none⟩) (Nat.le_refl _) _
      refine ⟨_, ret_v (by rw [HV.out.2, XE.out]), ?_, hb⟩
      rw [HV.out.1]
      have hlen : (c.set k x).length = c.length := List.length_set
      show S.Sg _ _ 4 _ (c.set k x).length _
      rw [hlen]
      have hs6 : S.Sg w6 (S.New w5.drew w6) 4 (.slice A6 c.length cap6) c.length (verV (c.set k x)) := by
        have := hs6
        unfold SlC at this
        rw [hlen] at this
        exact this
      have h5 : w.heap.size < w5.heap.size := HR5.out.lt
      refine S.Sg.wider (hs6.keep fun q hq => ?_) (fun b q => Or.inr ⟨by have := q.1; show w.heap.size ≤ b; have h9 : w5.heap.size ≤ b := q.1; omega, by have := q.2; simpa [World.setCell] using this⟩)
      have hqb : w5.heap.size ≤ q.block := hq.1
      exact set4_far w6 (g := w.heap.size) (by omega) _ _ _ _

end Go.Proofs.Ytpppjipelcfnkaa
