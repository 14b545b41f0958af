/-
  Walks of the document's ring: a record appended.
-/
import Derived.Test.YtfpojbnidoeohaaRgRef2
import Derived.Test.YtfpojbnidoeohaaFrAbs
import Derived.Deep.RegionHeld3
namespace Go.Proofs.Ytfpojbnidoeohaa
open Go.RowKit

section
variable {F : Nat → Prop} {w w1 : World}
theorem Turn.refl (F : Nat → Prop) (w : World) : Turn F w w := ⟨rfl, rfl, rfl, Nat.le_refl _, fun _ _ _ => rfl⟩
theorem Turn.put (h : Turn F w w1) {q : Nat} (hq : F q) (o : Nat) (u : Value) : Turn F w (w1.setCell ⟨q, o, none⟩ u) :=
  ⟨h.os, h.tape, h.output, by simpa [World.setCell] using h.size, fun k hk hF => (Below.heap_setCell w1 ⟨q, o, none⟩ u k (fun e => hF (by have e : k = q := e; rw [e]; exact hq))).trans (h.block k hk hF)⟩
end

/-- eight cells of a block stored -/
abbrev set8 (w : World) (q : Nat) (a0 a1 a2 a3 a4 a5 a6 a7 : Value) : World := (((((((w.setCell ⟨q, 0, none⟩ a0).setCell ⟨q, 1, none⟩ a1).setCell ⟨q, 2, none⟩ a2).setCell ⟨q, 3, none⟩ a3).setCell ⟨q, 4, none⟩ a4).setCell ⟨q, 5, none⟩ a5).setCell ⟨q, 6, none⟩ a6).setCell ⟨q, 7, none⟩ a7
theorem set8_turn (w : World) (q : Nat) (a0 a1 a2 a3 a4 a5 a6 a7 : Value) : Turn (fun b => b = q) w (set8 w q a0 a1 a2 a3 a4 a5 a6 a7) :=
  ((((((((Turn.refl (fun b => b = q) w).put (q := q) rfl 0 a0).put (q := q) rfl 1 a1).put (q := q) rfl 2 a2).put (q := q) rfl 3 a3).put (q := q) rfl 4 a4).put (q := q) rfl 5 a5).put (q := q) rfl 6 a6).put (q := q) rfl 7 a7
theorem set8_turn' {F : Nat → Prop} {w w1 : World} (h : Turn F w w1) {q : Nat} (hq : F q) (a0 a1 a2 a3 a4 a5 a6 a7 : Value) : Turn F w (set8 w1 q a0 a1 a2 a3 a4 a5 a6 a7) :=
  (((((((h.put hq 0 a0).put hq 1 a1).put hq 2 a2).put hq 3 a3).put hq 4 a4).put hq 5 a5).put hq 6 a6).put hq 7 a7
theorem Turn.drew {F : Nat → Prop} {w w1 : World} (h : Turn F w w1) : Turn F w w1.drew := ⟨h.os, h.tape, h.output, h.size, h.block⟩
theorem set8_size (w : World) (q : Nat) (a0 a1 a2 a3 a4 a5 a6 a7 : Value) : (set8 w q a0 a1 a2 a3 a4 a5 a6 a7).heap.size = w.heap.size := by simp [set8, World.setCell]
theorem Bk.all8 {w : World} {p : Nat} {b0 b1 b2 b3 b4 b5 b6 b7 : Value} (h : Bk w p [b0, b1, b2, b3, b4, b5, b6, b7]) (a0 a1 a2 a3 a4 a5 a6 a7 : Value) : Bk (set8 w p a0 a1 a2 a3 a4 a5 a6 a7) p [a0, a1, a2, a3, a4, a5, a6, a7] :=
  (((((((h.set 0 (by simp) a0).set 1 (by simp) a1).set 2 (by simp) a2).set 3 (by simp) a3).set 4 (by simp) a4).set 5 (by simp) a5).set 6 (by simp) a6).set 7 (by simp) a7
theorem Bk.turn {F : Nat → Prop} {w w' : World} {p : Nat} {vs : List Value} (h : Bk w p vs) (ht : Turn F w w') (hp : ¬ F p) : Bk w' p vs := h.keep (ht.block p h.lt hp) ht.size

theorem results_bk_2 {P : Program} {fn : Func} {r s t : Tmp} {ty : TypeId} {d : TypeDesc} {w : World} {p : Nat} {vs : List Value} (hr : fn.results = #[.cell r ty, .tmp s, .tmp t]) (tmps : Array Value) (hp : tmps.getD r undef = .pointer (some ⟨p, 0, none⟩)) (h : Bk w p vs)
    (hu : P.underlying ty = some d) (hd : d.isRow = true) (hi : (P.info? ty).map (·.size) = some vs.length) : (results fn tmps).run P w = .ok (.tuple #[.agg vs.toArray, tmps.getD s undef, tmps.getD t undef]) w := by
  have hl := load_bk h hu hd hi
  have hp' : tmps[r]?.getD undef = .pointer (some ⟨p, 0, none⟩) := by simpa using hp
  simp [results, hr, hp', asAddr, hl]

/-- what the loop over a record's frames keeps -/
structure RAp (w : World) (F : Nat → Prop) (r : G.Rg) (rec : List UInt8) (vf : Value) (k : Nat) (wr : World) : Prop where
  ex : ∃ x1 x2 x3, Bk wr w.heap.size (rgC x1 x2 x3 r) ∧ Rd wr (fun b => F b ∨ (w.heap.size + 2 ≤ b ∧ b < wr.heap.size)) (.agg #[x1, x2, x3]) (G.lay r.first r.many r.d (G.firsts r.epoch r.next rec k))
  q : Bk wr (w.heap.size + 1) [nilV, nilV, nilV, .int .i64 0, .int .i64 0, .int .u32 0, .int .u32 0, .int .u32 0]
  fr : wr.ownsRow (w.heap.size + 2) 102 4 vf (R.cut r.epoch r.next rec).length ((R.cut r.epoch r.next rec).flatMap frC)
  bel : Below w.heap.size w wr
  sz : w.heap.size + 2 ≤ wr.heap.size

theorem frC_len (f : R.Fr) : (frC f).length = 4 := rfl

theorem set3_size (w : World) (q : Nat) (a0 a1 a2 : Value) : (((w.setCell ⟨q, 0, none⟩ a0).setCell ⟨q, 1, none⟩ a1).setCell ⟨q, 2, none⟩ a2).heap.size = w.heap.size := by simp [World.setCell]

/-- one frame more, its disk laid in its place -/
theorem RAp.next {w : World} {F : Nat → Prop} {r : G.Rg} {rec : List UInt8} {vf : Value} {k : Nat} {wr wf : World} (h : RAp w F r rec vf k wr) (hF : ∀ b, F b → b < w.heap.size) (hb : Below wr.heap.size wr wf) {y1 y2 y3 : Value} {d' : D.Dk}
    (hd : Rd wf (fun b => F b ∨ (w.heap.size + 2 ≤ b ∧ b < wf.heap.size)) (.agg #[y1, y2, y3]) d') (he : d' = G.lay r.first r.many r.d (G.firsts r.epoch r.next rec (k + 1))) :
    RAp w F r rec vf (k + 1) (((wf.setCell ⟨w.heap.size, 0, none⟩ y1).setCell ⟨w.heap.size, 1, none⟩ y2).setCell ⟨w.heap.size, 2, none⟩ y3) := by
  obtain ⟨⟨x1, x2, x3, P, _⟩, Q, fr, bel, sz⟩ := h
  have P1 := (((P.step hb).set 0 (by simp [rgC]) y1).set 1 (by simp [rgC]) y2).set 2 (by simp [rgC]) y3
  have hz := set3_size wf w.heap.size y1 y2 y3
  have nP : ¬ (fun b => F b ∨ (w.heap.size + 2 ≤ b ∧ b < wf.heap.size)) w.heap.size := by
    rintro (g | g)
    · have := hF _ g; omega
    · omega
  have hbs := hb.size
  refine ⟨⟨y1, y2, y3, P1, ?_⟩, ?_, ?_, ?_, by omega⟩
  · rw [hz, ← he]
    exact ((hd.set nP 0 y1).set nP 1 y2).set nP 2 y3
  · exact (((Q.step hb).other (by omega) 0 y1).other (by omega) 1 y2).other (by omega) 2 y3
  · exact S.own_set (S.own_set (S.own_set (S.own_below fr hb) (by omega) 0 y1) (by omega) 1 y2) (by omega) 2 y3
  · exact (((bel.trans (hb.mono bel.size)).setCell (p := ⟨w.heap.size, 0, none⟩) (Nat.le_refl _) y1).setCell (p := ⟨w.heap.size, 1, none⟩) (Nat.le_refl _) y2).setCell (p := ⟨w.heap.size, 2, none⟩) (Nat.le_refl _) y3

theorem told_ok {r : G.Rg} {rec : List UInt8} (h : r.err rec = 0) : r.told rec = r.next + R.many rec.length := by rw [G.Rg.told, if_pos h]
theorem told_no {r : G.Rg} {rec : List UInt8} (h : r.err rec ≠ 0) : r.told rec = 0 := by rw [G.Rg.told, if_neg h]
theorem append_ok {r : G.Rg} {rec : List UInt8} (h : r.err rec = 0) : r.append rec = r.put rec := by rw [G.Rg.append, if_pos h]
theorem append_no {r : G.Rg} {rec : List UInt8} (h : r.err rec ≠ 0) : r.append rec = r := by rw [G.Rg.append, if_neg h]

set_option maxRecDepth 100000 in
set_option maxHeartbeats 8000000 in
theorem rappend_any {w : World} {F : Nat → Prop} {v : Value} {r : G.Rg} (rec : List UInt8) (h : Rr w F v r) (hF : ∀ b, F b → b < w.heap.size) (hn : RgNum r) (hm : r.May) (hrow : r.d.row.length ≤ 900000) (hl : rec.length ≤ 100000) :
    Calls Try.prog 33 #[v, .string ⟨rec.toArray⟩] w fun e w' => ∃ v', e = .returned (.tuple #[v', .int .u32 (r.told rec : Nat), .int .i64 (r.err rec)]) ∧ Rr w' (fun b => F b ∨ S.New w w' b) v' (r.append rec) ∧ Below w.heap.size w w' := by
  obtain ⟨a, b, c, rfl, hd⟩ := h
  obtain ⟨A1, n1, k1, A2, n2, k2, A3, n3, k3, rfl, rfl, rfl⟩ := rd_form hd
  have HM := Lib.hid hm
  have HN := Lib.hid hn
  obtain ⟨h1, h2, h3, h4, h5, h6⟩ := hn
  have P0 : Bk ((w.alloc (.cells #[.slice A1 n1 k1, .slice A2 n2 k2, .slice A3 n3 k3, .int .i64 (r.first : Int), .int .i64 (r.many : Int), .int .u32 (r.epoch : Int), .int .u32 (r.low : Int), .int .u32 (r.next : Int)] 39)).alloc (.cells #[nilV, nilV, nilV, .int .i64 0, .int .i64 0, .int .u32 0, .int .u32 0, .int .u32 0] 39)) w.heap.size [.slice A1 n1 k1, .slice A2 n2 k2, .slice A3 n3 k3, .int .i64 (r.first : Int), .int .i64 (r.many : Int), .int .u32 (r.epoch : Int), .int .u32 (r.low : Int), .int .u32 (r.next : Int)] := (Bk.new w [.slice A1 n1 k1, .slice A2 n2 k2, .slice A3 n3 k3, .int .i64 (r.first : Int), .int .i64 (r.many : Int), .int .u32 (r.epoch : Int), .int .u32 (r.low : Int), .int .u32 (r.next : Int)] 39 rfl).alloc _
  have Q0 := Bk.new (w.alloc (.cells #[.slice A1 n1 k1, .slice A2 n2 k2, .slice A3 n3 k3, .int .i64 (r.first : Int), .int .i64 (r.many : Int), .int .u32 (r.epoch : Int), .int .u32 (r.low : Int), .int .u32 (r.next : Int)] 39)) [nilV, nilV, nilV, .int .i64 0, .int .i64 0, .int .u32 0, .int .u32 0, .int .u32 0] 39 (g := w.heap.size + 1) (by simp)
  have hb0 := two_new (w := w) (o := .cells #[.slice A1 n1 k1, .slice A2 n2 k2, .slice A3 n3 k3, .int .i64 (r.first : Int), .int .i64 (r.many : Int), .int .u32 (r.epoch : Int), .int .u32 (r.low : Int), .int .u32 (r.next : Int)] 39) (o' := .cells #[nilV, nilV, nilV, .int .i64 0, .int .i64 0, .int .u32 0, .int .u32 0, .int .u32 0] 39)
  have hz0 : ((w.alloc (.cells #[.slice A1 n1 k1, .slice A2 n2 k2, .slice A3 n3 k3, .int .i64 (r.first : Int), .int .i64 (r.many : Int), .int .u32 (r.epoch : Int), .int .u32 (r.low : Int), .int .u32 (r.next : Int)] 39)).alloc (.cells #[nilV, nilV, nilV, .int .i64 0, .int .i64 0, .int .u32 0, .int .u32 0, .int .u32 0] 39)).heap.size = w.heap.size + 2 := by simp
  have HC := Lib.hid (rcut_any r.epoch r.next rec ((w.alloc (.cells #[.slice A1 n1 k1, .slice A2 n2 k2, .slice A3 n3 k3, .int .i64 (r.first : Int), .int .i64 (r.many : Int), .int .u32 (r.epoch : Int), .int .u32 (r.low : Int), .int .u32 (r.next : Int)] 39)).alloc (.cells #[nilV, nilV, nilV, .int .i64 0, .int .i64 0, .int .u32 0, .int .u32 0, .int .u32 0] 39)) h1 h3 (by omega))
  have HD := Lib.hid hd
  have HP0 := Lib.hid P0
  have HQ0 := Lib.hid Q0
  have HB0 := Lib.hid hb0
  have HZ0 := Lib.hid hz0
  clear hd hm P0 Q0 hb0 hz0
  unfold rgC
  go_enter Try.func33, Try.ntmps33
  go_wp2_with fail
  refine HC.out.mono ?_
  rintro e w2 ⟨vf, rfl, hown, hb2⟩
  have P2 := HP0.out.step hb2
  have Q2 := HQ0.out.step hb2
  have hbw2 := below_two HB0.out hb2
  have hsz2 : w.heap.size + 2 ≤ w2.heap.size := by have := hb2.size; have := HZ0.out; omega
  rw [HZ0.out] at hown
  clear HC HP0 HQ0 hb2 HZ0 HB0
  have hcl := R.cut_len r.epoch r.next rec
  have hM1 := R.many_pos rec.length
  obtain ⟨o, cap, _, rfl, _, hcap, _⟩ := V.own_form hown (by rw [hcl]; exact hM1)
  have hol := World.ownsRow.lt hown o rfl
  have HO := Lib.hid hown
  have hMl : R.many rec.length ≤ 100001 := by unfold R.many; split <;> omega
  rw [hcl] at hcap
  obtain ⟨M, hM⟩ : ∃ M, M = R.many rec.length := ⟨_, rfl⟩
  rw [← hM] at hcl hM1 hcap hMl
  rw [hcl]
  have HCL := Lib.hid hcl
  have HMM := Lib.hid hM
  clear hown hcl hM
  have HFr : Hid (Calls Try.prog 19 #[.agg #[.slice A1 n1 k1, .slice A2 n2 k2, .slice A3 n3 k3, .int .i64 (r.first : Int), .int .i64 (r.many : Int), .int .u32 (r.epoch : Int), .int .u32 (r.low : Int), .int .u32 (r.next : Int)]] w2 fun e w' => e = .returned (.int .i64 (r.free : Nat)) ∧ Below w2.heap.size w2 w') :=
    Lib.hid (rfree_any (F := F) ⟨_, _, _, rfl, HD.out.below hbw2 hF⟩ HN.out HM.out)
  obtain ⟨fr, hfr⟩ : ∃ fr, fr = r.free := ⟨_, rfl⟩
  rw [← hfr] at HFr
  have HFE := Lib.hid hfr
  clear hfr
  have hP2 := Lib.hid P2
  have hQ2 := Lib.hid Q2
  have p0 := P2.cell 0 _ rfl
  have p1 := P2.cell 1 _ rfl
  have p2 := P2.cell 2 _ rfl
  have p3 := P2.cell 3 _ rfl
  have p4 := P2.cell 4 _ rfl
  have p5 := P2.cell 5 _ rfl
  have p6 := P2.cell 6 _ rfl
  have p7 := P2.cell 7 _ rfl
  clear P2 Q2
  go_wp2_with fail
  refine HFr.out.mono ?_
  rintro e w3 ⟨rfl, hb3⟩
  have P3 := hP2.out.step hb3
  have Q3 := hQ2.out.step hb3
  have hsz3 : w.heap.size + 2 ≤ w3.heap.size := Nat.le_trans hsz2 hb3.size
  have hbw3 := below_two hbw2 hb3
  have HO3 := Lib.hid (S.own_below HO.out hb3)
  have HR3 := Lib.hid (HD.out.below hbw3 hF)
  have hfrM : fr ≤ 1024 := by have e1 := HFE.out; have e2 := HM.out.ln; have e3 := HM.out.nl; unfold G.Rg.free at e1; omega
  clear p0 p1 p2 p3 p4 p5 p6 p7 hP2 hQ2 HFr hb3 hbw2 hsz2 HD HO
  have HP3 := Lib.hid P3
  have HQ3 := Lib.hid Q3
  have p0 := P3.cell 0 _ rfl
  have p1 := P3.cell 1 _ rfl
  have p2 := P3.cell 2 _ rfl
  have p3 := P3.cell 3 _ rfl
  have p4 := P3.cell 4 _ rfl
  have p5 := P3.cell 5 _ rfl
  have p6 := P3.cell 6 _ rfl
  have p7 := P3.cell 7 _ rfl
  have q0 := Q3.cell 0 _ rfl
  have q1 := Q3.cell 1 _ rfl
  have q2 := Q3.cell 2 _ rfl
  have q3 := Q3.cell 3 _ rfl
  have q4 := Q3.cell 4 _ rfl
  have q5 := Q3.cell 5 _ rfl
  have q6 := Q3.cell 6 _ rfl
  have q7 := Q3.cell 7 _ rfl
  have qf0 := Q3.fz 0 (by simp)
  have qf1 := Q3.fz 1 (by simp)
  have qf2 := Q3.fz 2 (by simp)
  have qf3 := Q3.fz 3 (by simp)
  have qf4 := Q3.fz 4 (by simp)
  have qf5 := Q3.fz 5 (by simp)
  have qf6 := Q3.fz 6 (by simp)
  have qf7 := Q3.fz 7 (by simp)
  clear P3 Q3
  generalize hpe : w.heap.size = p at *
  generalize hqe : p + 1 = q at *
  by_cases hfree : fr < M
  · have hfree' : (fr : Int) < (M : Int) := by omega
    have HE := Lib.hid (show r.err rec = 3 by rw [G.Rg.err, if_pos (by have := HFE.out; have := HMM.out; omega)])
    have Q8 := HQ3.out.all8 (.slice A1 n1 k1) (.slice A2 n2 k2) (.slice A3 n3 k3) (.int .i64 (r.first : Int)) (.int .i64 (r.many : Int)) (.int .u32 (r.epoch : Int)) (.int .u32 (r.low : Int)) (.int .u32 (r.next : Int))
    go_wp2_with fail
    refine bodyPost_ret (results_bk_2 rfl _ rfl Q8 Try.underlying39 rfl infoRr) rfl ?_
    refine ⟨_, ret_v (by rw [told_no (by rw [HE.out]; decide), HE.out]; rfl), ?_, ?_⟩
    · rw [append_no (by rw [HE.out]; decide)]
      exact ⟨_, _, _, rfl, (HR3.out.turn (set8_turn w3 q (.slice A1 n1 k1) (.slice A2 n2 k2) (.slice A3 n3 k3) (.int .i64 (r.first : Int)) (.int .i64 (r.many : Int)) (.int .u32 (r.epoch : Int)) (.int .u32 (r.low : Int)) (.int .u32 (r.next : Int))) (fun b g => by have := hF b g; omega) (fun b g e => by have := hF b g; omega)).wider (fun b g => Or.inl g)⟩
    · rw [hpe]
      exact hbw3.trans ((set8_turn w3 q (.slice A1 n1 k1) (.slice A2 n2 k2) (.slice A3 n3 k3) (.int .i64 (r.first : Int)) (.int .i64 (r.many : Int)) (.int .u32 (r.epoch : Int)) (.int .u32 (r.low : Int)) (.int .u32 (r.next : Int))).below (by omega) (fun b e => by omega))
  · have hfree' : ¬ (fr : Int) < (M : Int) := by omega
    by_cases hover : 1073741824 < r.next + M
    · have hover' : (1073741824 : Int) < (r.next : Int) + (M : Int) := by omega
      have HE := Lib.hid (show r.err rec = 10 by rw [G.Rg.err, if_neg (by have := HFE.out; have := HMM.out; omega), if_pos (by have := HMM.out; omega)])
      have Q8 := HQ3.out.all8 (.slice A1 n1 k1) (.slice A2 n2 k2) (.slice A3 n3 k3) (.int .i64 (r.first : Int)) (.int .i64 (r.many : Int)) (.int .u32 (r.epoch : Int)) (.int .u32 (r.low : Int)) (.int .u32 (r.next : Int))
      go_wp2_with fail
      refine bodyPost_ret (results_bk_2 rfl _ rfl Q8 Try.underlying39 rfl infoRr) rfl ?_
      refine ⟨_, ret_v (by rw [told_no (by rw [HE.out]; decide), HE.out]; rfl), ?_, ?_⟩
      · rw [append_no (by rw [HE.out]; decide)]
        exact ⟨_, _, _, rfl, (HR3.out.turn (set8_turn w3 q (.slice A1 n1 k1) (.slice A2 n2 k2) (.slice A3 n3 k3) (.int .i64 (r.first : Int)) (.int .i64 (r.many : Int)) (.int .u32 (r.epoch : Int)) (.int .u32 (r.low : Int)) (.int .u32 (r.next : Int))) (fun b g => by have := hF b g; omega) (fun b g e => by have := hF b g; omega)).wider (fun b g => Or.inl g)⟩
      · rw [hpe]
        exact hbw3.trans ((set8_turn w3 q (.slice A1 n1 k1) (.slice A2 n2 k2) (.slice A3 n3 k3) (.int .i64 (r.first : Int)) (.int .i64 (r.many : Int)) (.int .u32 (r.epoch : Int)) (.int .u32 (r.low : Int)) (.int .u32 (r.next : Int))).below (by omega) (fun b e => by omega))
    · have hover' : ¬ (1073741824 : Int) < (r.next : Int) + (M : Int) := by omega
      have HE := Lib.hid (show r.err rec = 0 by rw [G.Rg.err, if_neg (by have := HFE.out; have := HMM.out; omega), if_neg (by have := HMM.out; omega)])
      have HS : Hid (RAp w F r rec (.slice (some ⟨o, 0, none⟩) M cap) 0 w3) := Lib.hid ⟨⟨_, _, _, by rw [hpe]; exact HP3.out, by rw [G.firsts, List.range_zero, List.map_nil, G.lay_nil]; exact HR3.out.wider (fun b g => Or.inl g)⟩, by rw [hpe, hqe]; exact HQ3.out, by have := HO3.out; rw [HCL.out] at this ⊢; rw [hpe]; exact this, by rw [hpe]; exact hbw3, by rw [hpe]; omega⟩
      clear p0  p1  p2  p3  p4  p5  p6 q0 qf0 q1 qf1 q2 qf2 q3 qf3 q4 qf4 q5 qf5 q6 qf6 q7 qf7 HP3 HQ3 HO3 HR3 hbw3
      go_wp2_with fail
      clear p7
      go_loopw [8] (fun i wr => ∃ j : Nat, j ≤ M ∧ i = .int .i64 j ∧ RAp w F r rec (.slice (some ⟨o, 0, none⟩) M cap) j wr) (fun i _ => M - (intOf i).toNat)
      case atStart => exact ⟨0, Nat.zero_le _, rfl, HS.out⟩
      case round =>
        clear HS
        obtain ⟨j, hj, rfl, hRA⟩ := hrel
        have HRA := Lib.hid hRA
        obtain ⟨⟨x1, x2, x3, P, hRd⟩, Q, fr', bel, sz⟩ := hRA
        rw [hpe] at P hRd Q fr' bel sz
        rw [hqe] at Q
        by_cases hlt : j < M
        · have hlt' : (j : Int) < (M : Int) := by omega
          have hj0 : (0 : Int) ≤ (j : Int) := by omega
          have hcj : j < (R.cut r.epoch r.next rec).length := by rw [HCL.out]; exact hlt
          rw [HCL.out] at fr'
          have hrg := V.own_range fr' (fun x _ => frC_len x) j hcj
          rw [R.cut_at] at hrg
          have hnum : (R.frameOf r.epoch r.next rec j).Num := ⟨h1, Nat.mod_lt _ (by decide)⟩
          have hfit := G.frameOf_fits r.epoch r.next rec j
          obtain ⟨g, hg⟩ : ∃ g, g = R.frameOf r.epoch r.next rec j := ⟨_, rfl⟩
          rw [← hg] at hrg hnum hfit
          have HG := Lib.hid hg
          have y0 : wr.cell? ⟨o, j * 4, none⟩ = some (.int .u32 (g.epoch : Int)) := hrg 0 _ rfl
          have y1 : wr.cell? ⟨o, j * 4 + 1, none⟩ = some (.int .u32 (g.seq : Int)) := hrg 1 _ rfl
          have y2 : wr.cell? ⟨o, j * 4 + 2, none⟩ = some (.int .u8 (g.flag.toNat : Int)) := hrg 2 _ rfl
          have y3 : wr.cell? ⟨o, j * 4 + 3, none⟩ = some (.string ⟨g.body.toArray⟩) := hrg 3 _ rfl
          have HPk := Lib.hid (rpack_fits g wr hnum hfit)
          have lsec : (R.sector g).length ≤ 64 := Nat.le_of_eq (R.sector_len hfit)
          obtain ⟨sec, hsec⟩ : ∃ sec, sec = R.sector g := ⟨_, rfl⟩
          rw [← hsec] at HPk lsec
          have HSec := Lib.hid hsec
          have hgs := hnum.s
          clear hg hrg hsec hnum hfit
          obtain ⟨dk, hdk'⟩ : ∃ dk, dk = G.lay r.first r.many r.d (G.firsts r.epoch r.next rec j) := ⟨_, rfl⟩
          rw [← hdk'] at hRd
          have HDK := Lib.hid hdk'
          have hdk : dk.row.length ≤ 1000000 := by rw [hdk', G.firsts_row HM.out.m1 HM.out.fits]; omega
          clear hdk'
          have HRd := Lib.hid hRd
          have HPp := Lib.hid P
          have hsz := sz
          go_wp2_with fail
          refine HPk.out.mono ?_
          rintro e w4 ⟨rfl, hb4⟩
          have hs4 := hb4.size
          have P4 := HPp.out.step hb4
          have HRlt : Hid (∀ b, (F b ∨ (p + 2 ≤ b ∧ b < wr.heap.size)) → b < w4.heap.size) := Lib.hid (by
            rintro b (g | g)
            · have := hF b g; omega
            · omega)
          have HRd := Lib.hid (HRd.out.below hb4 (fun b g => g.elim (fun g => by have := hF b g; omega) (fun g => by omega)))
          have hol4 : o < wr.heap.size := (World.ownsRow.lt fr' o rfl).2
          have y1' : w4.cell? ⟨o, j * 4 + 1, none⟩ = some (.int .u32 (g.seq : Int)) := (hb4.cell (p := ⟨o, j * 4 + 1, none⟩) hol4).trans y1
          obtain ⟨sq, hsq⟩ : ∃ sq, sq = g.seq := ⟨_, rfl⟩
          rw [← hsq] at y1' hgs
          obtain ⟨t, ht⟩ : ∃ t, t = G.at_ r.first r.many sq := ⟨_, rfl⟩
          have HAt : Hid (∀ W, Calls Try.prog 48 #[.int .i64 (r.first : Int), .int .i64 (r.many : Int), .int .u32 (sq : Int)] W fun e w' => e = .returned (.int .i64 (t : Int)) ∧ W = w') := Lib.hid (fun W => by rw [ht]; exact (rat_any r.first r.many sq W h4 h5 h6 hgs).mono (fun e w' h => ⟨h.1, h.2.symm⟩))
          have HDE : Hid (dk.write (t : Int) sec = G.lay r.first r.many r.d (G.firsts r.epoch r.next rec (j + 1))) := Lib.hid (by rw [G.firsts_succ, G.lay_snoc, ← HDK.out, ← HG.out, ← HSec.out, ht, hsq])
          clear ht hsq HDK HG HSec
          have HP4 := Lib.hid P4
          have HK : Hid (∀ w', Below w4.heap.size w4 w' → w'.cell? ⟨p, 0, none⟩ = some x1 ∧ w'.cell? ⟨p, 1, none⟩ = some x2 ∧ w'.cell? ⟨p, 2, none⟩ = some x3 ∧ w'.cell? ⟨p, 3, none⟩ = some (.int .i64 (r.first : Int)) ∧ w'.cell? ⟨p, 4, none⟩ = some (.int .i64 (r.many : Int)) ∧ w'.cell? ⟨o, j * 4 + 1, none⟩ = some (.int .u32 (sq : Int)) ∧ Below w4.heap.size w4 w') := Lib.hid fun w' hb => ⟨(P4.step hb).cell 0 _ rfl, (P4.step hb).cell 1 _ rfl, (P4.step hb).cell 2 _ rfl, (P4.step hb).cell 3 _ rfl, (P4.step hb).cell 4 _ rfl, (hb.cell (p := ⟨o, j * 4 + 1, none⟩) (Nat.lt_of_lt_of_le hol4 hs4)).trans y1', hb⟩
          have HA : Hid (∀ (w' : World) (ob : Obj), (w'.cell? ⟨p, 0, none⟩ = some x1 ∧ w'.cell? ⟨p, 1, none⟩ = some x2 ∧ w'.cell? ⟨p, 2, none⟩ = some x3 ∧ w'.cell? ⟨p, 3, none⟩ = some (.int .i64 (r.first : Int)) ∧ w'.cell? ⟨p, 4, none⟩ = some (.int .i64 (r.many : Int)) ∧ w'.cell? ⟨o, j * 4 + 1, none⟩ = some (.int .u32 (sq : Int)) ∧ Below w4.heap.size w4 w') → (w'.alloc ob).cell? ⟨p, 0, none⟩ = some x1 ∧ (w'.alloc ob).cell? ⟨p, 1, none⟩ = some x2 ∧ (w'.alloc ob).cell? ⟨p, 2, none⟩ = some x3 ∧ (w'.alloc ob).cell? ⟨p, 3, none⟩ = some (.int .i64 (r.first : Int)) ∧ (w'.alloc ob).cell? ⟨p, 4, none⟩ = some (.int .i64 (r.many : Int)) ∧ (w'.alloc ob).cell? ⟨o, j * 4 + 1, none⟩ = some (.int .u32 (sq : Int)) ∧ Below w4.heap.size w4 (w'.alloc ob)) := Lib.hid fun w' ob hS => HK.out _ (hS.2.2.2.2.2.2.alloc hS.2.2.2.2.2.2.size ob)
          have hbd : Below w4.heap.size w4 w4.drew := (Below.refl _ _).drew
          clear y0 y1 y2 y3 y1' P4 P hRd Q fr' HPk HPp
          go_wp2_with fail
          refine wp_region_held_drew (S := fun w' => w'.cell? ⟨p, 0, none⟩ = some x1 ∧ w'.cell? ⟨p, 1, none⟩ = some x2 ∧ w'.cell? ⟨p, 2, none⟩ = some x3 ∧ w'.cell? ⟨p, 3, none⟩ = some (.int .i64 (r.first : Int)) ∧ w'.cell? ⟨p, 4, none⟩ = some (.int .i64 (r.many : Int)) ∧ w'.cell? ⟨o, j * 4 + 1, none⟩ = some (.int .u32 (sq : Int)) ∧ Below w4.heap.size w4 w') (by kernel_rfl) (HK.out _ hbd) (fun hHeld => ?_)
          clear hbd
          generalize w4.drew = w5 at *
          refine takeH (i := 0) (v := ?_) (some 48) rfl (by rfl) (by kernel_rfl) (by kernel_rfl) (by kernel_rfl) (fun _ _ _ h => h) (Or.inl ⟨by rfl, fun w hSw => ?_⟩) (by assumption) ?_
          rotate_left
          · go_simp
            try with_reducible rfl
          try simp only [Act.put, List.setIfInBounds_toArray, List.set_cons_zero, List.set_cons_succ]
          refine takeH (i := 1) (v := ?_) (some 49) rfl (by rfl) (by kernel_rfl) (by kernel_rfl) (by kernel_rfl) (fun _ _ _ h => h) (Or.inl ⟨by rfl, fun w hSw => ?_⟩) (by assumption) ?_
          rotate_left
          · go_simp
            try with_reducible rfl
          try simp only [Act.put, List.setIfInBounds_toArray, List.set_cons_zero, List.set_cons_succ]
          refine takeH (i := 2) (v := ?_) (some 50) rfl (by rfl) (by kernel_rfl) (by kernel_rfl) (by kernel_rfl) (fun _ _ _ h => h) (Or.inl ⟨by rfl, fun w hSw => ?_⟩) (by assumption) ?_
          rotate_left
          · go_simp
            try with_reducible rfl
          try simp only [Act.put, List.setIfInBounds_toArray, List.set_cons_zero, List.set_cons_succ]
          refine takeH (i := 3) (v := ?_) (some 51) rfl (by rfl) (by kernel_rfl) (by kernel_rfl) (by kernel_rfl) (fun _ _ _ h => h) (Or.inl ⟨by rfl, fun w hSw => ?_⟩) (by assumption) ?_
          rotate_left
          · go_simp
            try with_reducible rfl
          try simp only [Act.put, List.setIfInBounds_toArray, List.set_cons_zero, List.set_cons_succ]
          refine takeH (i := 4) (v := ?_) (some 52) rfl (by rfl) (by kernel_rfl) (by kernel_rfl) (by kernel_rfl) (fun _ _ _ h => h) (Or.inl ⟨by rfl, fun w hSw => ?_⟩) (by assumption) ?_
          rotate_left
          · go_simp
            try with_reducible rfl
          try simp only [Act.put, List.setIfInBounds_toArray, List.set_cons_zero, List.set_cons_succ]
          refine takeH (i := 5) (v := ?_) (some 53) rfl (by rfl) (by kernel_rfl) (by kernel_rfl) (by kernel_rfl) (fun _ _ _ h => h) (Or.inl ⟨by rfl, fun w hSw => ?_⟩) (by assumption) ?_
          rotate_left
          · go_simp
            try with_reducible rfl
          try simp only [Act.put, List.setIfInBounds_toArray, List.set_cons_zero, List.set_cons_succ]
          refine takeH (i := 6) (v := ?_) (some 54) rfl (by rfl) (by kernel_rfl) (by kernel_rfl) (by kernel_rfl) (fun _ _ _ h => h) (Or.inl ⟨by rfl, fun w hSw => ?_⟩) (by assumption) ?_
          rotate_left
          · go_simp
            try with_reducible rfl
          try simp only [Act.put, List.setIfInBounds_toArray, List.set_cons_zero, List.set_cons_succ]
          refine takeH (i := 7) (v := ?_) (some 55) rfl (by rfl) (by kernel_rfl) (by kernel_rfl) (by kernel_rfl) (fun _ _ _ h => h) (Or.inl ⟨by rfl, fun w hSw => ?_⟩) (by assumption) ?_
          rotate_left
          · go_simp
            try with_reducible rfl
          try simp only [Act.put, List.setIfInBounds_toArray, List.set_cons_zero, List.set_cons_succ]
          refine takeH (i := 8) (v := ?_) (some 56) rfl (by rfl) (by kernel_rfl) (by kernel_rfl) (by kernel_rfl) (fun _ _ _ h => h) (Or.inl ⟨by rfl, fun w hSw => ?_⟩) (by assumption) ?_
          rotate_left
          · go_simp
            try with_reducible rfl
          try simp only [Act.put, List.setIfInBounds_toArray, List.set_cons_zero, List.set_cons_succ]
          refine takeH (i := 9) (v := ?_) (some 57) rfl (by rfl) (by kernel_rfl) (by kernel_rfl) (by kernel_rfl) (fun _ _ _ h => h) (Or.inl ⟨by rfl, fun w hSw => ?_⟩) (by assumption) ?_
          rotate_left
          · go_simp
            try with_reducible rfl
          try simp only [Act.put, List.setIfInBounds_toArray, List.set_cons_zero, List.set_cons_succ]
          refine takeH (i := 10) (v := ?_) (some 58) rfl (by rfl) (by kernel_rfl) (by kernel_rfl) (by kernel_rfl) (fun _ _ _ h => h) (Or.inl ⟨by rfl, fun w hSw => ?_⟩) (by assumption) ?_
          rotate_left
          · go_simp
            try with_reducible rfl
          try simp only [Act.put, List.setIfInBounds_toArray, List.set_cons_zero, List.set_cons_succ]
          refine takeH (i := 12) (v := ?_) (some 60) rfl (by rfl) (by kernel_rfl) (by kernel_rfl) (by kernel_rfl) (fun _ _ _ h => h) (Or.inl ⟨by rfl, fun w hSw => ?_⟩) (by assumption) ?_
          rotate_left
          · go_simp
            try with_reducible rfl
          try simp only [Act.put, List.setIfInBounds_toArray, List.set_cons_zero, List.set_cons_succ]
          refine wpAnyH_ready (rs := [11, 13, 18]) (by kernel_rfl) (by simp) ?_
          refine (AllReadyH.cons rfl (fun K hK => ?_) (AllReadyH.cons rfl (fun K hK => ?_) (AllReadyH.cons rfl (fun K hK => ?_) AllReadyH.nil)))
          · go_simp
            refine (HAt.out _).mono ?_
            rintro r9 w9 ⟨rfl, rfl⟩
            go_wp2_with fail
            refine hK.out _ _ (by assumption) (fun hHeld => ?_)
            clear hK K
            try simp only [Act.put, List.setIfInBounds_toArray, List.set_cons_zero, List.set_cons_succ]
            refine wpAnyH_ready (rs := [13, 18]) (by kernel_rfl) (by simp) ?_
            refine (AllReadyH.cons rfl (fun K hK => ?_) (AllReadyH.cons rfl (fun K hK => ?_) AllReadyH.nil))
            · obtain ⟨cp, wc, hcv, hsl, hbc⟩ := conv_bytes w5 sec
              have hHc := HK.out _ (hHeld.2.2.2.2.2.2.trans (hbc.mono hHeld.2.2.2.2.2.2.size))
              have HSL := Lib.hid hsl
              have HBC := Lib.hid hbc
              clear hsl hbc
              go_simp
              refine hK.out _ _ (hHc) (fun hHeld => ?_)
              clear hK K
              try simp only [Act.put, List.setIfInBounds_toArray, List.set_cons_zero, List.set_cons_succ]
              refine wpAnyH_ready (rs := [14, 18]) (by kernel_rfl) (by simp) ?_
              refine (AllReadyH.cons rfl (fun K hK => ?_) (AllReadyH.cons rfl (fun K hK => ?_) AllReadyH.nil))
              · have hRx := HRd.out.below hHeld.2.2.2.2.2.2 (fun b g => HRlt.out b g)
                have HWx := Lib.hid (rwrite_any _ (.slice (some ⟨w5.heap.size, 0, none⟩) sec.length cp) dk (t : Int) sec wc _ (fun b g => Nat.lt_of_lt_of_le (HRlt.out b g) hHeld.2.2.2.2.2.2.size) hRx (S.New w5 wc) (fun b g => Nat.lt_of_lt_of_le g.2 (Nat.le_refl _)) HSL.out hdk (by omega))
                clear hRx
                go_simp
                refine HWx.out.mono ?_
                rintro r9 ww ⟨v9, rfl, hRw, hbw⟩
                obtain ⟨D1, e1, D2, e2, D3, e3, rfl⟩ := hRw.form
                generalize (dk.write (t : Int) sec).secs.length = m1 at *
                generalize (dk.write (t : Int) sec).row.length = m2 at *
                have hHw := HK.out _ (hHeld.2.2.2.2.2.2.trans (hbw.mono hHeld.2.2.2.2.2.2.size))
                have HRw := Lib.hid hRw
                have HBW := Lib.hid hbw
                have HX := Lib.hid hHeld.2.2.2.2.2.2
                clear hRw hbw HWx
                go_wp2_with fail
                refine hK.out _ _ (hHw) (fun hHeld => ?_)
                clear hK K
                try simp only [Act.put, List.setIfInBounds_toArray, List.set_cons_zero, List.set_cons_succ]
                refine takeH (i := 15) (v := ?_) (some 47) rfl (by rfl) (by kernel_rfl) (by kernel_rfl) (by kernel_rfl) (fun _ _ _ h => h) (Or.inl ⟨by rfl, fun w hSw => ?_⟩) (by assumption) ?_
                rotate_left
                · go_simp
                  try with_reducible rfl
                try simp only [Act.put, List.setIfInBounds_toArray, List.set_cons_zero, List.set_cons_succ]
                refine takeH (i := 16) (v := ?_) (some 63) rfl (by rfl) (by kernel_rfl) (by kernel_rfl) (by kernel_rfl) (fun _ _ _ h => h) (Or.inl ⟨by rfl, fun w hSw => ?_⟩) (by assumption) ?_
                rotate_left
                · go_simp
                  try with_reducible rfl
                try simp only [Act.put, List.setIfInBounds_toArray, List.set_cons_zero, List.set_cons_succ]
                refine takeH (i := 17) (v := ?_) (some 64) rfl (by rfl) (by kernel_rfl) (by kernel_rfl) (by kernel_rfl) (fun _ _ _ h => h) (Or.inl ⟨by rfl, fun w hSw => ?_⟩) (by assumption) ?_
                rotate_left
                · go_simp
                  try with_reducible rfl
                try simp only [Act.put, List.setIfInBounds_toArray, List.set_cons_zero, List.set_cons_succ]
                refine wpAnyH_ready (rs := [18]) (by kernel_rfl) (by simp) ?_
                refine (AllReadyH.cons rfl (fun K hK => ?_) AllReadyH.nil)
                · have HGge := Lib.hid hHeld.2.2.2.2.2.2.size
                  go_simp
                  refine hK.out _ _ (HA.out _ _ (by assumption)) (fun hHeld => ?_)
                  clear hK K
                  try simp only [Act.put, List.setIfInBounds_toArray, List.set_cons_zero, List.set_cons_succ]
                  have hY := B3.new ww nilV nilV nilV 36 (g := ww.heap.size) rfl
                  have hbA : Below ww.heap.size ww (ww.alloc (.cells #[nilV, nilV, nilV] 36)) := (Below.refl _ _).alloc (Nat.le_refl _) _
                  generalize ww.alloc (.cells #[nilV, nilV, nilV] 36) = wa at *
                  have HY := Lib.hid hY
                  have HBA := Lib.hid hbA
                  have HRw := Lib.hid (HRw.out.below hbA (fun b g => g.elim (fun g => Nat.lt_of_lt_of_le (HRlt.out b g) (Nat.le_trans HX.out.size HBW.out.size)) (fun g => g.2)))
                  clear hY hbA
                  refine wpAnyH_ready (rs := [19]) (by kernel_rfl) (by simp) ?_
                  refine (AllReadyH.cons rfl (fun K hK => ?_) AllReadyH.nil)
                  · obtain ⟨_, r0, r1, r2, rf0, rf1, rf2⟩ := id HY.out
                    have hHs := HK.out _ (((hHeld.2.2.2.2.2.2.setCell (p := ⟨ww.heap.size, 0, none⟩) HGge.out (.slice D1 m1 e1)).setCell (p := ⟨ww.heap.size, 1, none⟩) HGge.out (.slice D2 m2 e2)).setCell (p := ⟨ww.heap.size, 2, none⟩) HGge.out (.slice D3 m2 e3))
                    go_simp
                    refine hK.out _ _ (hHs) (fun hHeld => ?_)
                    clear hK K
                    try simp only [Act.put, List.setIfInBounds_toArray, List.set_cons_zero, List.set_cons_succ]
                    refine takeH (i := 20) (v := ?_) (some 12) rfl (by rfl) (by kernel_rfl) (by kernel_rfl) (by kernel_rfl) (fun _ _ _ h => h) (Or.inl ⟨by rfl, fun w hSw => ?_⟩) (by assumption) ?_
                    rotate_left
                    · go_simp
                      try with_reducible rfl
                    try simp only [Act.put, List.setIfInBounds_toArray, List.set_cons_zero, List.set_cons_succ]
                    refine wpAnyH_done (by kernel_rfl) ?_ _
                    have hbf := hHeld.2.2.2.2.2.2
                    have Yf := HY.out.setAll (.slice D1 m1 e1) (.slice D2 m2 e2) (.slice D3 m2 e3)
                    have nG : ¬ ((F ww.heap.size ∨ (p + 2 ≤ ww.heap.size ∧ ww.heap.size < wr.heap.size)) ∨ S.New wc ww ww.heap.size) := fun g => g.elim (fun g => absurd (HRlt.out _ g) (Nat.not_lt.2 HGge.out)) (fun g => absurd g.2 (Nat.lt_irrefl _))
                    have hRf := ((HRw.out.set nG 0 (.slice D1 m1 e1)).set nG 1 (.slice D2 m2 e2)).set nG 2 (.slice D3 m2 e3)
                    have hzf := set3_size wa ww.heap.size (.slice D1 m1 e1) (.slice D2 m2 e2) (.slice D3 m2 e3)
                    have hws : ww.heap.size ≤ (((wa.setCell ⟨ww.heap.size, 0, none⟩ (.slice D1 m1 e1)).setCell ⟨ww.heap.size, 1, none⟩ (.slice D2 m2 e2)).setCell ⟨ww.heap.size, 2, none⟩ (.slice D3 m2 e3)).heap.size := (by show ww.heap.size ≤ _; rw [hzf]; exact HBA.out.size)
                    clear hHeld
                    generalize (((wa.setCell ⟨ww.heap.size, 0, none⟩ (.slice D1 m1 e1)).setCell ⟨ww.heap.size, 1, none⟩ (.slice D2 m2 e2)).setCell ⟨ww.heap.size, 2, none⟩ (.slice D3 m2 e3)) = wf at *
                    have hRf2 := hRf.wider (G := fun b => F b ∨ (w.heap.size + 2 ≤ b ∧ b < wf.heap.size)) (fun b g => by
                      have hx1 := HX.out.size
                      rw [hpe]
                      rcases g with (g | g) | g
                      · exact Or.inl g
                      · exact Or.inr ⟨g.1, by have := hbf.size; omega⟩
                      · exact Or.inr ⟨by have := g.1; omega, by have := g.2; omega⟩)
                    have HNX := Lib.hid (RAp.next HRA.out (by rw [hpe]; exact hF) (below_two hb4 hbf) hRf2 HDE.out)
                    rw [hpe] at HNX
                    have Pf := HP4.out.step hbf
                    obtain ⟨_, r0, r1, r2, _, _, _⟩ := Yf
                    have p0 := Pf.cell 0 _ rfl
                    have p1 := Pf.cell 1 _ rfl
                    have p2 := Pf.cell 2 _ rfl
                    have f0 := Pf.fz 0 (by simp [rgC])
                    have f1 := Pf.fz 1 (by simp [rgC])
                    have f2 := Pf.fz 2 (by simp [rgC])
                    clear hRf hRf2 Pf nG
                    go_wp2_with fail
                    go_roundw
                    case rel => exact ⟨j + 1, by omega, by go_num, HNX.out⟩
                    case measure => simp [intOf]; omega
              · have HGge := Lib.hid hHeld.2.2.2.2.2.2.size
                go_simp
                refine hK.out _ _ (HA.out _ _ (by assumption)) (fun hHeld => ?_)
                clear hK K
                try simp only [Act.put, List.setIfInBounds_toArray, List.set_cons_zero, List.set_cons_succ]
                have hY := B3.new wc nilV nilV nilV 36 (g := wc.heap.size) rfl
                have hbA : Below wc.heap.size wc (wc.alloc (.cells #[nilV, nilV, nilV] 36)) := (Below.refl _ _).alloc (Nat.le_refl _) _
                generalize wc.alloc (.cells #[nilV, nilV, nilV] 36) = wa at *
                have HY := Lib.hid hY
                have HBA := Lib.hid hbA
                clear hY hbA
                refine wpAnyH_ready (rs := [14]) (by kernel_rfl) (by simp) ?_
                refine (AllReadyH.cons rfl (fun K hK => ?_) AllReadyH.nil)
                · have hRx := HRd.out.below hHeld.2.2.2.2.2.2 (fun b g => HRlt.out b g)
                  have HWx := Lib.hid (rwrite_any _ (.slice (some ⟨w5.heap.size, 0, none⟩) sec.length cp) dk (t : Int) sec wa _ (fun b g => Nat.lt_of_lt_of_le (HRlt.out b g) hHeld.2.2.2.2.2.2.size) hRx (S.New w5 wc) (fun b g => Nat.lt_of_lt_of_le g.2 HBA.out.size) (HSL.out.below HBA.out (fun b g => g.2)) hdk (by omega))
                  clear hRx
                  go_simp
                  refine HWx.out.mono ?_
                  rintro r9 ww ⟨v9, rfl, hRw, hbw⟩
                  obtain ⟨D1, e1, D2, e2, D3, e3, rfl⟩ := hRw.form
                  generalize (dk.write (t : Int) sec).secs.length = m1 at *
                  generalize (dk.write (t : Int) sec).row.length = m2 at *
                  have hHw := HK.out _ (hHeld.2.2.2.2.2.2.trans (hbw.mono hHeld.2.2.2.2.2.2.size))
                  have HRw := Lib.hid hRw
                  have HBW := Lib.hid hbw
                  have HGlt := Lib.hid HY.out.lt
                  have HY := Lib.hid (HY.out.step hbw)
                  have HX := Lib.hid hHeld.2.2.2.2.2.2
                  clear hRw hbw HWx
                  go_wp2_with fail
                  refine hK.out _ _ (hHw) (fun hHeld => ?_)
                  clear hK K
                  try simp only [Act.put, List.setIfInBounds_toArray, List.set_cons_zero, List.set_cons_succ]
                  refine takeH (i := 15) (v := ?_) (some 47) rfl (by rfl) (by kernel_rfl) (by kernel_rfl) (by kernel_rfl) (fun _ _ _ h => h) (Or.inl ⟨by rfl, fun w hSw => ?_⟩) (by assumption) ?_
                  rotate_left
                  · go_simp
                    try with_reducible rfl
                  try simp only [Act.put, List.setIfInBounds_toArray, List.set_cons_zero, List.set_cons_succ]
                  refine takeH (i := 16) (v := ?_) (some 63) rfl (by rfl) (by kernel_rfl) (by kernel_rfl) (by kernel_rfl) (fun _ _ _ h => h) (Or.inl ⟨by rfl, fun w hSw => ?_⟩) (by assumption) ?_
                  rotate_left
                  · go_simp
                    try with_reducible rfl
                  try simp only [Act.put, List.setIfInBounds_toArray, List.set_cons_zero, List.set_cons_succ]
                  refine takeH (i := 17) (v := ?_) (some 64) rfl (by rfl) (by kernel_rfl) (by kernel_rfl) (by kernel_rfl) (fun _ _ _ h => h) (Or.inl ⟨by rfl, fun w hSw => ?_⟩) (by assumption) ?_
                  rotate_left
                  · go_simp
                    try with_reducible rfl
                  try simp only [Act.put, List.setIfInBounds_toArray, List.set_cons_zero, List.set_cons_succ]
                  refine wpAnyH_ready (rs := [19]) (by kernel_rfl) (by simp) ?_
                  refine (AllReadyH.cons rfl (fun K hK => ?_) AllReadyH.nil)
                  · obtain ⟨_, r0, r1, r2, rf0, rf1, rf2⟩ := id HY.out
                    have hHs := HK.out _ (((hHeld.2.2.2.2.2.2.setCell (p := ⟨wc.heap.size, 0, none⟩) HGge.out (.slice D1 m1 e1)).setCell (p := ⟨wc.heap.size, 1, none⟩) HGge.out (.slice D2 m2 e2)).setCell (p := ⟨wc.heap.size, 2, none⟩) HGge.out (.slice D3 m2 e3))
                    go_simp
                    refine hK.out _ _ (hHs) (fun hHeld => ?_)
                    clear hK K
                    try simp only [Act.put, List.setIfInBounds_toArray, List.set_cons_zero, List.set_cons_succ]
                    refine takeH (i := 20) (v := ?_) (some 12) rfl (by rfl) (by kernel_rfl) (by kernel_rfl) (by kernel_rfl) (fun _ _ _ h => h) (Or.inl ⟨by rfl, fun w hSw => ?_⟩) (by assumption) ?_
                    rotate_left
                    · go_simp
                      try with_reducible rfl
                    try simp only [Act.put, List.setIfInBounds_toArray, List.set_cons_zero, List.set_cons_succ]
                    refine wpAnyH_done (by kernel_rfl) ?_ _
                    have hbf := hHeld.2.2.2.2.2.2
                    have Yf := HY.out.setAll (.slice D1 m1 e1) (.slice D2 m2 e2) (.slice D3 m2 e3)
                    have nG : ¬ ((F wc.heap.size ∨ (p + 2 ≤ wc.heap.size ∧ wc.heap.size < wr.heap.size)) ∨ S.New wa ww wc.heap.size) := fun g => g.elim (fun g => absurd (HRlt.out _ g) (Nat.not_lt.2 HGge.out)) (fun g => absurd HGlt.out (Nat.not_lt.2 g.1))
                    have hRf := ((HRw.out.set nG 0 (.slice D1 m1 e1)).set nG 1 (.slice D2 m2 e2)).set nG 2 (.slice D3 m2 e3)
                    have hzf := set3_size ww wc.heap.size (.slice D1 m1 e1) (.slice D2 m2 e2) (.slice D3 m2 e3)
                    have hws : ww.heap.size ≤ (((ww.setCell ⟨wc.heap.size, 0, none⟩ (.slice D1 m1 e1)).setCell ⟨wc.heap.size, 1, none⟩ (.slice D2 m2 e2)).setCell ⟨wc.heap.size, 2, none⟩ (.slice D3 m2 e3)).heap.size := (by show ww.heap.size ≤ _; rw [hzf]; exact Nat.le_refl _)
                    clear hHeld
                    generalize (((ww.setCell ⟨wc.heap.size, 0, none⟩ (.slice D1 m1 e1)).setCell ⟨wc.heap.size, 1, none⟩ (.slice D2 m2 e2)).setCell ⟨wc.heap.size, 2, none⟩ (.slice D3 m2 e3)) = wf at *
                    have hRf2 := hRf.wider (G := fun b => F b ∨ (w.heap.size + 2 ≤ b ∧ b < wf.heap.size)) (fun b g => by
                      have hx1 := HX.out.size
                      rw [hpe]
                      rcases g with (g | g) | g
                      · exact Or.inl g
                      · exact Or.inr ⟨g.1, by have := hbf.size; omega⟩
                      · exact Or.inr ⟨by have := g.1; omega, by have := g.2; omega⟩)
                    have HNX := Lib.hid (RAp.next HRA.out (by rw [hpe]; exact hF) (below_two hb4 hbf) hRf2 HDE.out)
                    rw [hpe] at HNX
                    have Pf := HP4.out.step hbf
                    obtain ⟨_, r0, r1, r2, _, _, _⟩ := Yf
                    have p0 := Pf.cell 0 _ rfl
                    have p1 := Pf.cell 1 _ rfl
                    have p2 := Pf.cell 2 _ rfl
                    have f0 := Pf.fz 0 (by simp [rgC])
                    have f1 := Pf.fz 1 (by simp [rgC])
                    have f2 := Pf.fz 2 (by simp [rgC])
                    clear hRf hRf2 Pf nG
                    go_wp2_with fail
                    go_roundw
                    case rel => exact ⟨j + 1, by omega, by go_num, HNX.out⟩
                    case measure => simp [intOf]; omega
            · have HGge := Lib.hid hHeld.2.2.2.2.2.2.size
              go_simp
              refine hK.out _ _ (HA.out _ _ (by assumption)) (fun hHeld => ?_)
              clear hK K
              try simp only [Act.put, List.setIfInBounds_toArray, List.set_cons_zero, List.set_cons_succ]
              have hY := B3.new w5 nilV nilV nilV 36 (g := w5.heap.size) rfl
              have hbA : Below w5.heap.size w5 (w5.alloc (.cells #[nilV, nilV, nilV] 36)) := (Below.refl _ _).alloc (Nat.le_refl _) _
              generalize w5.alloc (.cells #[nilV, nilV, nilV] 36) = wa at *
              have HY := Lib.hid hY
              have HBA := Lib.hid hbA
              clear hY hbA
              refine wpAnyH_ready (rs := [13]) (by kernel_rfl) (by simp) ?_
              refine (AllReadyH.cons rfl (fun K hK => ?_) AllReadyH.nil)
              · obtain ⟨cp, wc, hcv, hsl, hbc⟩ := conv_bytes wa sec
                have hHc := HK.out _ (hHeld.2.2.2.2.2.2.trans (hbc.mono hHeld.2.2.2.2.2.2.size))
                have HSL := Lib.hid hsl
                have HBC := Lib.hid hbc
                have HY := Lib.hid (HY.out.step hbc)
                clear hsl hbc
                go_simp
                refine hK.out _ _ (hHc) (fun hHeld => ?_)
                clear hK K
                try simp only [Act.put, List.setIfInBounds_toArray, List.set_cons_zero, List.set_cons_succ]
                refine wpAnyH_ready (rs := [14]) (by kernel_rfl) (by simp) ?_
                refine (AllReadyH.cons rfl (fun K hK => ?_) AllReadyH.nil)
                · have hRx := HRd.out.below hHeld.2.2.2.2.2.2 (fun b g => HRlt.out b g)
                  have HWx := Lib.hid (rwrite_any _ (.slice (some ⟨wa.heap.size, 0, none⟩) sec.length cp) dk (t : Int) sec wc _ (fun b g => Nat.lt_of_lt_of_le (HRlt.out b g) hHeld.2.2.2.2.2.2.size) hRx (S.New wa wc) (fun b g => Nat.lt_of_lt_of_le g.2 (Nat.le_refl _)) HSL.out hdk (by omega))
                  clear hRx
                  go_simp
                  refine HWx.out.mono ?_
                  rintro r9 ww ⟨v9, rfl, hRw, hbw⟩
                  obtain ⟨D1, e1, D2, e2, D3, e3, rfl⟩ := hRw.form
                  generalize (dk.write (t : Int) sec).secs.length = m1 at *
                  generalize (dk.write (t : Int) sec).row.length = m2 at *
                  have hHw := HK.out _ (hHeld.2.2.2.2.2.2.trans (hbw.mono hHeld.2.2.2.2.2.2.size))
                  have HRw := Lib.hid hRw
                  have HBW := Lib.hid hbw
                  have HGlt := Lib.hid HY.out.lt
                  have HY := Lib.hid (HY.out.step hbw)
                  have HX := Lib.hid hHeld.2.2.2.2.2.2
                  clear hRw hbw HWx
                  go_wp2_with fail
                  refine hK.out _ _ (hHw) (fun hHeld => ?_)
                  clear hK K
                  try simp only [Act.put, List.setIfInBounds_toArray, List.set_cons_zero, List.set_cons_succ]
                  refine takeH (i := 15) (v := ?_) (some 47) rfl (by rfl) (by kernel_rfl) (by kernel_rfl) (by kernel_rfl) (fun _ _ _ h => h) (Or.inl ⟨by rfl, fun w hSw => ?_⟩) (by assumption) ?_
                  rotate_left
                  · go_simp
                    try with_reducible rfl
                  try simp only [Act.put, List.setIfInBounds_toArray, List.set_cons_zero, List.set_cons_succ]
                  refine takeH (i := 16) (v := ?_) (some 63) rfl (by rfl) (by kernel_rfl) (by kernel_rfl) (by kernel_rfl) (fun _ _ _ h => h) (Or.inl ⟨by rfl, fun w hSw => ?_⟩) (by assumption) ?_
                  rotate_left
                  · go_simp
                    try with_reducible rfl
                  try simp only [Act.put, List.setIfInBounds_toArray, List.set_cons_zero, List.set_cons_succ]
                  refine takeH (i := 17) (v := ?_) (some 64) rfl (by rfl) (by kernel_rfl) (by kernel_rfl) (by kernel_rfl) (fun _ _ _ h => h) (Or.inl ⟨by rfl, fun w hSw => ?_⟩) (by assumption) ?_
                  rotate_left
                  · go_simp
                    try with_reducible rfl
                  try simp only [Act.put, List.setIfInBounds_toArray, List.set_cons_zero, List.set_cons_succ]
                  refine wpAnyH_ready (rs := [19]) (by kernel_rfl) (by simp) ?_
                  refine (AllReadyH.cons rfl (fun K hK => ?_) AllReadyH.nil)
                  · obtain ⟨_, r0, r1, r2, rf0, rf1, rf2⟩ := id HY.out
                    have hHs := HK.out _ (((hHeld.2.2.2.2.2.2.setCell (p := ⟨w5.heap.size, 0, none⟩) HGge.out (.slice D1 m1 e1)).setCell (p := ⟨w5.heap.size, 1, none⟩) HGge.out (.slice D2 m2 e2)).setCell (p := ⟨w5.heap.size, 2, none⟩) HGge.out (.slice D3 m2 e3))
                    go_simp
                    refine hK.out _ _ (hHs) (fun hHeld => ?_)
                    clear hK K
                    try simp only [Act.put, List.setIfInBounds_toArray, List.set_cons_zero, List.set_cons_succ]
                    refine takeH (i := 20) (v := ?_) (some 12) rfl (by rfl) (by kernel_rfl) (by kernel_rfl) (by kernel_rfl) (fun _ _ _ h => h) (Or.inl ⟨by rfl, fun w hSw => ?_⟩) (by assumption) ?_
                    rotate_left
                    · go_simp
                      try with_reducible rfl
                    try simp only [Act.put, List.setIfInBounds_toArray, List.set_cons_zero, List.set_cons_succ]
                    refine wpAnyH_done (by kernel_rfl) ?_ _
                    have hbf := hHeld.2.2.2.2.2.2
                    have Yf := HY.out.setAll (.slice D1 m1 e1) (.slice D2 m2 e2) (.slice D3 m2 e3)
                    have nG : ¬ ((F w5.heap.size ∨ (p + 2 ≤ w5.heap.size ∧ w5.heap.size < wr.heap.size)) ∨ S.New wc ww w5.heap.size) := fun g => g.elim (fun g => absurd (HRlt.out _ g) (Nat.not_lt.2 HGge.out)) (fun g => absurd HGlt.out (Nat.not_lt.2 g.1))
                    have hRf := ((HRw.out.set nG 0 (.slice D1 m1 e1)).set nG 1 (.slice D2 m2 e2)).set nG 2 (.slice D3 m2 e3)
                    have hzf := set3_size ww w5.heap.size (.slice D1 m1 e1) (.slice D2 m2 e2) (.slice D3 m2 e3)
                    have hws : ww.heap.size ≤ (((ww.setCell ⟨w5.heap.size, 0, none⟩ (.slice D1 m1 e1)).setCell ⟨w5.heap.size, 1, none⟩ (.slice D2 m2 e2)).setCell ⟨w5.heap.size, 2, none⟩ (.slice D3 m2 e3)).heap.size := (by show ww.heap.size ≤ _; rw [hzf]; exact Nat.le_refl _)
                    clear hHeld
                    generalize (((ww.setCell ⟨w5.heap.size, 0, none⟩ (.slice D1 m1 e1)).setCell ⟨w5.heap.size, 1, none⟩ (.slice D2 m2 e2)).setCell ⟨w5.heap.size, 2, none⟩ (.slice D3 m2 e3)) = wf at *
                    have hRf2 := hRf.wider (G := fun b => F b ∨ (w.heap.size + 2 ≤ b ∧ b < wf.heap.size)) (fun b g => by
                      have hx1 := HX.out.size
                      rw [hpe]
                      rcases g with (g | g) | g
                      · exact Or.inl g
                      · exact Or.inr ⟨g.1, by have := hbf.size; omega⟩
                      · exact Or.inr ⟨by have := g.1; omega, by have := g.2; omega⟩)
                    have HNX := Lib.hid (RAp.next HRA.out (by rw [hpe]; exact hF) (below_two hb4 hbf) hRf2 HDE.out)
                    rw [hpe] at HNX
                    have Pf := HP4.out.step hbf
                    obtain ⟨_, r0, r1, r2, _, _, _⟩ := Yf
                    have p0 := Pf.cell 0 _ rfl
                    have p1 := Pf.cell 1 _ rfl
                    have p2 := Pf.cell 2 _ rfl
                    have f0 := Pf.fz 0 (by simp [rgC])
                    have f1 := Pf.fz 1 (by simp [rgC])
                    have f2 := Pf.fz 2 (by simp [rgC])
                    clear hRf hRf2 Pf nG
                    go_wp2_with fail
                    go_roundw
                    case rel => exact ⟨j + 1, by omega, by go_num, HNX.out⟩
                    case measure => simp [intOf]; omega
          · obtain ⟨cp, wc, hcv, hsl, hbc⟩ := conv_bytes w5 sec
            have hHc := HK.out _ (hHeld.2.2.2.2.2.2.trans (hbc.mono hHeld.2.2.2.2.2.2.size))
            have HSL := Lib.hid hsl
            have HBC := Lib.hid hbc
            clear hsl hbc
            go_simp
            refine hK.out _ _ (hHc) (fun hHeld => ?_)
            clear hK K
            try simp only [Act.put, List.setIfInBounds_toArray, List.set_cons_zero, List.set_cons_succ]
            refine wpAnyH_ready (rs := [11, 18]) (by kernel_rfl) (by simp) ?_
            refine (AllReadyH.cons rfl (fun K hK => ?_) (AllReadyH.cons rfl (fun K hK => ?_) AllReadyH.nil))
            · go_simp
              refine (HAt.out _).mono ?_
              rintro r9 w9 ⟨rfl, rfl⟩
              go_wp2_with fail
              refine hK.out _ _ (by assumption) (fun hHeld => ?_)
              clear hK K
              try simp only [Act.put, List.setIfInBounds_toArray, List.set_cons_zero, List.set_cons_succ]
              refine wpAnyH_ready (rs := [14, 18]) (by kernel_rfl) (by simp) ?_
              refine (AllReadyH.cons rfl (fun K hK => ?_) (AllReadyH.cons rfl (fun K hK => ?_) AllReadyH.nil))
              · have hRx := HRd.out.below hHeld.2.2.2.2.2.2 (fun b g => HRlt.out b g)
                have HWx := Lib.hid (rwrite_any _ (.slice (some ⟨w5.heap.size, 0, none⟩) sec.length cp) dk (t : Int) sec wc _ (fun b g => Nat.lt_of_lt_of_le (HRlt.out b g) hHeld.2.2.2.2.2.2.size) hRx (S.New w5 wc) (fun b g => Nat.lt_of_lt_of_le g.2 (Nat.le_refl _)) HSL.out hdk (by omega))
                clear hRx
                go_simp
                refine HWx.out.mono ?_
                rintro r9 ww ⟨v9, rfl, hRw, hbw⟩
                obtain ⟨D1, e1, D2, e2, D3, e3, rfl⟩ := hRw.form
                generalize (dk.write (t : Int) sec).secs.length = m1 at *
                generalize (dk.write (t : Int) sec).row.length = m2 at *
                have hHw := HK.out _ (hHeld.2.2.2.2.2.2.trans (hbw.mono hHeld.2.2.2.2.2.2.size))
                have HRw := Lib.hid hRw
                have HBW := Lib.hid hbw
                have HX := Lib.hid hHeld.2.2.2.2.2.2
                clear hRw hbw HWx
                go_wp2_with fail
                refine hK.out _ _ (hHw) (fun hHeld => ?_)
                clear hK K
                try simp only [Act.put, List.setIfInBounds_toArray, List.set_cons_zero, List.set_cons_succ]
                refine takeH (i := 15) (v := ?_) (some 47) rfl (by rfl) (by kernel_rfl) (by kernel_rfl) (by kernel_rfl) (fun _ _ _ h => h) (Or.inl ⟨by rfl, fun w hSw => ?_⟩) (by assumption) ?_
                rotate_left
                · go_simp
                  try with_reducible rfl
                try simp only [Act.put, List.setIfInBounds_toArray, List.set_cons_zero, List.set_cons_succ]
                refine takeH (i := 16) (v := ?_) (some 63) rfl (by rfl) (by kernel_rfl) (by kernel_rfl) (by kernel_rfl) (fun _ _ _ h => h) (Or.inl ⟨by rfl, fun w hSw => ?_⟩) (by assumption) ?_
                rotate_left
                · go_simp
                  try with_reducible rfl
                try simp only [Act.put, List.setIfInBounds_toArray, List.set_cons_zero, List.set_cons_succ]
                refine takeH (i := 17) (v := ?_) (some 64) rfl (by rfl) (by kernel_rfl) (by kernel_rfl) (by kernel_rfl) (fun _ _ _ h => h) (Or.inl ⟨by rfl, fun w hSw => ?_⟩) (by assumption) ?_
                rotate_left
                · go_simp
                  try with_reducible rfl
                try simp only [Act.put, List.setIfInBounds_toArray, List.set_cons_zero, List.set_cons_succ]
                refine wpAnyH_ready (rs := [18]) (by kernel_rfl) (by simp) ?_
                refine (AllReadyH.cons rfl (fun K hK => ?_) AllReadyH.nil)
                · have HGge := Lib.hid hHeld.2.2.2.2.2.2.size
                  go_simp
                  refine hK.out _ _ (HA.out _ _ (by assumption)) (fun hHeld => ?_)
                  clear hK K
                  try simp only [Act.put, List.setIfInBounds_toArray, List.set_cons_zero, List.set_cons_succ]
                  have hY := B3.new ww nilV nilV nilV 36 (g := ww.heap.size) rfl
                  have hbA : Below ww.heap.size ww (ww.alloc (.cells #[nilV, nilV, nilV] 36)) := (Below.refl _ _).alloc (Nat.le_refl _) _
                  generalize ww.alloc (.cells #[nilV, nilV, nilV] 36) = wa at *
                  have HY := Lib.hid hY
                  have HBA := Lib.hid hbA
                  have HRw := Lib.hid (HRw.out.below hbA (fun b g => g.elim (fun g => Nat.lt_of_lt_of_le (HRlt.out b g) (Nat.le_trans HX.out.size HBW.out.size)) (fun g => g.2)))
                  clear hY hbA
                  refine wpAnyH_ready (rs := [19]) (by kernel_rfl) (by simp) ?_
                  refine (AllReadyH.cons rfl (fun K hK => ?_) AllReadyH.nil)
                  · obtain ⟨_, r0, r1, r2, rf0, rf1, rf2⟩ := id HY.out
                    have hHs := HK.out _ (((hHeld.2.2.2.2.2.2.setCell (p := ⟨ww.heap.size, 0, none⟩) HGge.out (.slice D1 m1 e1)).setCell (p := ⟨ww.heap.size, 1, none⟩) HGge.out (.slice D2 m2 e2)).setCell (p := ⟨ww.heap.size, 2, none⟩) HGge.out (.slice D3 m2 e3))
                    go_simp
                    refine hK.out _ _ (hHs) (fun hHeld => ?_)
                    clear hK K
                    try simp only [Act.put, List.setIfInBounds_toArray, List.set_cons_zero, List.set_cons_succ]
                    refine takeH (i := 20) (v := ?_) (some 12) rfl (by rfl) (by kernel_rfl) (by kernel_rfl) (by kernel_rfl) (fun _ _ _ h => h) (Or.inl ⟨by rfl, fun w hSw => ?_⟩) (by assumption) ?_
                    rotate_left
                    · go_simp
                      try with_reducible rfl
                    try simp only [Act.put, List.setIfInBounds_toArray, List.set_cons_zero, List.set_cons_succ]
                    refine wpAnyH_done (by kernel_rfl) ?_ _
                    have hbf := hHeld.2.2.2.2.2.2
                    have Yf := HY.out.setAll (.slice D1 m1 e1) (.slice D2 m2 e2) (.slice D3 m2 e3)
                    have nG : ¬ ((F ww.heap.size ∨ (p + 2 ≤ ww.heap.size ∧ ww.heap.size < wr.heap.size)) ∨ S.New wc ww ww.heap.size) := fun g => g.elim (fun g => absurd (HRlt.out _ g) (Nat.not_lt.2 HGge.out)) (fun g => absurd g.2 (Nat.lt_irrefl _))
                    have hRf := ((HRw.out.set nG 0 (.slice D1 m1 e1)).set nG 1 (.slice D2 m2 e2)).set nG 2 (.slice D3 m2 e3)
                    have hzf := set3_size wa ww.heap.size (.slice D1 m1 e1) (.slice D2 m2 e2) (.slice D3 m2 e3)
                    have hws : ww.heap.size ≤ (((wa.setCell ⟨ww.heap.size, 0, none⟩ (.slice D1 m1 e1)).setCell ⟨ww.heap.size, 1, none⟩ (.slice D2 m2 e2)).setCell ⟨ww.heap.size, 2, none⟩ (.slice D3 m2 e3)).heap.size := (by show ww.heap.size ≤ _; rw [hzf]; exact HBA.out.size)
                    clear hHeld
                    generalize (((wa.setCell ⟨ww.heap.size, 0, none⟩ (.slice D1 m1 e1)).setCell ⟨ww.heap.size, 1, none⟩ (.slice D2 m2 e2)).setCell ⟨ww.heap.size, 2, none⟩ (.slice D3 m2 e3)) = wf at *
                    have hRf2 := hRf.wider (G := fun b => F b ∨ (w.heap.size + 2 ≤ b ∧ b < wf.heap.size)) (fun b g => by
                      have hx1 := HX.out.size
                      rw [hpe]
                      rcases g with (g | g) | g
                      · exact Or.inl g
                      · exact Or.inr ⟨g.1, by have := hbf.size; omega⟩
                      · exact Or.inr ⟨by have := g.1; omega, by have := g.2; omega⟩)
                    have HNX := Lib.hid (RAp.next HRA.out (by rw [hpe]; exact hF) (below_two hb4 hbf) hRf2 HDE.out)
                    rw [hpe] at HNX
                    have Pf := HP4.out.step hbf
                    obtain ⟨_, r0, r1, r2, _, _, _⟩ := Yf
                    have p0 := Pf.cell 0 _ rfl
                    have p1 := Pf.cell 1 _ rfl
                    have p2 := Pf.cell 2 _ rfl
                    have f0 := Pf.fz 0 (by simp [rgC])
                    have f1 := Pf.fz 1 (by simp [rgC])
                    have f2 := Pf.fz 2 (by simp [rgC])
                    clear hRf hRf2 Pf nG
                    go_wp2_with fail
                    go_roundw
                    case rel => exact ⟨j + 1, by omega, by go_num, HNX.out⟩
                    case measure => simp [intOf]; omega
              · have HGge := Lib.hid hHeld.2.2.2.2.2.2.size
                go_simp
                refine hK.out _ _ (HA.out _ _ (by assumption)) (fun hHeld => ?_)
                clear hK K
                try simp only [Act.put, List.setIfInBounds_toArray, List.set_cons_zero, List.set_cons_succ]
                have hY := B3.new wc nilV nilV nilV 36 (g := wc.heap.size) rfl
                have hbA : Below wc.heap.size wc (wc.alloc (.cells #[nilV, nilV, nilV] 36)) := (Below.refl _ _).alloc (Nat.le_refl _) _
                generalize wc.alloc (.cells #[nilV, nilV, nilV] 36) = wa at *
                have HY := Lib.hid hY
                have HBA := Lib.hid hbA
                clear hY hbA
                refine wpAnyH_ready (rs := [14]) (by kernel_rfl) (by simp) ?_
                refine (AllReadyH.cons rfl (fun K hK => ?_) AllReadyH.nil)
                · have hRx := HRd.out.below hHeld.2.2.2.2.2.2 (fun b g => HRlt.out b g)
                  have HWx := Lib.hid (rwrite_any _ (.slice (some ⟨w5.heap.size, 0, none⟩) sec.length cp) dk (t : Int) sec wa _ (fun b g => Nat.lt_of_lt_of_le (HRlt.out b g) hHeld.2.2.2.2.2.2.size) hRx (S.New w5 wc) (fun b g => Nat.lt_of_lt_of_le g.2 HBA.out.size) (HSL.out.below HBA.out (fun b g => g.2)) hdk (by omega))
                  clear hRx
                  go_simp
                  refine HWx.out.mono ?_
                  rintro r9 ww ⟨v9, rfl, hRw, hbw⟩
                  obtain ⟨D1, e1, D2, e2, D3, e3, rfl⟩ := hRw.form
                  generalize (dk.write (t : Int) sec).secs.length = m1 at *
                  generalize (dk.write (t : Int) sec).row.length = m2 at *
                  have hHw := HK.out _ (hHeld.2.2.2.2.2.2.trans (hbw.mono hHeld.2.2.2.2.2.2.size))
                  have HRw := Lib.hid hRw
                  have HBW := Lib.hid hbw
                  have HGlt := Lib.hid HY.out.lt
                  have HY := Lib.hid (HY.out.step hbw)
                  have HX := Lib.hid hHeld.2.2.2.2.2.2
                  clear hRw hbw HWx
                  go_wp2_with fail
                  refine hK.out _ _ (hHw) (fun hHeld => ?_)
                  clear hK K
                  try simp only [Act.put, List.setIfInBounds_toArray, List.set_cons_zero, List.set_cons_succ]
                  refine takeH (i := 15) (v := ?_) (some 47) rfl (by rfl) (by kernel_rfl) (by kernel_rfl) (by kernel_rfl) (fun _ _ _ h => h) (Or.inl ⟨by rfl, fun w hSw => ?_⟩) (by assumption) ?_
                  rotate_left
                  · go_simp
                    try with_reducible rfl
                  try simp only [Act.put, List.setIfInBounds_toArray, List.set_cons_zero, List.set_cons_succ]
                  refine takeH (i := 16) (v := ?_) (some 63) rfl (by rfl) (by kernel_rfl) (by kernel_rfl) (by kernel_rfl) (fun _ _ _ h => h) (Or.inl ⟨by rfl, fun w hSw => ?_⟩) (by assumption) ?_
                  rotate_left
                  · go_simp
                    try with_reducible rfl
                  try simp only [Act.put, List.setIfInBounds_toArray, List.set_cons_zero, List.set_cons_succ]
                  refine takeH (i := 17) (v := ?_) (some 64) rfl (by rfl) (by kernel_rfl) (by kernel_rfl) (by kernel_rfl) (fun _ _ _ h => h) (Or.inl ⟨by rfl, fun w hSw => ?_⟩) (by assumption) ?_
                  rotate_left
                  · go_simp
                    try with_reducible rfl
                  try simp only [Act.put, List.setIfInBounds_toArray, List.set_cons_zero, List.set_cons_succ]
                  refine wpAnyH_ready (rs := [19]) (by kernel_rfl) (by simp) ?_
                  refine (AllReadyH.cons rfl (fun K hK => ?_) AllReadyH.nil)
                  · obtain ⟨_, r0, r1, r2, rf0, rf1, rf2⟩ := id HY.out
                    have hHs := HK.out _ (((hHeld.2.2.2.2.2.2.setCell (p := ⟨wc.heap.size, 0, none⟩) HGge.out (.slice D1 m1 e1)).setCell (p := ⟨wc.heap.size, 1, none⟩) HGge.out (.slice D2 m2 e2)).setCell (p := ⟨wc.heap.size, 2, none⟩) HGge.out (.slice D3 m2 e3))
                    go_simp
                    refine hK.out _ _ (hHs) (fun hHeld => ?_)
                    clear hK K
                    try simp only [Act.put, List.setIfInBounds_toArray, List.set_cons_zero, List.set_cons_succ]
                    refine takeH (i := 20) (v := ?_) (some 12) rfl (by rfl) (by kernel_rfl) (by kernel_rfl) (by kernel_rfl) (fun _ _ _ h => h) (Or.inl ⟨by rfl, fun w hSw => ?_⟩) (by assumption) ?_
                    rotate_left
                    · go_simp
                      try with_reducible rfl
                    try simp only [Act.put, List.setIfInBounds_toArray, List.set_cons_zero, List.set_cons_succ]
                    refine wpAnyH_done (by kernel_rfl) ?_ _
                    have hbf := hHeld.2.2.2.2.2.2
                    have Yf := HY.out.setAll (.slice D1 m1 e1) (.slice D2 m2 e2) (.slice D3 m2 e3)
                    have nG : ¬ ((F wc.heap.size ∨ (p + 2 ≤ wc.heap.size ∧ wc.heap.size < wr.heap.size)) ∨ S.New wa ww wc.heap.size) := fun g => g.elim (fun g => absurd (HRlt.out _ g) (Nat.not_lt.2 HGge.out)) (fun g => absurd HGlt.out (Nat.not_lt.2 g.1))
                    have hRf := ((HRw.out.set nG 0 (.slice D1 m1 e1)).set nG 1 (.slice D2 m2 e2)).set nG 2 (.slice D3 m2 e3)
                    have hzf := set3_size ww wc.heap.size (.slice D1 m1 e1) (.slice D2 m2 e2) (.slice D3 m2 e3)
                    have hws : ww.heap.size ≤ (((ww.setCell ⟨wc.heap.size, 0, none⟩ (.slice D1 m1 e1)).setCell ⟨wc.heap.size, 1, none⟩ (.slice D2 m2 e2)).setCell ⟨wc.heap.size, 2, none⟩ (.slice D3 m2 e3)).heap.size := (by show ww.heap.size ≤ _; rw [hzf]; exact Nat.le_refl _)
                    clear hHeld
                    generalize (((ww.setCell ⟨wc.heap.size, 0, none⟩ (.slice D1 m1 e1)).setCell ⟨wc.heap.size, 1, none⟩ (.slice D2 m2 e2)).setCell ⟨wc.heap.size, 2, none⟩ (.slice D3 m2 e3)) = wf at *
                    have hRf2 := hRf.wider (G := fun b => F b ∨ (w.heap.size + 2 ≤ b ∧ b < wf.heap.size)) (fun b g => by
                      have hx1 := HX.out.size
                      rw [hpe]
                      rcases g with (g | g) | g
                      · exact Or.inl g
                      · exact Or.inr ⟨g.1, by have := hbf.size; omega⟩
                      · exact Or.inr ⟨by have := g.1; omega, by have := g.2; omega⟩)
                    have HNX := Lib.hid (RAp.next HRA.out (by rw [hpe]; exact hF) (below_two hb4 hbf) hRf2 HDE.out)
                    rw [hpe] at HNX
                    have Pf := HP4.out.step hbf
                    obtain ⟨_, r0, r1, r2, _, _, _⟩ := Yf
                    have p0 := Pf.cell 0 _ rfl
                    have p1 := Pf.cell 1 _ rfl
                    have p2 := Pf.cell 2 _ rfl
                    have f0 := Pf.fz 0 (by simp [rgC])
                    have f1 := Pf.fz 1 (by simp [rgC])
                    have f2 := Pf.fz 2 (by simp [rgC])
                    clear hRf hRf2 Pf nG
                    go_wp2_with fail
                    go_roundw
                    case rel => exact ⟨j + 1, by omega, by go_num, HNX.out⟩
                    case measure => simp [intOf]; omega
            · have HGge := Lib.hid hHeld.2.2.2.2.2.2.size
              go_simp
              refine hK.out _ _ (HA.out _ _ (by assumption)) (fun hHeld => ?_)
              clear hK K
              try simp only [Act.put, List.setIfInBounds_toArray, List.set_cons_zero, List.set_cons_succ]
              have hY := B3.new wc nilV nilV nilV 36 (g := wc.heap.size) rfl
              have hbA : Below wc.heap.size wc (wc.alloc (.cells #[nilV, nilV, nilV] 36)) := (Below.refl _ _).alloc (Nat.le_refl _) _
              generalize wc.alloc (.cells #[nilV, nilV, nilV] 36) = wa at *
              have HY := Lib.hid hY
              have HBA := Lib.hid hbA
              clear hY hbA
              refine wpAnyH_ready (rs := [11]) (by kernel_rfl) (by simp) ?_
              refine (AllReadyH.cons rfl (fun K hK => ?_) AllReadyH.nil)
              · go_simp
                refine (HAt.out _).mono ?_
                rintro r9 w9 ⟨rfl, rfl⟩
                go_wp2_with fail
                refine hK.out _ _ (by assumption) (fun hHeld => ?_)
                clear hK K
                try simp only [Act.put, List.setIfInBounds_toArray, List.set_cons_zero, List.set_cons_succ]
                refine wpAnyH_ready (rs := [14]) (by kernel_rfl) (by simp) ?_
                refine (AllReadyH.cons rfl (fun K hK => ?_) AllReadyH.nil)
                · have hRx := HRd.out.below hHeld.2.2.2.2.2.2 (fun b g => HRlt.out b g)
                  have HWx := Lib.hid (rwrite_any _ (.slice (some ⟨w5.heap.size, 0, none⟩) sec.length cp) dk (t : Int) sec wa _ (fun b g => Nat.lt_of_lt_of_le (HRlt.out b g) hHeld.2.2.2.2.2.2.size) hRx (S.New w5 wc) (fun b g => Nat.lt_of_lt_of_le g.2 HBA.out.size) (HSL.out.below HBA.out (fun b g => g.2)) hdk (by omega))
                  clear hRx
                  go_simp
                  refine HWx.out.mono ?_
                  rintro r9 ww ⟨v9, rfl, hRw, hbw⟩
                  obtain ⟨D1, e1, D2, e2, D3, e3, rfl⟩ := hRw.form
                  generalize (dk.write (t : Int) sec).secs.length = m1 at *
                  generalize (dk.write (t : Int) sec).row.length = m2 at *
                  have hHw := HK.out _ (hHeld.2.2.2.2.2.2.trans (hbw.mono hHeld.2.2.2.2.2.2.size))
                  have HRw := Lib.hid hRw
                  have HBW := Lib.hid hbw
                  have HGlt := Lib.hid HY.out.lt
                  have HY := Lib.hid (HY.out.step hbw)
                  have HX := Lib.hid hHeld.2.2.2.2.2.2
                  clear hRw hbw HWx
                  go_wp2_with fail
                  refine hK.out _ _ (hHw) (fun hHeld => ?_)
                  clear hK K
                  try simp only [Act.put, List.setIfInBounds_toArray, List.set_cons_zero, List.set_cons_succ]
                  refine takeH (i := 15) (v := ?_) (some 47) rfl (by rfl) (by kernel_rfl) (by kernel_rfl) (by kernel_rfl) (fun _ _ _ h => h) (Or.inl ⟨by rfl, fun w hSw => ?_⟩) (by assumption) ?_
                  rotate_left
                  · go_simp
                    try with_reducible rfl
                  try simp only [Act.put, List.setIfInBounds_toArray, List.set_cons_zero, List.set_cons_succ]
                  refine takeH (i := 16) (v := ?_) (some 63) rfl (by rfl) (by kernel_rfl) (by kernel_rfl) (by kernel_rfl) (fun _ _ _ h => h) (Or.inl ⟨by rfl, fun w hSw => ?_⟩) (by assumption) ?_
                  rotate_left
                  · go_simp
                    try with_reducible rfl
                  try simp only [Act.put, List.setIfInBounds_toArray, List.set_cons_zero, List.set_cons_succ]
                  refine takeH (i := 17) (v := ?_) (some 64) rfl (by rfl) (by kernel_rfl) (by kernel_rfl) (by kernel_rfl) (fun _ _ _ h => h) (Or.inl ⟨by rfl, fun w hSw => ?_⟩) (by assumption) ?_
                  rotate_left
                  · go_simp
                    try with_reducible rfl
                  try simp only [Act.put, List.setIfInBounds_toArray, List.set_cons_zero, List.set_cons_succ]
                  refine wpAnyH_ready (rs := [19]) (by kernel_rfl) (by simp) ?_
                  refine (AllReadyH.cons rfl (fun K hK => ?_) AllReadyH.nil)
                  · obtain ⟨_, r0, r1, r2, rf0, rf1, rf2⟩ := id HY.out
                    have hHs := HK.out _ (((hHeld.2.2.2.2.2.2.setCell (p := ⟨wc.heap.size, 0, none⟩) HGge.out (.slice D1 m1 e1)).setCell (p := ⟨wc.heap.size, 1, none⟩) HGge.out (.slice D2 m2 e2)).setCell (p := ⟨wc.heap.size, 2, none⟩) HGge.out (.slice D3 m2 e3))
                    go_simp
                    refine hK.out _ _ (hHs) (fun hHeld => ?_)
                    clear hK K
                    try simp only [Act.put, List.setIfInBounds_toArray, List.set_cons_zero, List.set_cons_succ]
                    refine takeH (i := 20) (v := ?_) (some 12) rfl (by rfl) (by kernel_rfl) (by kernel_rfl) (by kernel_rfl) (fun _ _ _ h => h) (Or.inl ⟨by rfl, fun w hSw => ?_⟩) (by assumption) ?_
                    rotate_left
                    · go_simp
                      try with_reducible rfl
                    try simp only [Act.put, List.setIfInBounds_toArray, List.set_cons_zero, List.set_cons_succ]
                    refine wpAnyH_done (by kernel_rfl) ?_ _
                    have hbf := hHeld.2.2.2.2.2.2
                    have Yf := HY.out.setAll (.slice D1 m1 e1) (.slice D2 m2 e2) (.slice D3 m2 e3)
                    have nG : ¬ ((F wc.heap.size ∨ (p + 2 ≤ wc.heap.size ∧ wc.heap.size < wr.heap.size)) ∨ S.New wa ww wc.heap.size) := fun g => g.elim (fun g => absurd (HRlt.out _ g) (Nat.not_lt.2 HGge.out)) (fun g => absurd HGlt.out (Nat.not_lt.2 g.1))
                    have hRf := ((HRw.out.set nG 0 (.slice D1 m1 e1)).set nG 1 (.slice D2 m2 e2)).set nG 2 (.slice D3 m2 e3)
                    have hzf := set3_size ww wc.heap.size (.slice D1 m1 e1) (.slice D2 m2 e2) (.slice D3 m2 e3)
                    have hws : ww.heap.size ≤ (((ww.setCell ⟨wc.heap.size, 0, none⟩ (.slice D1 m1 e1)).setCell ⟨wc.heap.size, 1, none⟩ (.slice D2 m2 e2)).setCell ⟨wc.heap.size, 2, none⟩ (.slice D3 m2 e3)).heap.size := (by show ww.heap.size ≤ _; rw [hzf]; exact Nat.le_refl _)
                    clear hHeld
                    generalize (((ww.setCell ⟨wc.heap.size, 0, none⟩ (.slice D1 m1 e1)).setCell ⟨wc.heap.size, 1, none⟩ (.slice D2 m2 e2)).setCell ⟨wc.heap.size, 2, none⟩ (.slice D3 m2 e3)) = wf at *
                    have hRf2 := hRf.wider (G := fun b => F b ∨ (w.heap.size + 2 ≤ b ∧ b < wf.heap.size)) (fun b g => by
                      have hx1 := HX.out.size
                      rw [hpe]
                      rcases g with (g | g) | g
                      · exact Or.inl g
                      · exact Or.inr ⟨g.1, by have := hbf.size; omega⟩
                      · exact Or.inr ⟨by have := g.1; omega, by have := g.2; omega⟩)
                    have HNX := Lib.hid (RAp.next HRA.out (by rw [hpe]; exact hF) (below_two hb4 hbf) hRf2 HDE.out)
                    rw [hpe] at HNX
                    have Pf := HP4.out.step hbf
                    obtain ⟨_, r0, r1, r2, _, _, _⟩ := Yf
                    have p0 := Pf.cell 0 _ rfl
                    have p1 := Pf.cell 1 _ rfl
                    have p2 := Pf.cell 2 _ rfl
                    have f0 := Pf.fz 0 (by simp [rgC])
                    have f1 := Pf.fz 1 (by simp [rgC])
                    have f2 := Pf.fz 2 (by simp [rgC])
                    clear hRf hRf2 Pf nG
                    go_wp2_with fail
                    go_roundw
                    case rel => exact ⟨j + 1, by omega, by go_num, HNX.out⟩
                    case measure => simp [intOf]; omega
          · have HGge := Lib.hid hHeld.2.2.2.2.2.2.size
            go_simp
            refine hK.out _ _ (HA.out _ _ (by assumption)) (fun hHeld => ?_)
            clear hK K
            try simp only [Act.put, List.setIfInBounds_toArray, List.set_cons_zero, List.set_cons_succ]
            have hY := B3.new w5 nilV nilV nilV 36 (g := w5.heap.size) rfl
            have hbA : Below w5.heap.size w5 (w5.alloc (.cells #[nilV, nilV, nilV] 36)) := (Below.refl _ _).alloc (Nat.le_refl _) _
            generalize w5.alloc (.cells #[nilV, nilV, nilV] 36) = wa at *
            have HY := Lib.hid hY
            have HBA := Lib.hid hbA
            clear hY hbA
            refine wpAnyH_ready (rs := [11, 13]) (by kernel_rfl) (by simp) ?_
            refine (AllReadyH.cons rfl (fun K hK => ?_) (AllReadyH.cons rfl (fun K hK => ?_) AllReadyH.nil))
            · go_simp
              refine (HAt.out _).mono ?_
              rintro r9 w9 ⟨rfl, rfl⟩
              go_wp2_with fail
              refine hK.out _ _ (by assumption) (fun hHeld => ?_)
              clear hK K
              try simp only [Act.put, List.setIfInBounds_toArray, List.set_cons_zero, List.set_cons_succ]
              refine wpAnyH_ready (rs := [13]) (by kernel_rfl) (by simp) ?_
              refine (AllReadyH.cons rfl (fun K hK => ?_) AllReadyH.nil)
              · obtain ⟨cp, wc, hcv, hsl, hbc⟩ := conv_bytes wa sec
                have hHc := HK.out _ (hHeld.2.2.2.2.2.2.trans (hbc.mono hHeld.2.2.2.2.2.2.size))
                have HSL := Lib.hid hsl
                have HBC := Lib.hid hbc
                have HY := Lib.hid (HY.out.step hbc)
                clear hsl hbc
                go_simp
                refine hK.out _ _ (hHc) (fun hHeld => ?_)
                clear hK K
                try simp only [Act.put, List.setIfInBounds_toArray, List.set_cons_zero, List.set_cons_succ]
                refine wpAnyH_ready (rs := [14]) (by kernel_rfl) (by simp) ?_
                refine (AllReadyH.cons rfl (fun K hK => ?_) AllReadyH.nil)
                · have hRx := HRd.out.below hHeld.2.2.2.2.2.2 (fun b g => HRlt.out b g)
                  have HWx := Lib.hid (rwrite_any _ (.slice (some ⟨wa.heap.size, 0, none⟩) sec.length cp) dk (t : Int) sec wc _ (fun b g => Nat.lt_of_lt_of_le (HRlt.out b g) hHeld.2.2.2.2.2.2.size) hRx (S.New wa wc) (fun b g => Nat.lt_of_lt_of_le g.2 (Nat.le_refl _)) HSL.out hdk (by omega))
                  clear hRx
                  go_simp
                  refine HWx.out.mono ?_
                  rintro r9 ww ⟨v9, rfl, hRw, hbw⟩
                  obtain ⟨D1, e1, D2, e2, D3, e3, rfl⟩ := hRw.form
                  generalize (dk.write (t : Int) sec).secs.length = m1 at *
                  generalize (dk.write (t : Int) sec).row.length = m2 at *
                  have hHw := HK.out _ (hHeld.2.2.2.2.2.2.trans (hbw.mono hHeld.2.2.2.2.2.2.size))
                  have HRw := Lib.hid hRw
                  have HBW := Lib.hid hbw
                  have HGlt := Lib.hid HY.out.lt
                  have HY := Lib.hid (HY.out.step hbw)
                  have HX := Lib.hid hHeld.2.2.2.2.2.2
                  clear hRw hbw HWx
                  go_wp2_with fail
                  refine hK.out _ _ (hHw) (fun hHeld => ?_)
                  clear hK K
                  try simp only [Act.put, List.setIfInBounds_toArray, List.set_cons_zero, List.set_cons_succ]
                  refine takeH (i := 15) (v := ?_) (some 47) rfl (by rfl) (by kernel_rfl) (by kernel_rfl) (by kernel_rfl) (fun _ _ _ h => h) (Or.inl ⟨by rfl, fun w hSw => ?_⟩) (by assumption) ?_
                  rotate_left
                  · go_simp
                    try with_reducible rfl
                  try simp only [Act.put, List.setIfInBounds_toArray, List.set_cons_zero, List.set_cons_succ]
                  refine takeH (i := 16) (v := ?_) (some 63) rfl (by rfl) (by kernel_rfl) (by kernel_rfl) (by kernel_rfl) (fun _ _ _ h => h) (Or.inl ⟨by rfl, fun w hSw => ?_⟩) (by assumption) ?_
                  rotate_left
                  · go_simp
                    try with_reducible rfl
                  try simp only [Act.put, List.setIfInBounds_toArray, List.set_cons_zero, List.set_cons_succ]
                  refine takeH (i := 17) (v := ?_) (some 64) rfl (by rfl) (by kernel_rfl) (by kernel_rfl) (by kernel_rfl) (fun _ _ _ h => h) (Or.inl ⟨by rfl, fun w hSw => ?_⟩) (by assumption) ?_
                  rotate_left
                  · go_simp
                    try with_reducible rfl
                  try simp only [Act.put, List.setIfInBounds_toArray, List.set_cons_zero, List.set_cons_succ]
                  refine wpAnyH_ready (rs := [19]) (by kernel_rfl) (by simp) ?_
                  refine (AllReadyH.cons rfl (fun K hK => ?_) AllReadyH.nil)
                  · obtain ⟨_, r0, r1, r2, rf0, rf1, rf2⟩ := id HY.out
                    have hHs := HK.out _ (((hHeld.2.2.2.2.2.2.setCell (p := ⟨w5.heap.size, 0, none⟩) HGge.out (.slice D1 m1 e1)).setCell (p := ⟨w5.heap.size, 1, none⟩) HGge.out (.slice D2 m2 e2)).setCell (p := ⟨w5.heap.size, 2, none⟩) HGge.out (.slice D3 m2 e3))
                    go_simp
                    refine hK.out _ _ (hHs) (fun hHeld => ?_)
                    clear hK K
                    try simp only [Act.put, List.setIfInBounds_toArray, List.set_cons_zero, List.set_cons_succ]
                    refine takeH (i := 20) (v := ?_) (some 12) rfl (by rfl) (by kernel_rfl) (by kernel_rfl) (by kernel_rfl) (fun _ _ _ h => h) (Or.inl ⟨by rfl, fun w hSw => ?_⟩) (by assumption) ?_
                    rotate_left
                    · go_simp
                      try with_reducible rfl
                    try simp only [Act.put, List.setIfInBounds_toArray, List.set_cons_zero, List.set_cons_succ]
                    refine wpAnyH_done (by kernel_rfl) ?_ _
                    have hbf := hHeld.2.2.2.2.2.2
                    have Yf := HY.out.setAll (.slice D1 m1 e1) (.slice D2 m2 e2) (.slice D3 m2 e3)
                    have nG : ¬ ((F w5.heap.size ∨ (p + 2 ≤ w5.heap.size ∧ w5.heap.size < wr.heap.size)) ∨ S.New wc ww w5.heap.size) := fun g => g.elim (fun g => absurd (HRlt.out _ g) (Nat.not_lt.2 HGge.out)) (fun g => absurd HGlt.out (Nat.not_lt.2 g.1))
                    have hRf := ((HRw.out.set nG 0 (.slice D1 m1 e1)).set nG 1 (.slice D2 m2 e2)).set nG 2 (.slice D3 m2 e3)
                    have hzf := set3_size ww w5.heap.size (.slice D1 m1 e1) (.slice D2 m2 e2) (.slice D3 m2 e3)
                    have hws : ww.heap.size ≤ (((ww.setCell ⟨w5.heap.size, 0, none⟩ (.slice D1 m1 e1)).setCell ⟨w5.heap.size, 1, none⟩ (.slice D2 m2 e2)).setCell ⟨w5.heap.size, 2, none⟩ (.slice D3 m2 e3)).heap.size := (by show ww.heap.size ≤ _; rw [hzf]; exact Nat.le_refl _)
                    clear hHeld
                    generalize (((ww.setCell ⟨w5.heap.size, 0, none⟩ (.slice D1 m1 e1)).setCell ⟨w5.heap.size, 1, none⟩ (.slice D2 m2 e2)).setCell ⟨w5.heap.size, 2, none⟩ (.slice D3 m2 e3)) = wf at *
                    have hRf2 := hRf.wider (G := fun b => F b ∨ (w.heap.size + 2 ≤ b ∧ b < wf.heap.size)) (fun b g => by
                      have hx1 := HX.out.size
                      rw [hpe]
                      rcases g with (g | g) | g
                      · exact Or.inl g
                      · exact Or.inr ⟨g.1, by have := hbf.size; omega⟩
                      · exact Or.inr ⟨by have := g.1; omega, by have := g.2; omega⟩)
                    have HNX := Lib.hid (RAp.next HRA.out (by rw [hpe]; exact hF) (below_two hb4 hbf) hRf2 HDE.out)
                    rw [hpe] at HNX
                    have Pf := HP4.out.step hbf
                    obtain ⟨_, r0, r1, r2, _, _, _⟩ := Yf
                    have p0 := Pf.cell 0 _ rfl
                    have p1 := Pf.cell 1 _ rfl
                    have p2 := Pf.cell 2 _ rfl
                    have f0 := Pf.fz 0 (by simp [rgC])
                    have f1 := Pf.fz 1 (by simp [rgC])
                    have f2 := Pf.fz 2 (by simp [rgC])
                    clear hRf hRf2 Pf nG
                    go_wp2_with fail
                    go_roundw
                    case rel => exact ⟨j + 1, by omega, by go_num, HNX.out⟩
                    case measure => simp [intOf]; omega
            · obtain ⟨cp, wc, hcv, hsl, hbc⟩ := conv_bytes wa sec
              have hHc := HK.out _ (hHeld.2.2.2.2.2.2.trans (hbc.mono hHeld.2.2.2.2.2.2.size))
              have HSL := Lib.hid hsl
              have HBC := Lib.hid hbc
              have HY := Lib.hid (HY.out.step hbc)
              clear hsl hbc
              go_simp
              refine hK.out _ _ (hHc) (fun hHeld => ?_)
              clear hK K
              try simp only [Act.put, List.setIfInBounds_toArray, List.set_cons_zero, List.set_cons_succ]
              refine wpAnyH_ready (rs := [11]) (by kernel_rfl) (by simp) ?_
              refine (AllReadyH.cons rfl (fun K hK => ?_) AllReadyH.nil)
              · go_simp
                refine (HAt.out _).mono ?_
                rintro r9 w9 ⟨rfl, rfl⟩
                go_wp2_with fail
                refine hK.out _ _ (by assumption) (fun hHeld => ?_)
                clear hK K
                try simp only [Act.put, List.setIfInBounds_toArray, List.set_cons_zero, List.set_cons_succ]
                refine wpAnyH_ready (rs := [14]) (by kernel_rfl) (by simp) ?_
                refine (AllReadyH.cons rfl (fun K hK => ?_) AllReadyH.nil)
                · have hRx := HRd.out.below hHeld.2.2.2.2.2.2 (fun b g => HRlt.out b g)
                  have HWx := Lib.hid (rwrite_any _ (.slice (some ⟨wa.heap.size, 0, none⟩) sec.length cp) dk (t : Int) sec wc _ (fun b g => Nat.lt_of_lt_of_le (HRlt.out b g) hHeld.2.2.2.2.2.2.size) hRx (S.New wa wc) (fun b g => Nat.lt_of_lt_of_le g.2 (Nat.le_refl _)) HSL.out hdk (by omega))
                  clear hRx
                  go_simp
                  refine HWx.out.mono ?_
                  rintro r9 ww ⟨v9, rfl, hRw, hbw⟩
                  obtain ⟨D1, e1, D2, e2, D3, e3, rfl⟩ := hRw.form
                  generalize (dk.write (t : Int) sec).secs.length = m1 at *
                  generalize (dk.write (t : Int) sec).row.length = m2 at *
                  have hHw := HK.out _ (hHeld.2.2.2.2.2.2.trans (hbw.mono hHeld.2.2.2.2.2.2.size))
                  have HRw := Lib.hid hRw
                  have HBW := Lib.hid hbw
                  have HGlt := Lib.hid HY.out.lt
                  have HY := Lib.hid (HY.out.step hbw)
                  have HX := Lib.hid hHeld.2.2.2.2.2.2
                  clear hRw hbw HWx
                  go_wp2_with fail
                  refine hK.out _ _ (hHw) (fun hHeld => ?_)
                  clear hK K
                  try simp only [Act.put, List.setIfInBounds_toArray, List.set_cons_zero, List.set_cons_succ]
                  refine takeH (i := 15) (v := ?_) (some 47) rfl (by rfl) (by kernel_rfl) (by kernel_rfl) (by kernel_rfl) (fun _ _ _ h => h) (Or.inl ⟨by rfl, fun w hSw => ?_⟩) (by assumption) ?_
                  rotate_left
                  · go_simp
                    try with_reducible rfl
                  try simp only [Act.put, List.setIfInBounds_toArray, List.set_cons_zero, List.set_cons_succ]
                  refine takeH (i := 16) (v := ?_) (some 63) rfl (by rfl) (by kernel_rfl) (by kernel_rfl) (by kernel_rfl) (fun _ _ _ h => h) (Or.inl ⟨by rfl, fun w hSw => ?_⟩) (by assumption) ?_
                  rotate_left
                  · go_simp
                    try with_reducible rfl
                  try simp only [Act.put, List.setIfInBounds_toArray, List.set_cons_zero, List.set_cons_succ]
                  refine takeH (i := 17) (v := ?_) (some 64) rfl (by rfl) (by kernel_rfl) (by kernel_rfl) (by kernel_rfl) (fun _ _ _ h => h) (Or.inl ⟨by rfl, fun w hSw => ?_⟩) (by assumption) ?_
                  rotate_left
                  · go_simp
                    try with_reducible rfl
                  try simp only [Act.put, List.setIfInBounds_toArray, List.set_cons_zero, List.set_cons_succ]
                  refine wpAnyH_ready (rs := [19]) (by kernel_rfl) (by simp) ?_
                  refine (AllReadyH.cons rfl (fun K hK => ?_) AllReadyH.nil)
                  · obtain ⟨_, r0, r1, r2, rf0, rf1, rf2⟩ := id HY.out
                    have hHs := HK.out _ (((hHeld.2.2.2.2.2.2.setCell (p := ⟨w5.heap.size, 0, none⟩) HGge.out (.slice D1 m1 e1)).setCell (p := ⟨w5.heap.size, 1, none⟩) HGge.out (.slice D2 m2 e2)).setCell (p := ⟨w5.heap.size, 2, none⟩) HGge.out (.slice D3 m2 e3))
                    go_simp
                    refine hK.out _ _ (hHs) (fun hHeld => ?_)
                    clear hK K
                    try simp only [Act.put, List.setIfInBounds_toArray, List.set_cons_zero, List.set_cons_succ]
                    refine takeH (i := 20) (v := ?_) (some 12) rfl (by rfl) (by kernel_rfl) (by kernel_rfl) (by kernel_rfl) (fun _ _ _ h => h) (Or.inl ⟨by rfl, fun w hSw => ?_⟩) (by assumption) ?_
                    rotate_left
                    · go_simp
                      try with_reducible rfl
                    try simp only [Act.put, List.setIfInBounds_toArray, List.set_cons_zero, List.set_cons_succ]
                    refine wpAnyH_done (by kernel_rfl) ?_ _
                    have hbf := hHeld.2.2.2.2.2.2
                    have Yf := HY.out.setAll (.slice D1 m1 e1) (.slice D2 m2 e2) (.slice D3 m2 e3)
                    have nG : ¬ ((F w5.heap.size ∨ (p + 2 ≤ w5.heap.size ∧ w5.heap.size < wr.heap.size)) ∨ S.New wc ww w5.heap.size) := fun g => g.elim (fun g => absurd (HRlt.out _ g) (Nat.not_lt.2 HGge.out)) (fun g => absurd HGlt.out (Nat.not_lt.2 g.1))
                    have hRf := ((HRw.out.set nG 0 (.slice D1 m1 e1)).set nG 1 (.slice D2 m2 e2)).set nG 2 (.slice D3 m2 e3)
                    have hzf := set3_size ww w5.heap.size (.slice D1 m1 e1) (.slice D2 m2 e2) (.slice D3 m2 e3)
                    have hws : ww.heap.size ≤ (((ww.setCell ⟨w5.heap.size, 0, none⟩ (.slice D1 m1 e1)).setCell ⟨w5.heap.size, 1, none⟩ (.slice D2 m2 e2)).setCell ⟨w5.heap.size, 2, none⟩ (.slice D3 m2 e3)).heap.size := (by show ww.heap.size ≤ _; rw [hzf]; exact Nat.le_refl _)
                    clear hHeld
                    generalize (((ww.setCell ⟨w5.heap.size, 0, none⟩ (.slice D1 m1 e1)).setCell ⟨w5.heap.size, 1, none⟩ (.slice D2 m2 e2)).setCell ⟨w5.heap.size, 2, none⟩ (.slice D3 m2 e3)) = wf at *
                    have hRf2 := hRf.wider (G := fun b => F b ∨ (w.heap.size + 2 ≤ b ∧ b < wf.heap.size)) (fun b g => by
                      have hx1 := HX.out.size
                      rw [hpe]
                      rcases g with (g | g) | g
                      · exact Or.inl g
                      · exact Or.inr ⟨g.1, by have := hbf.size; omega⟩
                      · exact Or.inr ⟨by have := g.1; omega, by have := g.2; omega⟩)
                    have HNX := Lib.hid (RAp.next HRA.out (by rw [hpe]; exact hF) (below_two hb4 hbf) hRf2 HDE.out)
                    rw [hpe] at HNX
                    have Pf := HP4.out.step hbf
                    obtain ⟨_, r0, r1, r2, _, _, _⟩ := Yf
                    have p0 := Pf.cell 0 _ rfl
                    have p1 := Pf.cell 1 _ rfl
                    have p2 := Pf.cell 2 _ rfl
                    have f0 := Pf.fz 0 (by simp [rgC])
                    have f1 := Pf.fz 1 (by simp [rgC])
                    have f2 := Pf.fz 2 (by simp [rgC])
                    clear hRf hRf2 Pf nG
                    go_wp2_with fail
                    go_roundw
                    case rel => exact ⟨j + 1, by omega, by go_num, HNX.out⟩
                    case measure => simp [intOf]; omega
        · obtain rfl : M = j := by omega
          have hlt' : ¬ (M : Int) < (M : Int) := by omega
          have hpq : ¬ p = q := by omega
          have hqp : ¬ q = p := by omega
          rw [show G.firsts r.epoch r.next rec M = R.cut r.epoch r.next rec by rw [HMM.out, G.firsts_all]] at hRd
          obtain ⟨D1, e1, D2, e2, D3, e3, hfo⟩ := hRd.form
          obtain ⟨dk, hdk⟩ : ∃ dk, dk = G.lay r.first r.many r.d (R.cut r.epoch r.next rec) := ⟨_, rfl⟩
          rw [← hdk] at hRd hfo
          have HDK := Lib.hid hdk
          clear hdk
          obtain ⟨m1, hm1⟩ : ∃ m1, m1 = dk.secs.length := ⟨_, rfl⟩
          obtain ⟨m2, hm2⟩ : ∃ m2, m2 = dk.row.length := ⟨_, rfl⟩
          rw [← hm1, ← hm2] at hfo
          clear hm1 hm2
          cases hfo
          have HRd := Lib.hid hRd
          have HQ := Lib.hid ((Q.other (q := p) hpq 7 (.int .u32 ((r.next : Int) + (M : Int)))).all8 (.slice D1 m1 e1) (.slice D2 m2 e2) (.slice D3 m2 e3) (.int .i64 (r.first : Int)) (.int .i64 (r.many : Int)) (.int .u32 (r.epoch : Int)) (.int .u32 (r.low : Int)) (.int .u32 ((r.next : Int) + (M : Int))))
          have p0 := P.cell 0 _ rfl
          have p1 := P.cell 1 _ rfl
          have p2 := P.cell 2 _ rfl
          have p3 := P.cell 3 _ rfl
          have p4 := P.cell 4 _ rfl
          have p5 := P.cell 5 _ rfl
          have p6 := P.cell 6 _ rfl
          have p7 := P.cell 7 _ rfl
          have pf7 := P.fz 7 (by simp [rgC])
          have q0 := Q.cell 0 _ rfl
          have q1 := Q.cell 1 _ rfl
          have q2 := Q.cell 2 _ rfl
          have q3 := Q.cell 3 _ rfl
          have q4 := Q.cell 4 _ rfl
          have q5 := Q.cell 5 _ rfl
          have q6 := Q.cell 6 _ rfl
          have q7 := Q.cell 7 _ rfl
          have qf0 := Q.fz 0 (by simp)
          have qf1 := Q.fz 1 (by simp)
          have qf2 := Q.fz 2 (by simp)
          have qf3 := Q.fz 3 (by simp)
          have qf4 := Q.fz 4 (by simp)
          have qf5 := Q.fz 5 (by simp)
          have qf6 := Q.fz 6 (by simp)
          have qf7 := Q.fz 7 (by simp)
          clear hRd P Q fr' HRA
          go_wp2_with fail
          go_region
          all_goals go_wp2_with fail
          refine bodyPost_ret (results_bk_2 rfl _ rfl HQ.out.drew Try.underlying39 rfl infoRr) rfl ?_
          have hT := (set8_turn' ((Turn.refl (fun b => b = p ∨ b = q) wr).put (q := p) (Or.inl rfl) 7 (.int .u32 ((r.next : Int) + (M : Int)))) (q := q) (Or.inr rfl) (.slice D1 m1 e1) (.slice D2 m2 e2) (.slice D3 m2 e3) (.int .i64 (r.first : Int)) (.int .i64 (r.many : Int)) (.int .u32 (r.epoch : Int)) (.int .u32 (r.low : Int)) (.int .u32 ((r.next : Int) + (M : Int)))).drew
          have hNx : ((r.next : Int) + (M : Int)) = (((r.put rec).next : Nat) : Int) := by show _ = ((r.next + R.many rec.length : Nat) : Int); rw [← HMM.out]; omega
          have hsT := hT.size
          generalize (set8 (wr.setCell ⟨p, 7, none⟩ (.int .u32 ((r.next : Int) + (M : Int)))) q (.slice D1 m1 e1) (.slice D2 m2 e2) (.slice D3 m2 e3) (.int .i64 (r.first : Int)) (.int .i64 (r.many : Int)) (.int .u32 (r.epoch : Int)) (.int .u32 (r.low : Int)) (.int .u32 ((r.next : Int) + (M : Int)))).drew = wf at *
          refine ⟨_, ret_v (by rw [told_ok HE.out, HE.out, ← HMM.out, show ((r.next + M : Nat) : Int) = (r.next : Int) + (M : Int) by omega]; rfl), ?_, ?_⟩
          · rw [append_ok HE.out, hNx]
            refine ⟨_, _, _, rfl, ?_⟩
            have hD : (r.put rec).d = dk := HDK.out.symm
            rw [hD]
            exact (HRd.out.turn hT (fun b g => g.elim (fun g => by have := hF b g; omega) (fun g => g.2)) (fun b g e => by rcases e with e | e <;> rcases g with g | g <;> first | omega | (have := hF b g; omega))).wider (fun b g => g.elim Or.inl (fun g => Or.inr ⟨by rw [hpe]; omega, by omega⟩))
          · rw [hpe]
            exact bel.trans (hT.below (by omega) (fun b e => by rcases e with e | e <;> omega))

end Go.Proofs.Ytfpojbnidoeohaa
