/-
  Walks of layer scan's laws: ScanReads.
-/
import Derived.Test.YtnjhbmjhldfdpaaScAwake
import Derived.Test.YtnjhbmjhldfdpaaScBss
namespace Go.Proofs.Ytnjhbmjhldfdpaa
open Go.RowKit

theorem Bk.all3 {w : World} {p : Nat} {a b c : Value} (h : Bk w p [a, b, c]) (a' b' c' : Value) : Bk (((w.setCell ⟨p, 0, none⟩ a').setCell ⟨p, 1, none⟩ b').setCell ⟨p, 2, none⟩ c') p [a', b', c'] :=
  ((h.set 0 (by simp) a').set 1 (by simp) b').set 2 (by simp) c'
theorem turn3 (w : World) (p : Nat) (a b c : Value) : Turn (fun x => x = p) w (((w.setCell ⟨p, 0, none⟩ a).setCell ⟨p, 1, none⟩ b).setCell ⟨p, 2, none⟩ c) :=
  (((Turn.refl (fun x => x = p) w).put (q := p) rfl 0 a).put (q := p) rfl 1 b).put (q := p) rfl 2 c
theorem set3_other {w : World} {a : Addr} {v : Value} (h : w.cell? a = some v) {g : Nat} (hg : g ≠ a.block) (u0 u1 u2 : Value) : (((w.setCell ⟨g, 0, none⟩ u0).setCell ⟨g, 1, none⟩ u1).setCell ⟨g, 2, none⟩ u2).cell? a = some v := by
  rw [World.cell?_setCell_far _ _ _ _ hg, World.cell?_setCell_far _ _ _ _ hg, World.cell?_setCell_far _ _ _ _ hg]
  exact h

set_option maxRecDepth 100000 in
set_option maxHeartbeats 1000000 in
theorem rwrite_long (v vb : Value) (d : D.Dk) (i : Nat) (l : List UInt8) (w : World) (F : Nat → Prop) (hF : ∀ b, F b → b < w.heap.size) (h : Rd w F v d) (G : Nat → Prop) (hb : SlB w G vb l) (hl : l.length ≤ 9223372036854775807) (hi : i < d.secs.length) (_hd : d.secs.length ≤ 1024) (h64 : 64 < l.length) :
    Calls Try.prog 13 #[v, .int .i64 (i : Int), vb] w fun e w' => ∃ v', e = .returned (.tuple #[v', .int .i64 (d.bad i l)]) ∧ Rd w' (fun b => F b ∨ S.New w w' b) v' (d.write i l) ∧ Below w.heap.size w w' := by
  have HR := Lib.hid h
  obtain ⟨a, b, c, rfl, hx⟩ := h
  obtain ⟨A1, m1, e1, A2, m2, e2, A3, m3, e3, rfl, rfl, rfl⟩ := rd_form HR.out
  obtain ⟨Ab, capb, rfl, hcb⟩ := Sg_form hb
  have hm1 : m1 = d.secs.length := by
    obtain ⟨_, A, cap, e, _⟩ := hx.1
    cases e
    rfl
  subst hm1
  clear hx hb
  have ht : d.there (i : Int) := ⟨by omega, by omega⟩
  rw [show d.write (i : Int) l = d by rw [D.Dk.write, if_neg (fun g => by have := g.2; omega)], show d.bad (i : Int) l = 1 by rw [D.Dk.bad, if_pos ht, if_neg (by omega)]]
  have R1 := B3.new (w.alloc (.cells #[.slice A1 d.secs.length e1, .slice A2 m2 e2, .slice A3 m3 e3] 32)) (.slice A1 d.secs.length e1) (.slice A2 m2 e2) (.slice A3 m3 e3) 32 (g := w.heap.size + 1) (by simp)
  have hb2 := two_new (w := w) (o := .cells #[.slice A1 d.secs.length e1, .slice A2 m2 e2, .slice A3 m3 e3] 32) (o' := .cells #[.slice A1 d.secs.length e1, .slice A2 m2 e2, .slice A3 m3 e3] 32)
  have HR2 := Lib.hid (HR.out.below hb2 hF)
  have hi0 : ¬ (i : Int) < 0 := by omega
  have hi1 : ¬ (d.secs.length : Int) ≤ (i : Int) := by omega
  clear ht
  go_enter Try.func13, Try.ntmps13
  go_wp2
  refine bodyPost_ret (results_b3_1 rfl _ rfl R1 undDisk rfl infoDisk) rfl ?_
  exact ⟨_, rfl, HR2.out.wider (fun b h => Or.inl h), hb2⟩

theorem rwrite_all (v vb : Value) (d : D.Dk) (i : Nat) (l : List UInt8) (w : World) (F : Nat → Prop) (hF : ∀ b, F b → b < w.heap.size) (h : Rd w F v d) (G : Nat → Prop) (hG : ∀ b, G b → b < w.heap.size) (hb : SlB w G vb l) (hl : l.length ≤ 9223372036854775807) (hi : i < d.secs.length) (hd : d.secs.length ≤ 1024) (hr : d.row.length ≤ 1000) :
    Calls Try.prog 13 #[v, .int .i64 (i : Int), vb] w fun e w' => ∃ v', e = .returned (.tuple #[v', .int .i64 (d.bad i l)]) ∧ Rd w' (fun b => F b ∨ S.New w w' b) v' (d.write i l) ∧ Below w.heap.size w w' := by
  by_cases h64 : l.length ≤ 64
  · exact rwrite_any v vb d i l w F hF h G hG hb (by omega) (by omega)
  · exact rwrite_long v vb d i l w F hF h G hb hl hi hd (by omega)

theorem recs_run {d : D.Dk} {ix : Nat → Int} {e : Nat} : ∀ (fuel n : Nat) (b : Bool) (body : List UInt8), n < 4294967296 → ∃ i, (∀ j, j < i → ∃ b f, Q.good d (ix ((n + j) % 4294967296)) e ((n + j) % 4294967296) b = some f) ∧ (Q.recs d ix e fuel n b body).length ≤ i := by
  intro fuel
  induction fuel with
  | zero => intro n b body _; exact ⟨0, fun j hj => absurd hj (Nat.not_lt_zero _), by simp [Q.recs]⟩
  | succ fuel ih =>
    intro n b body hn
    cases hg : Q.good d (ix n) e n b with
    | none => exact ⟨0, fun j hj => absurd hj (Nat.not_lt_zero _), by rw [Q.recs_none hg]; simp⟩
    | some f =>
      have step : ∀ i, (∀ j, j < i → ∃ b f, Q.good d (ix (((n + 1) % 4294967296 + j) % 4294967296)) e (((n + 1) % 4294967296 + j) % 4294967296) b = some f) → ∀ j, j < i + 1 → ∃ b f, Q.good d (ix ((n + j) % 4294967296)) e ((n + j) % 4294967296) b = some f := fun i hi j hj => by
        cases j with
        | zero => rw [Nat.add_zero, Nat.mod_eq_of_lt hn]; exact ⟨_, _, hg⟩
        | succ j =>
          have := hi j (by omega)
          rw [show (n + (j + 1)) % 4294967296 = ((n + 1) % 4294967296 + j) % 4294967296 by omega]
          exact this
      by_cases hf : f.flag.toNat / 2 % 2 = 1
      · obtain ⟨i, h1, h2⟩ := ih ((n + 1) % 4294967296) true ((if b then [] else body) ++ f.body) (Nat.mod_lt _ (by decide))
        exact ⟨i + 1, step i h1, by rw [Q.recs_last hg hf]; simp only [List.length_cons]; omega⟩
      · obtain ⟨i, h1, h2⟩ := ih ((n + 1) % 4294967296) false ((if b then [] else body) ++ f.body) (Nat.mod_lt _ (by decide))
        exact ⟨i + 1, step i h1, by rw [Q.recs_more hg hf]; omega⟩
theorem all_few (d : D.Dk) (first many : Int) (epoch from_ : Nat) (hfr : from_ < 4294967296) (hd : d.secs.length ≤ 1024) : (Q.all d first many epoch from_).length ≤ d.secs.length := by
  unfold Q.all
  split
  · obtain ⟨i, h1, h2⟩ := recs_run (d := d) (ix := Q.ixI first many) (e := epoch) many.toNat from_ true [] hfr
    exact Nat.le_trans h2 (Q.good_few hd i h1)
  · exact Nat.zero_le _

/-- what the loop over the writes holds -/
structure Lw (H : World → (Nat → Prop) → Value → D.Dk → Prop) (w0 wr : World) (Y : Nat) (vd x1 x2 x3 : Value) (d : D.Dk) (k : Nat) (F R' : Nat → Prop) : Prop where
  h : H wr F vd d
  ref : Rd wr R' (.agg #[x1, x2, x3]) d
  box : Bk wr Y [x1, x2, x3]
  rlt : ∀ b, R' b → b < wr.heap.size
  off : ∀ b, R' b → ¬ F b
  nY : ¬ F Y ∧ ¬ R' Y ∧ w0.heap.size ≤ Y
  lowF : ∀ b, F b → w0.heap.size ≤ b
  lowR : ∀ b, R' b → w0.heap.size ≤ b
  low : Below w0.heap.size w0 wr
  row : d.row.length ≤ k
  secs : d.secs.length = 12

theorem write_row_le (d : D.Dk) (i : Int) (b : D.Sec) : (d.write i b).row.length ≤ d.row.length + 1 ∧ (d.write i b).secs = d.secs := by
  unfold D.Dk.write
  split
  · exact ⟨by simp, rfl⟩
  · exact ⟨by omega, rfl⟩

section
variable {H : World → (Nat → Prop) → Value → D.Dk → Prop}

/-- one write more, of both -/
theorem Lw.next (K : DiskOk H) {w0 wr w3 wd w5 w2 : World} {Y : Nat} {vd x1 x2 x3 y1 y2 y3 : Value} {d d' : D.Dk} {k : Nat} {F R' G' : Nat → Prop} (h : Lw H w0 wr Y vd x1 x2 x3 d k F R') (hH : H w3 (More F wr w3) vd d') (ht : Turn F wr w3) (hbd : Below w3.heap.size w3 wd) (hR : Rd w5 (fun b => R' b ∨ S.New wd w5 b) (.agg #[y1, y2, y3]) d') (hb5 : Below wd.heap.size wd w5) (hG : Turn G' w5 w2) (hGw : ∀ b, G' b → w3.heap.size ≤ b ∧ ¬ S.New wd w5 b) (hrow : d'.row.length ≤ k + 1) (hsecs : d'.secs.length = 12) :
    Lw H w0 (((w2.setCell ⟨Y, 0, none⟩ y1).setCell ⟨Y, 1, none⟩ y2).setCell ⟨Y, 2, none⟩ y3) Y vd y1 y2 y3 d' (k + 1) (More F wr w3) (fun b => R' b ∨ S.New wd w5 b) := by
  have hs1 := ht.size
  have hsd := hbd.size
  have hs5 := hb5.size
  have hs2 := hG.size
  have hYl := h.box.lt
  have b35 := below_two hbd hb5
  have hFl := K.lt hH
  have T3 := turn3 w2 Y y1 y2 y3
  have hsT := T3.size
  have nYF : ¬ More F wr w3 Y := fun g => g.elim h.nY.1 (fun g => by have := g.1; omega)
  have hF2 : ∀ b, More F wr w3 b → ¬ G' b := fun b g f => by have := hFl b g; have := (hGw b f).1; omega
  have hH2 := K.turn (K.turn (K.below hH b35) hG hF2) T3 (fun b g e => nYF (e ▸ g))
  have nYR : ¬ (R' Y ∨ S.New wd w5 Y) := fun g => g.elim h.nY.2.1 (fun g => by have := g.1; omega)
  have hRlt : ∀ b, (R' b ∨ S.New wd w5 b) → b < w5.heap.size := fun b g => g.elim (fun g => by have := h.rlt b g; omega) (fun g => g.2)
  have hR2 := (hR.turn hG hRlt (fun b g f => g.elim (fun g => by have := h.rlt b g; have := (hGw b f).1; omega) (fun g => (hGw b f).2 g))).turn T3 (fun b g => by have := hRlt b g; omega) (fun b g e => nYR (e ▸ g))
  have B2 : Bk w2 Y [x1, x2, x3] := (((h.box.turn ht h.nY.1).step b35).turn hG (fun g => by have := (hGw Y g).1; omega))
  refine ⟨hH2, hR2, B2.all3 y1 y2 y3, fun b g => by have := hRlt b g; omega, ?_, ⟨nYF, nYR, h.nY.2.2⟩, ?_, ?_, ?_, hrow, hsecs⟩
  · rintro b (g | g) (f | f)
    · exact h.off b g f
    · have := h.rlt b g; have := f.1; omega
    · have := K.lt h.h b f; have := g.1; omega
    · have := g.1; have := f.2; omega
  · rintro b (g | g)
    · exact h.lowF b g
    · have := g.1; have := h.low.size; omega
  · rintro b (g | g)
    · exact h.lowR b g
    · have := g.1; have := h.low.size; omega
  · have hl := h.low.size
    exact (((h.low.trans (ht.below hl h.lowF)).trans (b35.mono (by omega))).trans (hG.below (by omega) (fun b g => by have := (hGw b g).1; omega))).trans (T3.below (by omega) (fun b e => by have := h.nY.2.2; omega))

set_option maxRecDepth 100000 in
set_option maxHeartbeats 8000000 in
theorem ScanReads_walk (K : DiskOk H) (KF : FrameOk) (KW : ∀ {w : World} {F : Nat → Prop} {v : Value} {d : D.Dk} (G : Nat → Prop) (vb : Value) (l : List UInt8) (i : Int), H w F v d → SlB w G vb l → (∀ b, G b → b < w.heap.size) → d.row.length ≤ 1000 → Calls Try.prog 12 #[v, .int .i64 i, vb] w fun e w' => e = .returned (.int .i64 (d.bad i l)) ∧ H w' (More F w w') v (d.write i l) ∧ Turn F w w')
    (v : Value) (ls : List (List UInt8)) (w : World) (Gd : Nat → Prop) (hd : Bss w Gd v ls) (hG : ∀ b, Gd b → b < w.heap.size) (hln : ls.length ≤ 9223372036854775807) (first many : Int) (epoch from_ : Nat) (hf1 : first ≤ 9223372036854775807) (hm1 : many ≤ 9223372036854775807) (he : epoch < 4294967296) (hfr : from_ < 4294967296) :
    Calls Try.prog 3 #[v, .agg #[.int .i64 first, .int .i64 many, .int .u32 (epoch : Int)], .int .u32 (from_ : Int)] w fun e w' => e = .returned (.bool true) ∧ Below w.heap.size w w' := by
  have HD := Lib.hid hd
  obtain ⟨Ad, capd, rfl, hcd⟩ : ∃ A cap, v = .slice A ls.length cap ∧ ls.length ≤ cap := by
    obtain ⟨A, cap, e, hc, _⟩ := hd
    exact ⟨A, cap, e, hc⟩
  clear hd
  have P0 := Bk.new w [.int .i64 first, .int .i64 many, .int .u32 (epoch : Int)] 25 rfl
  have hb0 : Below w.heap.size w (w.alloc (.cells #[.int .i64 first, .int .i64 many, .int .u32 (epoch : Int)] 25)) := (Below.refl _ _).alloc (Nat.le_refl _) _
  have hz0 : (w.alloc (.cells #[.int .i64 first, .int .i64 many, .int .u32 (epoch : Int)] 25)).heap.size = w.heap.size + 1 := by simp
  have hz0a := Nat.le_of_eq hz0
  have hz0b := Nat.le_of_eq hz0.symm
  have HA := Lib.hid (awake7_any K KF (w.alloc (.cells #[.int .i64 first, .int .i64 many, .int .u32 (epoch : Int)] 25)))
  clear hz0
  go_enter Try.func3, Try.ntmps3
  go_wp2_with fail
  refine HA.out.mono ?_
  rintro e w1 ⟨rfl, hb1⟩
  generalize w.alloc (.cells #[.int .i64 first, .int .i64 many, .int .u32 (epoch : Int)] 25) = w0 at *
  generalize hP : w.heap.size = P at *
  have hs1 := hb1.size
  have HN := Lib.hid (K.new 12 w1 (by decide) (by decide))
  clear HA
  go_wp2_with fail
  refine HN.out.mono ?_
  rintro e w2 ⟨vd, rfl, hH2, hb2⟩
  obtain ⟨da, rfl⟩ := K.ptr hH2
  have HH2 := Lib.hid hH2
  have hs2 := hb2.size
  have hb02 := below_two hb1 hb2
  have hbw2 : Below w.heap.size w w2 := by rw [hP]; exact hb0.trans (hb02.mono (by omega))
  clear HN hH2
  by_cases hl40 : 40 < ls.length
  · have hl40' : (40 : Int) < (ls.length : Int) := by omega
    go_wp2
    go_ret
    exact ⟨rfl, hbw2⟩
  · have hl40' : ¬ (40 : Int) < (ls.length : Int) := by omega
    have HNr := Lib.hid (rnew_any 12 w2 (by decide))
    go_wp2_with fail
    refine HNr.out.mono ?_
    rintro e w3 ⟨vx, rfl, hR3, hb3⟩
    have hs3 := hb3.size
    obtain ⟨x1, x2, x3, rfl, hx3⟩ := hR3
    have hR3 : Rd w3 (S.New w2 w3) (.agg #[x1, x2, x3]) ⟨List.replicate 12 (D.full []), []⟩ := ⟨x1, x2, x3, rfl, hx3⟩
    obtain ⟨A1, m1, e1, A2, m2, e2, A3, m3, e3, rfl, rfl, rfl⟩ := rd_form hR3
    have hba : Below w3.heap.size w3 (w3.alloc (.cells #[.slice A1 m1 e1, .slice A2 m2 e2, .slice A3 m3 e3] 32)) := (Below.refl _ _).alloc (Nat.le_refl _) _
    have hza : (w3.alloc (.cells #[.slice A1 m1 e1, .slice A2 m2 e2, .slice A3 m3 e3] 32)).heap.size = w3.heap.size + 1 := by simp
    have hzaa := Nat.le_of_eq hza
    have hzab := Nat.le_of_eq hza.symm
    have HL0 : Hid (Lw H w0 (w3.alloc (.cells #[.slice A1 m1 e1, .slice A2 m2 e2, .slice A3 m3 e3] 32)) w3.heap.size (.pointer (some da)) (.slice A1 m1 e1) (.slice A2 m2 e2) (.slice A3 m3 e3) ⟨List.replicate 12 (D.full []), []⟩ 0 (S.New w1 w2) (S.New w2 w3)) := Lib.hid
      ⟨K.below (K.below HH2.out hb3) hba, hR3.below hba (fun b g => g.2), Bk.new w3 [.slice A1 m1 e1, .slice A2 m2 e2, .slice A3 m3 e3] 32 rfl, fun b g => by have := g.2; omega, fun b g f => by have := g.1; have := f.2; omega, ⟨fun g => by have := g.2; omega, fun g => by have := g.2; omega, by omega⟩, fun b g => by have := g.1; omega, fun b g => by have := g.1; omega, below_two (below_two hb02 hb3) hba, by simp, by simp⟩
    clear HNr hx3 hR3 hza HH2
    go_wp2_with fail
    generalize w3.alloc (.cells #[.slice A1 m1 e1, .slice A2 m2 e2, .slice A3 m3 e3] 32) = w4 at *
    generalize w3.heap.size = Y at *
    clear hba hzaa hzab hb3 hs3
    go_loopw [10] (fun i wr => ∃ k x1 x2 x3 d F R', k ≤ ls.length ∧ i = .int .i64 ((k : Nat) : Int) ∧ Lw H w0 wr Y (.pointer (some da)) x1 x2 x3 d k F R') (fun i _ => ls.length - (intOf i).toNat)
    case atStart => exact ⟨0, _, _, _, _, _, _, Nat.zero_le _, rfl, HL0.out⟩
    case round =>
      obtain ⟨k, x1, x2, x3, d, F, R', hk, rfl, hL⟩ := hrel
      clear HL0
      have HL := Lib.hid hL
      obtain ⟨A1, m1, e1, A2, m2, e2, A3, m3, e3, rfl, rfl, rfl⟩ := rd_form hL.ref
      have hlow := hL.low
      have hsr := hlow.size
      have hbr : Below w.heap.size w wr := by rw [hP]; exact hb0.trans (hlow.mono (by omega))
      have hrow := hL.row
      have hsec := Nat.le_of_eq hL.secs
      have hsec' := Nat.le_of_eq hL.secs.symm
      by_cases hlt : k < ls.length
      · have hlt' : (k : Int) < (ls.length : Int) := by omega
        obtain ⟨a, cap', vb, ea, _, hga, hbl, d0, hvb⟩ := (HD.out.below (B := P) (by rw [← hP]; exact hbr) (by rw [← hP] at hG; rw [← hP]; exact hG)).nth k hlt
        cases ea
        obtain ⟨Ab, capb, rfl, hcb⟩ := Sg_form hvb
        have HVB := Lib.hid hvb
        have hgl := hG _ hga
        have nga : ¬ F a.block := fun g => by have := hL.lowF _ g; omega
        obtain ⟨q, hq⟩ : ∃ q, q = k % 12 := ⟨_, rfl⟩
        have hq12 : q < 12 := by omega
        have hq' : (k : Int) % 12 = (q : Int) := by omega
        have hqt : (k : Int).tmod 12 = (q : Int) := by rw [Int.tmod_eq_emod_of_nonneg (by omega)]; exact hq'
        have HW := Lib.hid (KW Gd (.slice Ab ls[k].length capb) ls[k] (q : Int) hL.h hvb (fun b g => by have := hG b g; omega) (by omega))
        have HBX := Lib.hid hL.box
        have HRF := Lib.hid hL.ref
        have hnY := hL.nY
        clear hq hvb hL
        go_wp2_with fail
        refine HW.out.mono ?_
        rintro e w3 ⟨rfl, hH3, ht3⟩
        have hs3 := ht3.size
        have HH3 := Lib.hid hH3
        have HT3 := Lib.hid ht3
        have B3 := HBX.out.turn ht3 hnY.1
        have hR3 := HRF.out.turn ht3 HL.out.rlt HL.out.off
        have hvb3 : SlB w3 Gd (.slice Ab ls[k].length capb) ls[k] := HVB.out.keep (fun p hp => ht3.cell (by have := hG _ hp; omega) (fun g => by have := hG _ hp; have := HL.out.lowF _ g; omega))
        have d3 : w3.cell? (a.add k) = some (.slice Ab ls[k].length capb) := (ht3.cell (by rw [S.add_block]; omega) (by rw [S.add_block]; exact nga)).trans d0
        obtain ⟨d', hd'⟩ : ∃ d', d' = d.write (q : Int) ls[k] := ⟨_, rfl⟩
        have HDD := Lib.hid hd'
        have HO : Hid (∀ wd, Below w3.heap.size w3 wd → Calls Try.prog 13 #[.agg #[.slice A1 m1 e1, .slice A2 m2 e2, .slice A3 m3 e3], .int .i64 (q : Int), .slice Ab ls[k].length capb] wd fun e w' => ∃ v', e = .returned (.tuple #[v', .int .i64 (d.bad (q : Int) ls[k])]) ∧ Rd w' (fun b => R' b ∨ S.New wd w' b) v' d' ∧ Below wd.heap.size wd w') := Lib.hid (fun wd hbd => by
          rw [HDD.out]
          exact rwrite_all _ _ d q ls[k] wd R' (fun b g => by have := HL.out.rlt b g; have := hbd.size; omega) (hR3.below hbd (fun b g => by have := HL.out.rlt b g; omega)) Gd (fun b g => by have := hG b g; have := hbd.size; omega) (hvb3.below hbd (fun b g => by have := hG b g; omega)) hbl (by omega) (by omega) (by omega))
        have HX3 := Lib.hid B3
        have HXf : Hid (∀ w', Below w3.heap.size w3 w' → (w'.cell? ⟨Y, 0, none⟩ = some (.slice A1 m1 e1) ∧ w'.cell? ⟨Y, 1, none⟩ = some (.slice A2 m2 e2) ∧ w'.cell? ⟨Y, 2, none⟩ = some (.slice A3 m3 e3) ∧ w'.cell? (a.add k) = some (.slice Ab ls[k].length capb))) := Lib.hid (fun w' hb => ⟨(HX3.out.step hb).cell 0 _ rfl, (HX3.out.step hb).cell 1 _ rfl, (HX3.out.step hb).cell 2 _ rfl, (hb.cell (by rw [S.add_block]; omega)).trans d3⟩)
        have hbz : Below w3.heap.size w3 (w3.alloc (.cells #[nilV, nilV, nilV] 32)) := (Below.refl _ _).alloc (Nat.le_refl _) _
        have hbd1 := Lib.hid (Below.drew (Below.refl w3.heap.size w3))
        have hbd2 := Lib.hid hbz.drew
        have hYl := HX3.out.lt
        have nXY : w3.heap.size ≠ Y := by omega
        have nAY : w3.heap.size ≠ (a.add k).block := by rw [S.add_block]; omega
        have HYk : Hid (∀ w5, Below (w3.alloc (.cells #[nilV, nilV, nilV] 32)).drew.heap.size (w3.alloc (.cells #[nilV, nilV, nilV] 32)).drew w5 → Bk w5 w3.heap.size [nilV, nilV, nilV]) := Lib.hid (fun w5 hb => (Bk.new w3 [nilV, nilV, nilV] 32 rfl).drew.step hb)
        have HA3 : Hid (∀ (w5 : World) (u0 u1 u2 : Value), (w5.cell? ⟨Y, 0, none⟩ = some (.slice A1 m1 e1) ∧ w5.cell? ⟨Y, 1, none⟩ = some (.slice A2 m2 e2) ∧ w5.cell? ⟨Y, 2, none⟩ = some (.slice A3 m3 e3) ∧ w5.cell? (a.add k) = some (.slice Ab ls[k].length capb)) → ((((w5.setCell ⟨w3.heap.size, 0, none⟩ (u0)).setCell ⟨w3.heap.size, 1, none⟩ (u1)).setCell ⟨w3.heap.size, 2, none⟩ (u2)).cell? ⟨Y, 0, none⟩ = some (.slice A1 m1 e1) ∧ (((w5.setCell ⟨w3.heap.size, 0, none⟩ (u0)).setCell ⟨w3.heap.size, 1, none⟩ (u1)).setCell ⟨w3.heap.size, 2, none⟩ (u2)).cell? ⟨Y, 1, none⟩ = some (.slice A2 m2 e2) ∧ (((w5.setCell ⟨w3.heap.size, 0, none⟩ (u0)).setCell ⟨w3.heap.size, 1, none⟩ (u1)).setCell ⟨w3.heap.size, 2, none⟩ (u2)).cell? ⟨Y, 2, none⟩ = some (.slice A3 m3 e3) ∧ (((w5.setCell ⟨w3.heap.size, 0, none⟩ (u0)).setCell ⟨w3.heap.size, 1, none⟩ (u1)).setCell ⟨w3.heap.size, 2, none⟩ (u2)).cell? (a.add k) = some (.slice Ab ls[k].length capb))) := Lib.hid (fun w5 u0 u1 u2 h =>
          ⟨set3_other (a := ⟨Y, 0, none⟩) h.1 nXY u0 u1 u2, set3_other (a := ⟨Y, 1, none⟩) h.2.1 nXY u0 u1 u2, set3_other (a := ⟨Y, 2, none⟩) h.2.2.1 nXY u0 u1 u2, set3_other h.2.2.2 nAY u0 u1 u2⟩)
        have HAl : Hid (∀ (w5 : World) (o : Obj), (w5.cell? ⟨Y, 0, none⟩ = some (.slice A1 m1 e1) ∧ w5.cell? ⟨Y, 1, none⟩ = some (.slice A2 m2 e2) ∧ w5.cell? ⟨Y, 2, none⟩ = some (.slice A3 m3 e3) ∧ w5.cell? (a.add k) = some (.slice Ab ls[k].length capb)) → ((w5.alloc o).cell? ⟨Y, 0, none⟩ = some (.slice A1 m1 e1) ∧ (w5.alloc o).cell? ⟨Y, 1, none⟩ = some (.slice A2 m2 e2) ∧ (w5.alloc o).cell? ⟨Y, 2, none⟩ = some (.slice A3 m3 e3) ∧ (w5.alloc o).cell? (a.add k) = some (.slice Ab ls[k].length capb))) := Lib.hid (fun w5 o h =>
          have qq (p : Addr) (u : Value) (h : w5.cell? p = some u) : (w5.alloc o).cell? p = some u := (((Below.refl w5.heap.size w5).alloc (Nat.le_refl _) o).cell (World.block_lt_of_cell? w5 p h)).trans h
          ⟨qq _ _ h.1, qq _ _ h.2.1, qq _ _ h.2.2.1, qq _ _ h.2.2.2⟩)
        have HSd : Hid ((w3.drew.cell? ⟨Y, 0, none⟩ = some (.slice A1 m1 e1) ∧ w3.drew.cell? ⟨Y, 1, none⟩ = some (.slice A2 m2 e2) ∧ w3.drew.cell? ⟨Y, 2, none⟩ = some (.slice A3 m3 e3) ∧ w3.drew.cell? (a.add k) = some (.slice Ab ls[k].length capb))) := Lib.hid (HXf.out w3.drew hbd1.out)
        have HSz : Hid (((w3.alloc (.cells #[nilV, nilV, nilV] 32)).drew.cell? ⟨Y, 0, none⟩ = some (.slice A1 m1 e1) ∧ (w3.alloc (.cells #[nilV, nilV, nilV] 32)).drew.cell? ⟨Y, 1, none⟩ = some (.slice A2 m2 e2) ∧ (w3.alloc (.cells #[nilV, nilV, nilV] 32)).drew.cell? ⟨Y, 2, none⟩ = some (.slice A3 m3 e3) ∧ (w3.alloc (.cells #[nilV, nilV, nilV] 32)).drew.cell? (a.add k) = some (.slice Ab ls[k].length capb))) := Lib.hid (HXf.out _ hbd2.out)
        have HXF := Lib.hid (HXf.out w3 (Below.refl _ _))
        obtain ⟨t0, t1, t2, t3⟩ := HXF.out
        clear hd' B3 hR3 hvb3 d3 d0 hH3 ht3 HW hbz
        go_wp2_with fail
        go_region_held3 (fun w' => (w'.cell? ⟨Y, 0, none⟩ = some (.slice A1 m1 e1) ∧ w'.cell? ⟨Y, 1, none⟩ = some (.slice A2 m2 e2) ∧ w'.cell? ⟨Y, 2, none⟩ = some (.slice A3 m3 e3) ∧ w'.cell? (a.add k) = some (.slice Ab ls[k].length capb)))
          (first | with_reducible exact HSd.out | with_reducible exact HSz.out | with_reducible assumption | with_reducible exact HAl.out _ _ (by assumption))
          (first
            | (go_at_call 13
               (with_reducible refine (HO.out _ hbd1.out).mono ?_)
               rintro e w5 ⟨yv, rfl, hR5, hb5⟩
               obtain ⟨y1, y2, y3, rfl, hy5⟩ := hR5
               obtain ⟨C1, n1, g1, C2, n2, g2, C3, n3, g3, rfl, rfl, rfl⟩ := rd_form (w := w5) (F := fun b => R' b ∨ S.New w3.drew w5 b) (d := d') ⟨y1, y2, y3, rfl, hy5⟩
               have hA := HXf.out w5 (below_two hbd1.out hb5))
            | (go_at_call 13
               (with_reducible refine (HO.out _ hbd2.out).mono ?_)
               rintro e w5 ⟨yv, rfl, hR5, hb5⟩
               obtain ⟨y1, y2, y3, rfl, hy5⟩ := hR5
               obtain ⟨C1, n1, g1, C2, n2, g2, C3, n3, g3, rfl, rfl, rfl⟩ := rd_form (w := w5) (F := fun b => R' b ∨ S.New (w3.alloc (.cells #[nilV, nilV, nilV] 32)).drew w5 b) (d := d') ⟨y1, y2, y3, rfl, hy5⟩
               have hA := HXf.out w5 (below_two hbd2.out hb5)
               have hY4 := HYk.out w5 hb5
               have ya0 := hY4.cell 0 _ rfl
               have ya1 := hY4.cell 1 _ rfl
               have ya2 := hY4.cell 2 _ rfl
               have yf0 := hY4.fz 0 (by simp)
               have yf1 := hY4.fz 1 (by simp)
               have yf2 := hY4.fz 2 (by simp)
               have hA' := HA3.out w5 (.slice C1 n1 g1) (.slice C2 n2 g2) (.slice C3 n3 g3) hA))
        · have hR5 : Rd w5 (fun b => R' b ∨ S.New w3.drew w5 b) (.agg #[.slice C1 n1 g1, .slice C2 n2 g2, .slice C3 n3 g3]) d' := ⟨_, _, _, rfl, hy5⟩
          have hwl := write_row_le d (q : Int) ls[k]
          rw [← HDD.out] at hwl
          have hba : Below w5.heap.size w5 (w5.alloc (.cells #[.slice C1 n1 g1, .slice C2 n2 g2, .slice C3 n3 g3] 32)) := (Below.refl _ _).alloc (Nat.le_refl _) _
          have HLN := Lib.hid (Lw.next K HL.out (by rw [HDD.out]; exact HH3.out) HT3.out hbd1.out hR5 hb5 (Turn.of_below (F := fun _ => False) hba) (fun b g => g.elim) (by omega) (by rw [hwl.2]; omega))
          have hYa := Bk.new w5 [.slice C1 n1 g1, .slice C2 n2 g2, .slice C3 n3 g3] 32 rfl
          have hXa := ((HX3.out.step hbd1.out).step hb5).step hba
          have yb0 := hYa.cell 0 _ rfl
          have yb1 := hYa.cell 1 _ rfl
          have yb2 := hYa.cell 2 _ rfl
          have xa0 := hXa.cell 0 _ rfl
          have xa1 := hXa.cell 1 _ rfl
          have xa2 := hXa.cell 2 _ rfl
          have xf0 := hXa.fz 0 (by simp)
          have xf1 := hXa.fz 1 (by simp)
          have xf2 := hXa.fz 2 (by simp)
          clear hYa hXa hba hA HO HXf HYk HA3 HAl HSd HSz HXF hR5 hy5 t0 t1 t2 t3
          go_wp2_with fail
          go_roundw
          case rel => exact ⟨k + 1, _, _, _, _, _, _, by omega, by go_num, HLN.out⟩
          case measure => simp [intOf]; omega
        · have hR5 : Rd w5 (fun b => R' b ∨ S.New (w3.alloc (.cells #[nilV, nilV, nilV] 32)).drew w5 b) (.agg #[.slice C1 n1 g1, .slice C2 n2 g2, .slice C3 n3 g3]) d' := ⟨_, _, _, rfl, hy5⟩
          have hwl := write_row_le d (q : Int) ls[k]
          rw [← HDD.out] at hwl
          have hzz : (w3.alloc (.cells #[nilV, nilV, nilV] 32)).drew.heap.size = w3.heap.size + 1 := World.size_alloc _ _
          have HLN := Lib.hid (Lw.next K HL.out (by rw [HDD.out]; exact HH3.out) HT3.out hbd2.out hR5 hb5 (turn3 w5 w3.heap.size (.slice C1 n1 g1) (.slice C2 n2 g2) (.slice C3 n3 g3)) (fun b e => ⟨by omega, fun g => by have := g.1; omega⟩) (by omega) (by rw [hwl.2]; omega))
          have hYa := hY4.all3 (.slice C1 n1 g1) (.slice C2 n2 g2) (.slice C3 n3 g3)
          have hXa := ((HX3.out.step hbd2.out).step hb5).turn (turn3 w5 w3.heap.size (.slice C1 n1 g1) (.slice C2 n2 g2) (.slice C3 n3 g3)) (fun e => nXY e.symm)
          clear hA' ya0 ya1 ya2 yf0 yf1 yf2 hY4
          have yb0 := hYa.cell 0 _ rfl
          have yb1 := hYa.cell 1 _ rfl
          have yb2 := hYa.cell 2 _ rfl
          have xa0 := hXa.cell 0 _ rfl
          have xa1 := hXa.cell 1 _ rfl
          have xa2 := hXa.cell 2 _ rfl
          have xf0 := hXa.fz 0 (by simp)
          have xf1 := hXa.fz 1 (by simp)
          have xf2 := hXa.fz 2 (by simp)
          clear hYa hXa hA HO HXf HYk HA3 HAl HSd HSz HXF hR5 hy5 t0 t1 t2 t3 hzz
          generalize (((w5.setCell ⟨w3.heap.size, 0, none⟩ (.slice C1 n1 g1)).setCell ⟨w3.heap.size, 1, none⟩ (.slice C2 n2 g2)).setCell ⟨w3.heap.size, 2, none⟩ (.slice C3 n3 g3)) = w9 at *
          go_wp2_with fail
          go_roundw
          case rel => exact ⟨k + 1, _, _, _, _, _, _, by omega, by go_num, HLN.out⟩
          case measure => simp [intOf]; omega
      · obtain rfl : k = ls.length := by omega
        have hlt' : ¬ ((ls.length : Nat) : Int) < (ls.length : Int) := by omega
        have Pr := P0.step hlow
        have p0 := Pr.cell 0 _ rfl
        have p1 := Pr.cell 1 _ rfl
        have p2 := Pr.cell 2 _ rfl
        obtain ⟨LL, hLL⟩ : ∃ LL, LL = Q.all d first many epoch from_ := ⟨_, rfl⟩
        obtain ⟨N, hN⟩ : ∃ N, N = Q.behind from_ LL := ⟨_, rfl⟩
        have HLL := Lib.hid hLL
        have HN := Lib.hid hN
        have HR := Lib.hid (scan_read K KF hL.h first many epoch from_ hf1 hm1 he hfr)
        have hfit := (K.fit hL.h).1
        clear hL hLL hN
        go_wp2_with fail
        refine HR.out.mono ?_
        rintro e w5 ⟨vl, rfl, hrl, hb5⟩
        rw [← HLL.out] at hrl
        have HRL := Lib.hid hrl
        obtain ⟨Al, cl, rfl, hcl⟩ := hrl.form
        rw [← HLL.out, ← HN.out]
        have hs5 := hb5.size
        have B5 := HL.out.box.step hb5
        have P5 := Pr.step hb5
        have y0 := B5.cell 0 _ rfl
        have y1 := B5.cell 1 _ rfl
        have y2 := B5.cell 2 _ rfl
        have q0 := P5.cell 0 _ rfl
        have q1 := P5.cell 1 _ rfl
        have q2 := P5.cell 2 _ rfl
        have HRR := Lib.hid (rscan_read _ d w5 R' (fun b g => by have := HL.out.rlt b g; omega) (HL.out.ref.below hb5 HL.out.rlt) hfit (by omega) (by omega) first many epoch from_ hf1 hm1 hfr)
        clear HR hrl Pr p0 p1 p2 B5 P5
        go_wp2_with fail
        refine HRR.out.mono ?_
        rintro e w6 ⟨vk, rfl, hown, hb6⟩
        rw [← HLL.out] at hown
        rw [← HLL.out, ← HN.out]
        obtain ⟨Ak, ck, rfl, hck⟩ : ∃ A cap, vk = .slice A LL.length cap ∧ LL.length ≤ cap := by
          obtain ⟨_, A, cap, e, hc, _⟩ := S.Sg.of_own hown
          exact ⟨A, cap, e, hc⟩
        have HOW := Lib.hid hown
        have HRL6 := Lib.hid (HRL.out.below hb6 (fun b g => g.2))
        have hbw6 : Below w.heap.size w w6 := by rw [hP]; rw [hP] at hbr; exact hbr.trans ((below_two hb5 hb6).mono (by omega))
        clear HRR y0 y1 y2 q0 q1 q2 hown
        have hLf : LL.length ≤ 1024 := by
          have := all_few d first many epoch from_ hfr (by omega)
          rw [← HLL.out] at this
          omega
        go_wp2_with fail
        go_loopw [17] (fun i wr => ∃ k : Nat, k ≤ LL.length ∧ i = .int .i64 (k : Int) ∧ Below w6.heap.size w6 wr) (fun i _ => LL.length - (intOf i).toNat)
        case atStart => exact ⟨0, Nat.zero_le _, rfl, Below.refl _ _⟩
        case round =>
          obtain ⟨k, hk, rfl, hb⟩ := hrel
          by_cases hlt : k < LL.length
          · have hlt' : (k : Int) < (LL.length : Int) := by omega
            obtain ⟨a, cap, vb, e, _, _, y0, y1, hsb⟩ := (HRL6.out.below (B := w6.heap.size) hb (fun b g => by have := g.2; have := hb6.size; omega)).nth k hlt
            cases e
            have how := S.own_below HOW.out hb
            obtain ⟨g, cap2, cur, e2, _⟩ := V.own_form how (by omega)
            cases e2
            have z0 := V.own_cell how (j := k * 2) (u := .int .u32 (LL[k].1 : Int)) (by have := V.flat_at (f := rfC) (m := 2) LL (fun x _ => rfl) k hlt 0 (by decide); rw [Nat.add_zero] at this; rw [this]; rfl)
            have z1 := V.own_cell how (j := k * 2 + 1) (u := .string ⟨LL[k].2.toArray⟩) (by have := V.flat_at (f := rfC) (m := 2) LL (fun x _ => rfl) k hlt 1 (by decide); rw [this]; rfl)
            obtain ⟨Ab, capb, rfl, hcb⟩ := Sg_form hsb
            have hcv := conv_sg (hsb.drew)
            have hk2 : k * 2 < 9223372036854775807 := by omega
            obtain ⟨n, hn⟩ : ∃ n, n = LL[k].1 := ⟨_, rfl⟩
            obtain ⟨t, ht⟩ : ∃ t, t = LL[k].2 := ⟨_, rfl⟩
            rw [← hn] at y0 z0
            rw [← ht] at z1 y1 hcv hcb
            have HS0 : Hid (wr.drew.cell? (a.add (k * 2)) = some (.int .u32 (n : Int)) ∧ wr.drew.cell? ⟨(a.add (k * 2)).block, (a.add (k * 2)).off + 1, none⟩ = some (.slice Ab t.length capb) ∧ wr.drew.cell? ⟨g, k * 2, none⟩ = some (.int .u32 (n : Int)) ∧ wr.drew.cell? ⟨g, k * 2 + 1, none⟩ = some (.string ⟨t.toArray⟩) ∧ (convert 36 9 (.slice Ab t.length capb)).run Try.prog wr.drew = .ok (.string ⟨t.toArray⟩) wr.drew) := Lib.hid ⟨y0, y1, z0, z1, hcv⟩
            clear hn ht hsb y0 y1 z0 z1 hcv how
            go_wp2_with fail
            go_region_held3 (fun w' => (w'.cell? (a.add (k * 2)) = some (.int .u32 (n : Int)) ∧ w'.cell? ⟨(a.add (k * 2)).block, (a.add (k * 2)).off + 1, none⟩ = some (.slice Ab t.length capb) ∧ w'.cell? ⟨g, k * 2, none⟩ = some (.int .u32 (n : Int)) ∧ w'.cell? ⟨g, k * 2 + 1, none⟩ = some (.string ⟨t.toArray⟩) ∧ (convert 36 9 (.slice Ab t.length capb)).run Try.prog w' = .ok (.string ⟨t.toArray⟩) w'))
              (first | with_reducible exact HS0.out | with_reducible assumption)
              (fail)
            go_wp2_with fail
            go_roundw
            case rel => exact ⟨k + 1, by omega, by go_num, hb.drew⟩
            case measure => simp [intOf]; omega
          · obtain rfl : k = LL.length := by omega
            have hlt' : ¬ ((LL.length : Nat) : Int) < (LL.length : Int) := by omega
            go_wp2
            go_ret
            exact ⟨rfl, by first | exact hbw6.trans (hb.mono hbw6.size) | (rw [← hP]; exact hbw6.trans (hb.mono hbw6.size))⟩
end

end Go.Proofs.Ytnjhbmjhldfdpaa
