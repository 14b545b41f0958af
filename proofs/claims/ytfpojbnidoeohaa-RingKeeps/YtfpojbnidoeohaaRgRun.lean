/-
  Walks of layer ring's laws: a ring of 8 sectors behind deeds.
-/
import Derived.Test.YtfpojbnidoeohaaRgLaw6
namespace Go.Proofs.Ytfpojbnidoeohaa
open Go.RowKit

theorem agg3 {x1 x2 x3 a b c : Value} {r : G.Rg} (h : Value.agg (rgC x1 x2 x3 r).toArray = .agg #[a, b, c, .int .i64 (r.first : Int), .int .i64 (r.many : Int), .int .u32 (r.epoch : Int), .int .u32 (r.low : Int), .int .u32 (r.next : Int)]) : x1 = a ∧ x2 = b ∧ x3 = c := by
  simpa [rgC] using h

theorem hs6_len (r : G.Rg) (l : List Dd) : (hs6 r l).length ≤ l.length := by
  have h : ∀ (l : List Dd) (p : G.Rg × List (Nat × List UInt8)), (l.foldl hstep p).2.length ≤ p.2.length + l.length := by
    intro l
    induction l with
    | nil => intro p; simp
    | cons X t ih =>
      intro p
      have h1 := ih (hstep p X)
      have h2 : (hstep p X).2.length ≤ p.2.length + 1 := by unfold hstep; split <;> simp
      simp only [List.foldl_cons, List.length_cons]
      omega
  have := h l (r, [])
  simpa [hs6, hfold] using this

theorem sg_own {w : World} {base k n : Nat} {e : TypeId} {v : Value} {cs : List Value} {G : Nat → Prop} (h : w.ownsRow base e k v n cs) (hG : ∀ b, v.ownBlock = some b → G b) : S.Sg w G k v n cs := by
  have h0 := h
  rcases h.2 with ⟨rfl, rfl⟩ | ⟨g, cap, cur, rfl, _, _, hc, _⟩
  · exact ⟨h.1, none, 0, rfl, Nat.zero_le _, fun h => absurd rfl h⟩
  · refine ⟨h.1, _, cap, rfl, hc, fun _ => ⟨_, rfl, hG g rfl, fun j u hj => ?_⟩⟩
    have hjl := (List.getElem?_eq_some_iff.1 hj).1
    rw [Addr.add_lit, Nat.zero_add, World.ownsRow.cellAt h0 j (by rw [h.1] at hjl; exact hjl)]
    exact hj

theorem results_4 {P : Program} {fn : Func} {a b c d : Tmp} (hr : fn.results = #[.tmp a, .tmp b, .tmp c, .tmp d]) (tmps : Array Value) (w : World) : (results fn tmps).run P w = .ok (.tuple #[tmps.getD a undef, tmps.getD b undef, tmps.getD c undef, tmps.getD d undef]) w := by
  simp [results, hr]

/-- the ring of the laws -/
def rk0 : G.Rg := ⟨newD6 12, 2, 8, 3, 0, 0⟩
theorem rk0_may : rk0.May := ⟨by decide, by decide, by decide, by decide, by decide⟩

section
variable {H : World → (Nat → Prop) → Value → D.Dk → Prop}

set_option maxRecDepth 100000 in
set_option maxHeartbeats 8000000 in
theorem run6_any (K : DiskOk H) (KF : FrameOk) (v : Value) (l : List Dd) (w : World) (Gd : Nat → Prop) (hd : Dds w Gd v l) (hG : ∀ b, Gd b → b < w.heap.size) (hf : few6 l = true) :
    Calls Try.prog 23 #[v] w fun e w' => ∃ da pa vs ve F Fs, e = .returned (.tuple #[.pointer (some da), .pointer (some pa), vs, ve]) ∧ Rp H w' F (.pointer (some pa)) (.pointer (some da)) (rsteps rk0 l) ∧ (∀ b, F b → w.heap.size ≤ b) ∧ SlS w' Fs vs (recs (hs6 rk0 l)) ∧ SlU w' Fs ve (ends (hs6 rk0 l)) ∧ (∀ b, Fs b → b < w'.heap.size ∧ ¬ F b) ∧ Below w.heap.size w w' := by
  have hfew := few6_of hf
  have HD := Lib.hid hd
  have HM0 := Lib.hid rk0_may
  have HR0 := Lib.hid (show rk0.d.row.length = 0 from rfl)
  obtain ⟨A, cap, rfl, hc, _, _⟩ := hd
  have HN := Lib.hid (K.new 12 w (by decide) (by decide))
  go_enter Try.func23, Try.ntmps23
  go_wp2_with fail
  refine HN.out.mono ?_
  rintro e w1 ⟨vd, rfl, hH1, hb1⟩
  obtain ⟨da, rfl⟩ := K.ptr hH1
  have HR := Lib.hid (ring_new K hH1 2 8 3 0 0 (by decide) (by decide) (by decide) (by decide) (by decide) (by decide) (by decide))
  have hs1 := hb1.size
  clear HN hH1
  go_wp2_with fail
  refine HR.out.mono ?_
  rintro e w2 ⟨hb2, h2⟩
  have hs2 := hb2.size
  obtain ⟨_, vr, rfl, hP2⟩ : mayB (List.replicate 12 (D.full [])).length 2 8 0 0 = true ∧ ∃ v, e = .returned v ∧ Rp H w2 (More (S.New w w1) w1 w2) v (.pointer (some da)) rk0 := by
    rcases h2 with ⟨h, _⟩ | h
    · exact absurd h (by decide)
    · exact h
  have hbw2 := below_two hb1 hb2
  have hF2 : ∀ b, More (S.New w w1) w1 w2 b → w.heap.size ≤ b := fun b g => g.elim (fun g => g.1) (fun g => by have := g.1; omega)
  generalize More (S.New w w1) w1 w2 = F2 at *
  obtain ⟨pa, rfl⟩ := hP2.ptr
  have HP2 := Lib.hid hP2
  have HRN := Lib.hid (rnew_any 12 w2 (by decide))
  clear HR h2 hP2 hb1 hb2
  go_wp2_with fail
  refine HRN.out.mono ?_
  rintro e w3 ⟨x, rfl, hR3, hb3⟩
  obtain ⟨A1, e1, A2, e2, A3, e3, rfl⟩ := hR3.form
  have hL := Lp6.start K HP2.out hF2 hbw2 hR3 hb3 39
  have hL0 : Hid (RunL H w w3.heap.size (.pointer (some pa)) (.pointer (some da)) rk0 [] [] nilV nilV (w3.alloc (.cells #[.slice A1 12 e1, .slice A2 0 e2, .slice A3 0 e3, .int .i64 2, .int .i64 8, .int .u32 3, .int .u32 0, .int .u32 0] 39))) := Lib.hid ⟨⟨_, _, hL, (fun j hj => by cases hj), (fun j hj => by cases hj)⟩, S.own_nil _ _ _ _, S.own_nil _ _ _ _⟩
  have hl12 : (⟨List.replicate 12 (D.full []), []⟩ : D.Dk).secs.length = 12 := by simp
  have hl0 : (⟨List.replicate 12 (D.full []), []⟩ : D.Dk).row.length = 0 := rfl
  rw [hl12, hl0]
  clear hR3 HRN HP2 hL hb3 hl12 hl0
  go_wp2_with fail
  generalize w3.alloc (.cells #[.slice A1 12 e1, .slice A2 0 e2, .slice A3 0 e3, .int .i64 2, .int .i64 8, .int .u32 3, .int .u32 0, .int .u32 0] 39) = w4 at *
  generalize w3.heap.size = X at *
  go_loopw [9, 10, 11] (fun s e i wr => ∃ (k : Nat) (rs : List (List UInt8)) (es : List Nat), k ≤ l.length ∧ i = .int .i64 k ∧ rs = recs (hs6 rk0 (l.take k)) ∧ es = ends (hs6 rk0 (l.take k)) ∧ RunL H w X (.pointer (some pa)) (.pointer (some da)) (rsteps rk0 (l.take k)) rs es s e wr) (fun _ _ i _ => l.length - (intOf i).toNat)
  case atStart => exact ⟨0, [], [], Nat.zero_le _, rfl, rfl, rfl, hL0.out⟩
  case round =>
    clear hL0
    obtain ⟨k, rs, es, hk, rfl, hre, hee, hRL⟩ := hrel
    have HRE := Lib.hid hre
    have HEE := Lib.hid hee
    have HRN : Hid (rs.length ≤ 30) := Lib.hid (by
      rw [hre, recs, List.length_map]
      have h9 := hs6_len rk0 (l.take k)
      have h8 := hfew.1
      simp only [List.length_take] at h9
      omega)
    have HEN : Hid (es.length ≤ 30) := Lib.hid (by
      rw [hee, ends, List.length_map]
      have h9 := hs6_len rk0 (l.take k)
      have h8 := hfew.1
      simp only [List.length_take] at h9
      omega)
    clear hre hee
    obtain ⟨⟨F, R, hL, h1s, h2s⟩, hss, hes⟩ := hRL
    obtain ⟨As, caps, rfl, hcs⟩ := Sg_form (S.Sg.of_own hss)
    obtain ⟨Ae, cape, rfl, hce⟩ := Sg_form (S.Sg.of_own hes)
    by_cases hlt : k < l.length
    · obtain ⟨⟨x1, x2, x3, hB, hX8⟩, nF, nR, hF, hbl, hXw⟩ := hL
      obtain ⟨a, cap', vb, ea, _, hga, hok, d0, d1, d2, hvb⟩ := (HD.out.below hbl hG).nth k hlt
      cases ea
      obtain ⟨Ab, capb, rfl, hcb⟩ := Sg_form hvb
      obtain ⟨A1, m1, e1, A2, m2, e2, A3, m3, e3, ee⟩ := hB.ref.form
      obtain ⟨rfl, rfl, rfl⟩ := agg3 ee
      clear ee
      have hrow : (rsteps rk0 (l.take k)).d.row.length ≤ 900 := by
        have h9 := rsteps_row (l.take k) (r := rk0) HM0.out (fun X hX => hfew.2 X (List.mem_of_mem_take hX))
        have h0 := HR0.out
        have h8 := hfew.1
        simp only [List.length_take] at h9
        omega
      have HSt := Lib.hid (rsteps_take rk0 l k hlt)
      obtain ⟨r, hr⟩ : ∃ r, r = rsteps rk0 (l.take k) := ⟨_, rfl⟩
      rw [← hr] at hB hX8 hrow HSt
      have HRK := Lib.hid hr
      clear hr
      have hb400 := hfew.2 l[k] (List.getElem_mem hlt)
      have HO : Hid (∀ wd, Below wr.heap.size wr wd → Calls Try.prog 15 #[.pointer (some da), .pointer (some pa), .agg #[.slice A1 m1 e1, .slice A2 m2 e2, .slice A3 m3 e3, .int .i64 (r.first : Int), .int .i64 (r.many : Int), .int .u32 (r.epoch : Int), .int .u32 (r.low : Int), .int .u32 (r.next : Int)], .agg #[.int .i64 l[k].kind, .slice Ab l[k].rc.length capb, .int .u8 (l[k].n : Int)]] wd (Did6 H wd F R (.pointer (some pa)) (.pointer (some da)) (r.step l[k]))) := Lib.hid (fun wd hbd =>
        do6_any K KF _ _ _ r _ _ _ l[k] wd F R Gd (hB.below K hbd) ⟨rfl, hvb.below hbd (fun b g => Nat.lt_of_lt_of_le (hG b g) hbl.size), rfl⟩ hok (fun b g => Nat.lt_of_lt_of_le (hG b g) (Nat.le_trans hbl.size hbd.size)) (fun b g f => by have := hG b g; have := hF b f; omega) hrow (by omega))
      have hgl := hG _ hga
      have hab : (a.add (k * 3)).block = a.block := S.add_block a (k * 3)
      have nga : ¬ F a.block := fun g => by have := hF _ g; omega
      have hwz := hbl.size
      have hxl := hX8.lt
      have hX8' : Bk wr X [.slice A1 m1 e1, .slice A2 m2 e2, .slice A3 m3 e3, .int .i64 (r.first : Int), .int .i64 (r.many : Int), .int .u32 (r.epoch : Int), .int .u32 (r.low : Int), .int .u32 (r.next : Int)] := hX8
      have HXk : Hid (∀ wd w3, Below wr.heap.size wr wd → Turn F wd w3 → Bk w3 X [.slice A1 m1 e1, .slice A2 m2 e2, .slice A3 m3 e3, .int .i64 (r.first : Int), .int .i64 (r.many : Int), .int .u32 (r.epoch : Int), .int .u32 (r.low : Int), .int .u32 (r.next : Int)]) := Lib.hid (fun wd w3 hbd ht => (hX8'.step hbd).turn ht nF)
      have HDk : Hid (∀ wd w3 (p : Addr), p.block = a.block → Below wr.heap.size wr wd → Turn F wd w3 → w3.cell? p = wr.cell? p) := Lib.hid (fun wd w3 p hp hbd ht => (ht.cell (by have := hbd.size; omega) (by rw [hp]; exact nga)).trans (hbd.cell (by omega)))
      have HXf : Hid (∀ wd w3, Below wr.heap.size wr wd → Turn F wd w3 → w3.cell? ⟨X, 0, none⟩ = some (.slice A1 m1 e1) ∧ w3.cell? ⟨X, 1, none⟩ = some (.slice A2 m2 e2) ∧ w3.cell? ⟨X, 2, none⟩ = some (.slice A3 m3 e3) ∧ w3.cell? ⟨X, 3, none⟩ = some (.int .i64 (r.first : Int)) ∧ w3.cell? ⟨X, 4, none⟩ = some (.int .i64 (r.many : Int)) ∧ w3.cell? ⟨X, 5, none⟩ = some (.int .u32 (r.epoch : Int)) ∧ w3.cell? ⟨X, 6, none⟩ = some (.int .u32 (r.low : Int)) ∧ w3.cell? ⟨X, 7, none⟩ = some (.int .u32 (r.next : Int)) ∧ w3.cell? (a.add (k * 3)) = some (.int .i64 l[k].kind) ∧ w3.cell? ⟨(a.add (k * 3)).block, (a.add (k * 3)).off + 1, none⟩ = some (.slice Ab l[k].rc.length capb) ∧ w3.cell? ⟨(a.add (k * 3)).block, (a.add (k * 3)).off + 2, none⟩ = some (.int .u8 (l[k].n : Int))) := Lib.hid (fun wd w3 hbd ht =>
        have q := HXk.out wd w3 hbd ht
        ⟨q.cell 0 _ rfl, q.cell 1 _ rfl, q.cell 2 _ rfl, q.cell 3 _ rfl, q.cell 4 _ rfl, q.cell 5 _ rfl, q.cell 6 _ rfl, q.cell 7 _ rfl, (HDk.out wd w3 (a.add (k * 3)) hab hbd ht).trans d0, (HDk.out wd w3 ⟨(a.add (k * 3)).block, (a.add (k * 3)).off + 1, none⟩ hab hbd ht).trans d1, (HDk.out wd w3 ⟨(a.add (k * 3)).block, (a.add (k * 3)).off + 2, none⟩ hab hbd ht).trans d2⟩)
      have hbz : Below wr.heap.size wr (wr.alloc (.cells #[nilV, nilV, nilV, .int .i64 0, .int .i64 0, .int .u32 0, .int .u32 0, .int .u32 0] 39)) := (Below.refl _ _).alloc (Nat.le_refl _) _
      have hbd1 := Lib.hid (Below.drew (Below.refl wr.heap.size wr))
      have hbd2 := Lib.hid hbz.drew
      have nFY : ¬ F wr.heap.size := fun g => by have := hB.real.lt _ g; omega
      have nRY : ¬ R wr.heap.size := fun g => by have := hB.rlt _ g; omega
      have HYk : Hid (∀ w3, Turn F (wr.alloc (.cells #[nilV, nilV, nilV, .int .i64 0, .int .i64 0, .int .u32 0, .int .u32 0, .int .u32 0] 39)).drew w3 → Bk w3 wr.heap.size [nilV, nilV, nilV, .int .i64 0, .int .i64 0, .int .u32 0, .int .u32 0, .int .u32 0]) := Lib.hid (fun w3 ht => (Bk.new wr [nilV, nilV, nilV, .int .i64 0, .int .i64 0, .int .u32 0, .int .u32 0, .int .u32 0] 39 rfl).drew.turn ht nFY)
      have nXY : wr.heap.size ≠ X := by omega
      have nAY : wr.heap.size ≠ (a.add (k * 3)).block := by omega
      have HA8 : Hid (∀ (w3 : World) (u0 u1 u2 u3 u4 u5 u6 u7 : Value), (w3.cell? ⟨X, 0, none⟩ = some (.slice A1 m1 e1) ∧ w3.cell? ⟨X, 1, none⟩ = some (.slice A2 m2 e2) ∧ w3.cell? ⟨X, 2, none⟩ = some (.slice A3 m3 e3) ∧ w3.cell? ⟨X, 3, none⟩ = some (.int .i64 (r.first : Int)) ∧ w3.cell? ⟨X, 4, none⟩ = some (.int .i64 (r.many : Int)) ∧ w3.cell? ⟨X, 5, none⟩ = some (.int .u32 (r.epoch : Int)) ∧ w3.cell? ⟨X, 6, none⟩ = some (.int .u32 (r.low : Int)) ∧ w3.cell? ⟨X, 7, none⟩ = some (.int .u32 (r.next : Int)) ∧ w3.cell? (a.add (k * 3)) = some (.int .i64 l[k].kind) ∧ w3.cell? ⟨(a.add (k * 3)).block, (a.add (k * 3)).off + 1, none⟩ = some (.slice Ab l[k].rc.length capb) ∧ w3.cell? ⟨(a.add (k * 3)).block, (a.add (k * 3)).off + 2, none⟩ = some (.int .u8 (l[k].n : Int))) → (set8 w3 wr.heap.size u0 u1 u2 u3 u4 u5 u6 u7).cell? ⟨X, 0, none⟩ = some (.slice A1 m1 e1) ∧ (set8 w3 wr.heap.size u0 u1 u2 u3 u4 u5 u6 u7).cell? ⟨X, 1, none⟩ = some (.slice A2 m2 e2) ∧ (set8 w3 wr.heap.size u0 u1 u2 u3 u4 u5 u6 u7).cell? ⟨X, 2, none⟩ = some (.slice A3 m3 e3) ∧ (set8 w3 wr.heap.size u0 u1 u2 u3 u4 u5 u6 u7).cell? ⟨X, 3, none⟩ = some (.int .i64 (r.first : Int)) ∧ (set8 w3 wr.heap.size u0 u1 u2 u3 u4 u5 u6 u7).cell? ⟨X, 4, none⟩ = some (.int .i64 (r.many : Int)) ∧ (set8 w3 wr.heap.size u0 u1 u2 u3 u4 u5 u6 u7).cell? ⟨X, 5, none⟩ = some (.int .u32 (r.epoch : Int)) ∧ (set8 w3 wr.heap.size u0 u1 u2 u3 u4 u5 u6 u7).cell? ⟨X, 6, none⟩ = some (.int .u32 (r.low : Int)) ∧ (set8 w3 wr.heap.size u0 u1 u2 u3 u4 u5 u6 u7).cell? ⟨X, 7, none⟩ = some (.int .u32 (r.next : Int)) ∧ (set8 w3 wr.heap.size u0 u1 u2 u3 u4 u5 u6 u7).cell? (a.add (k * 3)) = some (.int .i64 l[k].kind) ∧ (set8 w3 wr.heap.size u0 u1 u2 u3 u4 u5 u6 u7).cell? ⟨(a.add (k * 3)).block, (a.add (k * 3)).off + 1, none⟩ = some (.slice Ab l[k].rc.length capb) ∧ (set8 w3 wr.heap.size u0 u1 u2 u3 u4 u5 u6 u7).cell? ⟨(a.add (k * 3)).block, (a.add (k * 3)).off + 2, none⟩ = some (.int .u8 (l[k].n : Int))) := Lib.hid (fun w3 u0 u1 u2 u3 u4 u5 u6 u7 h =>
        ⟨set8_other (a := ⟨X, 0, none⟩) h.1 nXY u0 u1 u2 u3 u4 u5 u6 u7, set8_other (a := ⟨X, 1, none⟩) h.2.1 nXY u0 u1 u2 u3 u4 u5 u6 u7, set8_other (a := ⟨X, 2, none⟩) h.2.2.1 nXY u0 u1 u2 u3 u4 u5 u6 u7, set8_other (a := ⟨X, 3, none⟩) h.2.2.2.1 nXY u0 u1 u2 u3 u4 u5 u6 u7, set8_other (a := ⟨X, 4, none⟩) h.2.2.2.2.1 nXY u0 u1 u2 u3 u4 u5 u6 u7, set8_other (a := ⟨X, 5, none⟩) h.2.2.2.2.2.1 nXY u0 u1 u2 u3 u4 u5 u6 u7, set8_other (a := ⟨X, 6, none⟩) h.2.2.2.2.2.2.1 nXY u0 u1 u2 u3 u4 u5 u6 u7, set8_other (a := ⟨X, 7, none⟩) h.2.2.2.2.2.2.2.1 nXY u0 u1 u2 u3 u4 u5 u6 u7, set8_other h.2.2.2.2.2.2.2.2.1 nAY u0 u1 u2 u3 u4 u5 u6 u7, set8_other (a := ⟨(a.add (k * 3)).block, (a.add (k * 3)).off + 1, none⟩) h.2.2.2.2.2.2.2.2.2.1 nAY u0 u1 u2 u3 u4 u5 u6 u7, set8_other (a := ⟨(a.add (k * 3)).block, (a.add (k * 3)).off + 2, none⟩) h.2.2.2.2.2.2.2.2.2.2 nAY u0 u1 u2 u3 u4 u5 u6 u7⟩)
      have HAl : Hid (∀ (w3 : World) (o : Obj), (w3.cell? ⟨X, 0, none⟩ = some (.slice A1 m1 e1) ∧ w3.cell? ⟨X, 1, none⟩ = some (.slice A2 m2 e2) ∧ w3.cell? ⟨X, 2, none⟩ = some (.slice A3 m3 e3) ∧ w3.cell? ⟨X, 3, none⟩ = some (.int .i64 (r.first : Int)) ∧ w3.cell? ⟨X, 4, none⟩ = some (.int .i64 (r.many : Int)) ∧ w3.cell? ⟨X, 5, none⟩ = some (.int .u32 (r.epoch : Int)) ∧ w3.cell? ⟨X, 6, none⟩ = some (.int .u32 (r.low : Int)) ∧ w3.cell? ⟨X, 7, none⟩ = some (.int .u32 (r.next : Int)) ∧ w3.cell? (a.add (k * 3)) = some (.int .i64 l[k].kind) ∧ w3.cell? ⟨(a.add (k * 3)).block, (a.add (k * 3)).off + 1, none⟩ = some (.slice Ab l[k].rc.length capb) ∧ w3.cell? ⟨(a.add (k * 3)).block, (a.add (k * 3)).off + 2, none⟩ = some (.int .u8 (l[k].n : Int))) → (w3.alloc o).cell? ⟨X, 0, none⟩ = some (.slice A1 m1 e1) ∧ (w3.alloc o).cell? ⟨X, 1, none⟩ = some (.slice A2 m2 e2) ∧ (w3.alloc o).cell? ⟨X, 2, none⟩ = some (.slice A3 m3 e3) ∧ (w3.alloc o).cell? ⟨X, 3, none⟩ = some (.int .i64 (r.first : Int)) ∧ (w3.alloc o).cell? ⟨X, 4, none⟩ = some (.int .i64 (r.many : Int)) ∧ (w3.alloc o).cell? ⟨X, 5, none⟩ = some (.int .u32 (r.epoch : Int)) ∧ (w3.alloc o).cell? ⟨X, 6, none⟩ = some (.int .u32 (r.low : Int)) ∧ (w3.alloc o).cell? ⟨X, 7, none⟩ = some (.int .u32 (r.next : Int)) ∧ (w3.alloc o).cell? (a.add (k * 3)) = some (.int .i64 l[k].kind) ∧ (w3.alloc o).cell? ⟨(a.add (k * 3)).block, (a.add (k * 3)).off + 1, none⟩ = some (.slice Ab l[k].rc.length capb) ∧ (w3.alloc o).cell? ⟨(a.add (k * 3)).block, (a.add (k * 3)).off + 2, none⟩ = some (.int .u8 (l[k].n : Int))) := Lib.hid (fun w3 o h =>
        have q (p : Addr) (u : Value) (h : w3.cell? p = some u) : (w3.alloc o).cell? p = some u := (((Below.refl w3.heap.size w3).alloc (Nat.le_refl _) o).cell (World.block_lt_of_cell? w3 p h)).trans h
        ⟨q _ _ h.1, q _ _ h.2.1, q _ _ h.2.2.1, q _ _ h.2.2.2.1, q _ _ h.2.2.2.2.1, q _ _ h.2.2.2.2.2.1, q _ _ h.2.2.2.2.2.2.1, q _ _ h.2.2.2.2.2.2.2.1, q _ _ h.2.2.2.2.2.2.2.2.1, q _ _ h.2.2.2.2.2.2.2.2.2.1, q _ _ h.2.2.2.2.2.2.2.2.2.2⟩)
      have HXF := Lib.hid (HXf.out wr wr (Below.refl _ _) (Turn.refl _ _))
      have hlt3 : k * 3 < 9223372036854775807 := by omega
      obtain ⟨y, hy⟩ : ∃ y, y = r.step l[k] := ⟨_, rfl⟩
      rw [← hy] at HO HSt
      have HY := Lib.hid hy
      clear hy hbz hvb hX8 hok hab
      have hS0 := HXF.out
      have HSd : Hid (wr.drew.cell? ⟨X, 0, none⟩ = some (.slice A1 m1 e1) ∧ wr.drew.cell? ⟨X, 1, none⟩ = some (.slice A2 m2 e2) ∧ wr.drew.cell? ⟨X, 2, none⟩ = some (.slice A3 m3 e3) ∧ wr.drew.cell? ⟨X, 3, none⟩ = some (.int .i64 (r.first : Int)) ∧ wr.drew.cell? ⟨X, 4, none⟩ = some (.int .i64 (r.many : Int)) ∧ wr.drew.cell? ⟨X, 5, none⟩ = some (.int .u32 (r.epoch : Int)) ∧ wr.drew.cell? ⟨X, 6, none⟩ = some (.int .u32 (r.low : Int)) ∧ wr.drew.cell? ⟨X, 7, none⟩ = some (.int .u32 (r.next : Int)) ∧ wr.drew.cell? (a.add (k * 3)) = some (.int .i64 l[k].kind) ∧ wr.drew.cell? ⟨(a.add (k * 3)).block, (a.add (k * 3)).off + 1, none⟩ = some (.slice Ab l[k].rc.length capb) ∧ wr.drew.cell? ⟨(a.add (k * 3)).block, (a.add (k * 3)).off + 2, none⟩ = some (.int .u8 (l[k].n : Int))) := Lib.hid hS0
      have HSz : Hid ((wr.alloc (.cells #[nilV, nilV, nilV, .int .i64 0, .int .i64 0, .int .u32 0, .int .u32 0, .int .u32 0] 39)).drew.cell? ⟨X, 0, none⟩ = some (.slice A1 m1 e1) ∧ (wr.alloc (.cells #[nilV, nilV, nilV, .int .i64 0, .int .i64 0, .int .u32 0, .int .u32 0, .int .u32 0] 39)).drew.cell? ⟨X, 1, none⟩ = some (.slice A2 m2 e2) ∧ (wr.alloc (.cells #[nilV, nilV, nilV, .int .i64 0, .int .i64 0, .int .u32 0, .int .u32 0, .int .u32 0] 39)).drew.cell? ⟨X, 2, none⟩ = some (.slice A3 m3 e3) ∧ (wr.alloc (.cells #[nilV, nilV, nilV, .int .i64 0, .int .i64 0, .int .u32 0, .int .u32 0, .int .u32 0] 39)).drew.cell? ⟨X, 3, none⟩ = some (.int .i64 (r.first : Int)) ∧ (wr.alloc (.cells #[nilV, nilV, nilV, .int .i64 0, .int .i64 0, .int .u32 0, .int .u32 0, .int .u32 0] 39)).drew.cell? ⟨X, 4, none⟩ = some (.int .i64 (r.many : Int)) ∧ (wr.alloc (.cells #[nilV, nilV, nilV, .int .i64 0, .int .i64 0, .int .u32 0, .int .u32 0, .int .u32 0] 39)).drew.cell? ⟨X, 5, none⟩ = some (.int .u32 (r.epoch : Int)) ∧ (wr.alloc (.cells #[nilV, nilV, nilV, .int .i64 0, .int .i64 0, .int .u32 0, .int .u32 0, .int .u32 0] 39)).drew.cell? ⟨X, 6, none⟩ = some (.int .u32 (r.low : Int)) ∧ (wr.alloc (.cells #[nilV, nilV, nilV, .int .i64 0, .int .i64 0, .int .u32 0, .int .u32 0, .int .u32 0] 39)).drew.cell? ⟨X, 7, none⟩ = some (.int .u32 (r.next : Int)) ∧ (wr.alloc (.cells #[nilV, nilV, nilV, .int .i64 0, .int .i64 0, .int .u32 0, .int .u32 0, .int .u32 0] 39)).drew.cell? (a.add (k * 3)) = some (.int .i64 l[k].kind) ∧ (wr.alloc (.cells #[nilV, nilV, nilV, .int .i64 0, .int .i64 0, .int .u32 0, .int .u32 0, .int .u32 0] 39)).drew.cell? ⟨(a.add (k * 3)).block, (a.add (k * 3)).off + 1, none⟩ = some (.slice Ab l[k].rc.length capb) ∧ (wr.alloc (.cells #[nilV, nilV, nilV, .int .i64 0, .int .i64 0, .int .u32 0, .int .u32 0, .int .u32 0] 39)).drew.cell? ⟨(a.add (k * 3)).block, (a.add (k * 3)).off + 2, none⟩ = some (.int .u8 (l[k].n : Int))) := Lib.hid (HAl.out wr (.cells #[nilV, nilV, nilV, .int .i64 0, .int .i64 0, .int .u32 0, .int .u32 0, .int .u32 0] 39) hS0)
      obtain ⟨x0, x1, x2, x3, x4, x5, x6, x7, d0, d1, d2⟩ := id hS0
      go_upto_region 10 with fail
      clear x0 x1 x2 x3 x4 x5 x6 x7 d0 d1 d2 hS0
      go_region_held3 (fun w' => w'.cell? ⟨X, 0, none⟩ = some (.slice A1 m1 e1) ∧ w'.cell? ⟨X, 1, none⟩ = some (.slice A2 m2 e2) ∧ w'.cell? ⟨X, 2, none⟩ = some (.slice A3 m3 e3) ∧ w'.cell? ⟨X, 3, none⟩ = some (.int .i64 (r.first : Int)) ∧ w'.cell? ⟨X, 4, none⟩ = some (.int .i64 (r.many : Int)) ∧ w'.cell? ⟨X, 5, none⟩ = some (.int .u32 (r.epoch : Int)) ∧ w'.cell? ⟨X, 6, none⟩ = some (.int .u32 (r.low : Int)) ∧ w'.cell? ⟨X, 7, none⟩ = some (.int .u32 (r.next : Int)) ∧ w'.cell? (a.add (k * 3)) = some (.int .i64 l[k].kind) ∧ w'.cell? ⟨(a.add (k * 3)).block, (a.add (k * 3)).off + 1, none⟩ = some (.slice Ab l[k].rc.length capb) ∧ w'.cell? ⟨(a.add (k * 3)).block, (a.add (k * 3)).off + 2, none⟩ = some (.int .u8 (l[k].n : Int)))
        (first | with_reducible exact HSd.out | with_reducible exact HSz.out | with_reducible assumption | with_reducible exact HAl.out _ _ (by assumption))
        (first
          | (go_at_call 15
             (with_reducible refine (HO.out _ hbd1.out).mono ?_)
             rintro e w3 ⟨yv, F', R', rfl, hB', hF', hR', ht⟩
             obtain ⟨C1, n1, g1, C2, n2, g2, C3, n3, g3, rfl⟩ := hB'.ref.form
             have hA := HXf.out _ w3 hbd1.out ht)
          | (go_at_call 15
             (with_reducible refine (HO.out _ hbd2.out).mono ?_)
             rintro e w3 ⟨yv, F', R', rfl, hB', hF', hR', ht⟩
             obtain ⟨C1, n1, g1, C2, n2, g2, C3, n3, g3, rfl⟩ := hB'.ref.form
             have hA := HXf.out _ w3 hbd2.out ht
             have hY4 := HYk.out w3 ht
             have ya0 := hY4.cell 0 _ rfl
             have ya1 := hY4.cell 1 _ rfl
             have ya2 := hY4.cell 2 _ rfl
             have ya3 := hY4.cell 3 _ rfl
             have ya4 := hY4.cell 4 _ rfl
             have ya5 := hY4.cell 5 _ rfl
             have ya6 := hY4.cell 6 _ rfl
             have ya7 := hY4.cell 7 _ rfl
             have yf0 := hY4.fz 0 (by simp)
             have yf1 := hY4.fz 1 (by simp)
             have yf2 := hY4.fz 2 (by simp)
             have yf3 := hY4.fz 3 (by simp)
             have yf4 := hY4.fz 4 (by simp)
             have yf5 := hY4.fz 5 (by simp)
             have yf6 := hY4.fz 6 (by simp)
             have yf7 := hY4.fz 7 (by simp)
             have hA' := HA8.out w3 (.slice C1 n1 g1) (.slice C2 n2 g2) (.slice C3 n3 g3) (.int .i64 (y.first : Int)) (.int .i64 (y.many : Int)) (.int .u32 (y.epoch : Int)) (.int .u32 (y.low : Int)) (.int .u32 (y.next : Int)) hA))
      · have hba := (Below.refl w3.heap.size w3).alloc (Nat.le_refl _) (.cells #[.slice C1 n1 g1, .slice C2 n2 g2, .slice C3 n3 g3, .int .i64 (y.first : Int), .int .i64 (y.many : Int), .int .u32 (y.epoch : Int), .int .u32 (y.low : Int), .int .u32 (y.next : Int)] 39)
        have hXa := (HXk.out _ w3 hbd1.out ht).alloc (.cells #[.slice C1 n1 g1, .slice C2 n2 g2, .slice C3 n3 g3, .int .i64 (y.first : Int), .int .i64 (y.many : Int), .int .u32 (y.epoch : Int), .int .u32 (y.low : Int), .int .u32 (y.next : Int)] 39)
        have hB4 := hB'.below K hba
        have htd : Turn F wr w3 := Turn.behind hbd1.out ht
        have ht4 : Turn F wr (w3.alloc (.cells #[.slice C1 n1 g1, .slice C2 n2 g2, .slice C3 n3 g3, .int .i64 (y.first : Int), .int .i64 (y.many : Int), .int .u32 (y.epoch : Int), .int .u32 (y.low : Int), .int .u32 (y.next : Int)] 39)) := htd.on hba
        have nF4 : ¬ F' X := fun g => (hF' X g).elim nF (fun g => by have := hbd1.out.size; have := g.1; omega)
        have nR4 : ¬ R' X := fun g => (hR' X g).elim nR (fun g => by have := hbd1.out.size; have := g.1; omega)
        have hF4 : ∀ b, F' b → w.heap.size ≤ b := fun b g => (hF' b g).elim (hF b) (fun g => by have := hbd1.out.size; have := g.1; omega)
        have hbw4 : Below w.heap.size w (w3.alloc (.cells #[.slice C1 n1 g1, .slice C2 n2 g2, .slice C3 n3 g3, .int .i64 (y.first : Int), .int .i64 (y.many : Int), .int .u32 (y.epoch : Int), .int .u32 (y.low : Int), .int .u32 (y.next : Int)] 39)) := hbl.trans (ht4.below hbl.size hF)
        have HL4 : Hid (Lp6 H w X (.pointer (some pa)) (.pointer (some da)) F' R' y (((((((((w3.alloc (.cells #[.slice C1 n1 g1, .slice C2 n2 g2, .slice C3 n3 g3, .int .i64 (y.first : Int), .int .i64 (y.many : Int), .int .u32 (y.epoch : Int), .int .u32 (y.low : Int), .int .u32 (y.next : Int)] 39)).setCell ⟨X, 0, none⟩ (.slice C1 n1 g1)).setCell ⟨X, 1, none⟩ (.slice C2 n2 g2)).setCell ⟨X, 2, none⟩ (.slice C3 n3 g3)).setCell ⟨X, 3, none⟩ (.int .i64 (y.first : Int))).setCell ⟨X, 4, none⟩ (.int .i64 (y.many : Int))).setCell ⟨X, 5, none⟩ (.int .u32 (y.epoch : Int))).setCell ⟨X, 6, none⟩ (.int .u32 (y.low : Int))).setCell ⟨X, 7, none⟩ (.int .u32 (y.next : Int)))) := Lib.hid (Lp6.put K hXw hbw4 hXa nF4 nR4 hF4 hB4)
        have HT4 : Hid (Turn (fun b => F b ∨ b = X) wr (((((((((w3.alloc (.cells #[.slice C1 n1 g1, .slice C2 n2 g2, .slice C3 n3 g3, .int .i64 (y.first : Int), .int .i64 (y.many : Int), .int .u32 (y.epoch : Int), .int .u32 (y.low : Int), .int .u32 (y.next : Int)] 39)).setCell ⟨X, 0, none⟩ (.slice C1 n1 g1)).setCell ⟨X, 1, none⟩ (.slice C2 n2 g2)).setCell ⟨X, 2, none⟩ (.slice C3 n3 g3)).setCell ⟨X, 3, none⟩ (.int .i64 (y.first : Int))).setCell ⟨X, 4, none⟩ (.int .i64 (y.many : Int))).setCell ⟨X, 5, none⟩ (.int .u32 (y.epoch : Int))).setCell ⟨X, 6, none⟩ (.int .u32 (y.low : Int))).setCell ⟨X, 7, none⟩ (.int .u32 (y.next : Int)))) := Lib.hid (Turn.more (Turn.more (Turn.refl _ wr) ht4 (fun b _ g => Or.inl g)) (set8_turn (w3.alloc (.cells #[.slice C1 n1 g1, .slice C2 n2 g2, .slice C3 n3 g3, .int .i64 (y.first : Int), .int .i64 (y.many : Int), .int .u32 (y.epoch : Int), .int .u32 (y.low : Int), .int .u32 (y.next : Int)] 39)) X (.slice C1 n1 g1) (.slice C2 n2 g2) (.slice C3 n3 g3) (.int .i64 (y.first : Int)) (.int .i64 (y.many : Int)) (.int .u32 (y.epoch : Int)) (.int .u32 (y.low : Int)) (.int .u32 (y.next : Int))) (fun b _ e => Or.inr e))
        have hFs : ∀ b, b < wr.heap.size → F' b → F b := fun b hb g => (hF' b g).elim id (fun g => by have := hbd1.out.size; have := g.1; omega)
        have hRs : ∀ b, b < wr.heap.size → R' b → R b := fun b hb g => (hR' b g).elim id (fun g => by have := hbd1.out.size; have := g.1; omega)
        have xa0 := hXa.cell 0 _ rfl
        have xa1 := hXa.cell 1 _ rfl
        have xa2 := hXa.cell 2 _ rfl
        have xa3 := hXa.cell 3 _ rfl
        have xa4 := hXa.cell 4 _ rfl
        have xa5 := hXa.cell 5 _ rfl
        have xa6 := hXa.cell 6 _ rfl
        have xa7 := hXa.cell 7 _ rfl
        have xf0 := hXa.fz 0 (by simp)
        have xf1 := hXa.fz 1 (by simp)
        have xf2 := hXa.fz 2 (by simp)
        have xf3 := hXa.fz 3 (by simp)
        have xf4 := hXa.fz 4 (by simp)
        have xf5 := hXa.fz 5 (by simp)
        have xf6 := hXa.fz 6 (by simp)
        have xf7 := hXa.fz 7 (by simp)
        clear hXa hB4 ht4 htd hB' ht HO HXk HXf HDk HYk HA8 HXF HAl HSd HSz hba hA
        go_upto_region 12 with fail
        clear xa0 xf0 xa1 xf1 xa2 xf2 xa3 xf3 xa4 xf4 xa5 xf5 xa6 xf6 xa7 xf7
        generalize (((((((((w3.alloc (.cells #[.slice C1 n1 g1, .slice C2 n2 g2, .slice C3 n3 g3, .int .i64 (y.first : Int), .int .i64 (y.many : Int), .int .u32 (y.epoch : Int), .int .u32 (y.low : Int), .int .u32 (y.next : Int)] 39)).setCell ⟨X, 0, none⟩ (.slice C1 n1 g1)).setCell ⟨X, 1, none⟩ (.slice C2 n2 g2)).setCell ⟨X, 2, none⟩ (.slice C3 n3 g3)).setCell ⟨X, 3, none⟩ (.int .i64 (y.first : Int))).setCell ⟨X, 4, none⟩ (.int .i64 (y.many : Int))).setCell ⟨X, 5, none⟩ (.int .u32 (y.epoch : Int))).setCell ⟨X, 6, none⟩ (.int .u32 (y.low : Int))).setCell ⟨X, 7, none⟩ (.int .u32 (y.next : Int))) = w4 at *
        have HRL := Lib.hid (RunL.did h1s h2s hss hes HL4.out hFs hRs HT4.out)
        obtain ⟨⟨z1, z2, z3, hB5, hX5⟩, _, _, hF5, hbl5, _⟩ := HL4.out
        have c7 : w4.cell? ⟨X, 7, none⟩ = some (.int .u32 (y.next : Int)) := hX5.cell 7 _ rfl
        obtain ⟨a', cap', vb, ea, _, _, _, d0, d1, d2, hvb⟩ := (HD.out.below hbl5 hG).nth k hlt
        cases ea
        have hcv := conv_sg hvb
        obtain ⟨Av, capv, rfl, hcv'⟩ := Sg_form hvb
        have hynx := hB5.real.num.n
        have hrnx := hB.real.num.n
        have hsz5 := hbl5.size
        clear hvb hB5 hX5 HL4 HT4 hB
        by_cases hk1 : l[k].kind = 1
        · have q1 : (l[k].kind == 1) = true := by simp [hk1]
          by_cases he1 : r.err l[k].rc = 0
          · have hnx : y.next = r.next + Go.Proofs.Ytfpojbnidoeohaa.R.many l[k].rc.length := by rw [HY.out, G.Rg.step, if_pos hk1, append_ok he1]; rfl
            have hmp := Go.Proofs.Ytfpojbnidoeohaa.R.many_pos l[k].rc.length
            have q2 : ((y.next : Int) != (r.next : Int)) = true := by simp; omega
            have HH : Hid (hs6 rk0 (l.take (k + 1)) = hs6 rk0 (l.take k) ++ [(r.next, l[k].rc)]) := Lib.hid (by rw [hs6_take _ _ _ hlt, ← HRK.out, if_pos ⟨hk1, he1⟩])
            have HNX := Lib.hid hnx
            clear hk1 he1 hnx
            have hrl := HRN.out
            have hel := HEN.out
            go_wp2_with (at_builtin; refine S.wpList_append_sg elS rfl _ _ rfl (base := w.heap.size) (xs := strV rs) (cs := strV [l[k].rc]) rfl rfl (HRL.out.sr.alloc _) (S.Sg.one w4 9 (.string ⟨l[k].rc.toArray⟩)) (strV_one _) (by omega) (by omega) (by simp; omega) ?_)
            intro s5 w5 hown5 hgrow5 hob5
            have HR5 := Lib.hid (RunL.pushS K (HRL.out.below K ((Below.refl _ _).alloc (Nat.le_refl _) (.cells #[.string ⟨l[k].rc.toArray⟩] 9))) hgrow5 hown5 (hob5.imp id (fun g => g.trans (by simp))))
            clear hown5 hgrow5 hob5 c7 d0 d1 d2 hcv
            obtain ⟨F6, R6, hL6, _⟩ := HR5.out.ex
            obtain ⟨⟨z1, z2, z3, _, hX6⟩, _, _, _, hbl6, _⟩ := hL6
            have c7 : w5.cell? ⟨X, 7, none⟩ = some (.int .u32 (y.next : Int)) := hX6.cell 7 _ rfl
            have hsz6 := hbl6.size
            obtain ⟨As', caps', rfl, _⟩ := Sg_form (S.Sg.of_own HR5.out.sr)
            clear hX6
            go_wp2_with (at_builtin; refine S.wpList_append_sg elU rfl _ _ rfl (base := w.heap.size) (xs := uV es) (cs := uV [y.next]) rfl rfl (HR5.out.er.alloc _) (S.Sg.one w5 22 (.int .u32 (y.next : Int))) (uV_one _) (by omega) (by omega) (by simp; omega) ?_)
            intro e6 w6 hown6 hgrow6 hob6
            have HR6 := Lib.hid (RunL.pushE K (t := y.next) (HR5.out.below K ((Below.refl _ _).alloc (Nat.le_refl _) (.cells #[.int .u32 (y.next : Int)] 22))) hgrow6 hown6 (hob6.imp id (fun g => g.trans (by simp))))
            clear hown6 hgrow6 hob6 c7
            go_wp2_with fail
            go_roundw
            case rel => exact ⟨k + 1, rs ++ [l[k].rc], es ++ [y.next], by omega, by go_num, by rw [HH.out, recs, List.map_append, ← recs, ← HRE.out]; rfl, by rw [HH.out, ends, List.map_append, ← ends, ← HEE.out, HNX.out]; rfl, by rw [HSt.out]; have h := HR6.out; rw [show (rs ++ [l[k].rc]).length = rs.length + 1 by simp] at h; exact h⟩
            case measure => simp [intOf]; omega
          · have hnx : y.next = r.next := by rw [HY.out, G.Rg.step, if_pos hk1, append_no he1]
            have q2 : ((y.next : Int) != (r.next : Int)) = false := by simp; omega
            have HH : Hid (hs6 rk0 (l.take (k + 1)) = hs6 rk0 (l.take k)) := Lib.hid (by rw [hs6_take _ _ _ hlt, ← HRK.out, if_neg (fun g => he1 g.2)])
            clear hk1 he1 hnx
            go_wp2_with fail
            go_roundw
            case rel => exact ⟨k + 1, rs, es, by omega, by go_num, by rw [HH.out]; exact HRE.out, by rw [HH.out]; exact HEE.out, by rw [HSt.out]; exact HRL.out⟩
            case measure => simp [intOf]; omega
        · have q1 : (l[k].kind == 1) = false := by simpa using hk1
          have HH : Hid (hs6 rk0 (l.take (k + 1)) = hs6 rk0 (l.take k)) := Lib.hid (by rw [hs6_take _ _ _ hlt, ← HRK.out, if_neg (fun g => hk1 g.1)])
          clear hk1
          go_wp2_with fail
          go_roundw
          case rel => exact ⟨k + 1, rs, es, by omega, by go_num, by rw [HH.out]; exact HRE.out, by rw [HH.out]; exact HEE.out, by rw [HSt.out]; exact HRL.out⟩
          case measure => simp [intOf]; omega
      · have hT9 : Turn (fun b => b = wr.heap.size) w3 ((((((((w3.setCell ⟨wr.heap.size, 0, none⟩ (.slice C1 n1 g1)).setCell ⟨wr.heap.size, 1, none⟩ (.slice C2 n2 g2)).setCell ⟨wr.heap.size, 2, none⟩ (.slice C3 n3 g3)).setCell ⟨wr.heap.size, 3, none⟩ (.int .i64 (y.first : Int))).setCell ⟨wr.heap.size, 4, none⟩ (.int .i64 (y.many : Int))).setCell ⟨wr.heap.size, 5, none⟩ (.int .u32 (y.epoch : Int))).setCell ⟨wr.heap.size, 6, none⟩ (.int .u32 (y.low : Int))).setCell ⟨wr.heap.size, 7, none⟩ (.int .u32 (y.next : Int))) := set8_turn w3 wr.heap.size (.slice C1 n1 g1) (.slice C2 n2 g2) (.slice C3 n3 g3) (.int .i64 (y.first : Int)) (.int .i64 (y.many : Int)) (.int .u32 (y.epoch : Int)) (.int .u32 (y.low : Int)) (.int .u32 (y.next : Int))
        have hXa : Bk ((((((((w3.setCell ⟨wr.heap.size, 0, none⟩ (.slice C1 n1 g1)).setCell ⟨wr.heap.size, 1, none⟩ (.slice C2 n2 g2)).setCell ⟨wr.heap.size, 2, none⟩ (.slice C3 n3 g3)).setCell ⟨wr.heap.size, 3, none⟩ (.int .i64 (y.first : Int))).setCell ⟨wr.heap.size, 4, none⟩ (.int .i64 (y.many : Int))).setCell ⟨wr.heap.size, 5, none⟩ (.int .u32 (y.epoch : Int))).setCell ⟨wr.heap.size, 6, none⟩ (.int .u32 (y.low : Int))).setCell ⟨wr.heap.size, 7, none⟩ (.int .u32 (y.next : Int))) X [.slice A1 m1 e1, .slice A2 m2 e2, .slice A3 m3 e3, .int .i64 (r.first : Int), .int .i64 (r.many : Int), .int .u32 (r.epoch : Int), .int .u32 (r.low : Int), .int .u32 (r.next : Int)] := (HXk.out _ w3 hbd2.out ht).turn hT9 (fun e => nXY e.symm)
        have hYa : Bk ((((((((w3.setCell ⟨wr.heap.size, 0, none⟩ (.slice C1 n1 g1)).setCell ⟨wr.heap.size, 1, none⟩ (.slice C2 n2 g2)).setCell ⟨wr.heap.size, 2, none⟩ (.slice C3 n3 g3)).setCell ⟨wr.heap.size, 3, none⟩ (.int .i64 (y.first : Int))).setCell ⟨wr.heap.size, 4, none⟩ (.int .i64 (y.many : Int))).setCell ⟨wr.heap.size, 5, none⟩ (.int .u32 (y.epoch : Int))).setCell ⟨wr.heap.size, 6, none⟩ (.int .u32 (y.low : Int))).setCell ⟨wr.heap.size, 7, none⟩ (.int .u32 (y.next : Int))) wr.heap.size [.slice C1 n1 g1, .slice C2 n2 g2, .slice C3 n3 g3, .int .i64 (y.first : Int), .int .i64 (y.many : Int), .int .u32 (y.epoch : Int), .int .u32 (y.low : Int), .int .u32 (y.next : Int)] := hY4.all8 (.slice C1 n1 g1) (.slice C2 n2 g2) (.slice C3 n3 g3) (.int .i64 (y.first : Int)) (.int .i64 (y.many : Int)) (.int .u32 (y.epoch : Int)) (.int .u32 (y.low : Int)) (.int .u32 (y.next : Int))
        have hs9 : wr.heap.size < (wr.alloc (.cells #[nilV, nilV, nilV, .int .i64 0, .int .i64 0, .int .u32 0, .int .u32 0, .int .u32 0] 39)).drew.heap.size := by simp [World.drew]
        have hB4 := hB'.turn K hT9 (fun b g e => (hF' b g).elim (fun g => nFY (e ▸ g)) (fun g => by have := g.1; omega)) (fun b g e => (hR' b g).elim (fun g => nRY (e ▸ g)) (fun g => by have := g.1; omega))
        have htd : Turn F wr w3 := Turn.behind hbd2.out ht
        clear hA' ya0 yf0 ya1 yf1 ya2 yf2 ya3 yf3 ya4 yf4 ya5 yf5 ya6 yf6 ya7 yf7 hY4 hA
        generalize ((((((((w3.setCell ⟨wr.heap.size, 0, none⟩ (.slice C1 n1 g1)).setCell ⟨wr.heap.size, 1, none⟩ (.slice C2 n2 g2)).setCell ⟨wr.heap.size, 2, none⟩ (.slice C3 n3 g3)).setCell ⟨wr.heap.size, 3, none⟩ (.int .i64 (y.first : Int))).setCell ⟨wr.heap.size, 4, none⟩ (.int .i64 (y.many : Int))).setCell ⟨wr.heap.size, 5, none⟩ (.int .u32 (y.epoch : Int))).setCell ⟨wr.heap.size, 6, none⟩ (.int .u32 (y.low : Int))).setCell ⟨wr.heap.size, 7, none⟩ (.int .u32 (y.next : Int))) = w9 at *
        have ht4 : Turn F wr w9 := htd.more hT9 (fun b hb e => by omega)
        have yb0 := hYa.cell 0 _ rfl
        have yb1 := hYa.cell 1 _ rfl
        have yb2 := hYa.cell 2 _ rfl
        have yb3 := hYa.cell 3 _ rfl
        have yb4 := hYa.cell 4 _ rfl
        have yb5 := hYa.cell 5 _ rfl
        have yb6 := hYa.cell 6 _ rfl
        have yb7 := hYa.cell 7 _ rfl
        have nF4 : ¬ F' X := fun g => (hF' X g).elim nF (fun g => by have := hbd2.out.size; have := g.1; omega)
        have nR4 : ¬ R' X := fun g => (hR' X g).elim nR (fun g => by have := hbd2.out.size; have := g.1; omega)
        have hF4 : ∀ b, F' b → w.heap.size ≤ b := fun b g => (hF' b g).elim (hF b) (fun g => by have := hbd2.out.size; have := g.1; omega)
        have hbw4 : Below w.heap.size w w9 := hbl.trans (ht4.below hbl.size hF)
        have HL4 : Hid (Lp6 H w X (.pointer (some pa)) (.pointer (some da)) F' R' y ((((((((w9.setCell ⟨X, 0, none⟩ (.slice C1 n1 g1)).setCell ⟨X, 1, none⟩ (.slice C2 n2 g2)).setCell ⟨X, 2, none⟩ (.slice C3 n3 g3)).setCell ⟨X, 3, none⟩ (.int .i64 (y.first : Int))).setCell ⟨X, 4, none⟩ (.int .i64 (y.many : Int))).setCell ⟨X, 5, none⟩ (.int .u32 (y.epoch : Int))).setCell ⟨X, 6, none⟩ (.int .u32 (y.low : Int))).setCell ⟨X, 7, none⟩ (.int .u32 (y.next : Int)))) := Lib.hid (Lp6.put K hXw hbw4 hXa nF4 nR4 hF4 hB4)
        have HT4 : Hid (Turn (fun b => F b ∨ b = X) wr ((((((((w9.setCell ⟨X, 0, none⟩ (.slice C1 n1 g1)).setCell ⟨X, 1, none⟩ (.slice C2 n2 g2)).setCell ⟨X, 2, none⟩ (.slice C3 n3 g3)).setCell ⟨X, 3, none⟩ (.int .i64 (y.first : Int))).setCell ⟨X, 4, none⟩ (.int .i64 (y.many : Int))).setCell ⟨X, 5, none⟩ (.int .u32 (y.epoch : Int))).setCell ⟨X, 6, none⟩ (.int .u32 (y.low : Int))).setCell ⟨X, 7, none⟩ (.int .u32 (y.next : Int)))) := Lib.hid (Turn.more (Turn.more (Turn.refl _ wr) ht4 (fun b _ g => Or.inl g)) (set8_turn w9 X (.slice C1 n1 g1) (.slice C2 n2 g2) (.slice C3 n3 g3) (.int .i64 (y.first : Int)) (.int .i64 (y.many : Int)) (.int .u32 (y.epoch : Int)) (.int .u32 (y.low : Int)) (.int .u32 (y.next : Int))) (fun b _ e => Or.inr e))
        have hFs : ∀ b, b < wr.heap.size → F' b → F b := fun b hb g => (hF' b g).elim id (fun g => by have := hbd2.out.size; have := g.1; omega)
        have hRs : ∀ b, b < wr.heap.size → R' b → R b := fun b hb g => (hR' b g).elim id (fun g => by have := hbd2.out.size; have := g.1; omega)
        have xa0 := hXa.cell 0 _ rfl
        have xa1 := hXa.cell 1 _ rfl
        have xa2 := hXa.cell 2 _ rfl
        have xa3 := hXa.cell 3 _ rfl
        have xa4 := hXa.cell 4 _ rfl
        have xa5 := hXa.cell 5 _ rfl
        have xa6 := hXa.cell 6 _ rfl
        have xa7 := hXa.cell 7 _ rfl
        have xf0 := hXa.fz 0 (by simp)
        have xf1 := hXa.fz 1 (by simp)
        have xf2 := hXa.fz 2 (by simp)
        have xf3 := hXa.fz 3 (by simp)
        have xf4 := hXa.fz 4 (by simp)
        have xf5 := hXa.fz 5 (by simp)
        have xf6 := hXa.fz 6 (by simp)
        have xf7 := hXa.fz 7 (by simp)
        clear hXa hB4 ht4 htd hB' ht HO HXk HXf HDk HYk HA8 HXF HAl HSd HSz hT9 hs9 hYa
        go_upto_region 12 with fail
        clear xa0 xf0 xa1 xf1 xa2 xf2 xa3 xf3 xa4 xf4 xa5 xf5 xa6 xf6 xa7 xf7
        generalize ((((((((w9.setCell ⟨X, 0, none⟩ (.slice C1 n1 g1)).setCell ⟨X, 1, none⟩ (.slice C2 n2 g2)).setCell ⟨X, 2, none⟩ (.slice C3 n3 g3)).setCell ⟨X, 3, none⟩ (.int .i64 (y.first : Int))).setCell ⟨X, 4, none⟩ (.int .i64 (y.many : Int))).setCell ⟨X, 5, none⟩ (.int .u32 (y.epoch : Int))).setCell ⟨X, 6, none⟩ (.int .u32 (y.low : Int))).setCell ⟨X, 7, none⟩ (.int .u32 (y.next : Int))) = w4 at *
        have HRL := Lib.hid (RunL.did h1s h2s hss hes HL4.out hFs hRs HT4.out)
        obtain ⟨⟨z1, z2, z3, hB5, hX5⟩, _, _, hF5, hbl5, _⟩ := HL4.out
        have c7 : w4.cell? ⟨X, 7, none⟩ = some (.int .u32 (y.next : Int)) := hX5.cell 7 _ rfl
        obtain ⟨a', cap', vb, ea, _, _, _, d0, d1, d2, hvb⟩ := (HD.out.below hbl5 hG).nth k hlt
        cases ea
        have hcv := conv_sg hvb
        obtain ⟨Av, capv, rfl, hcv'⟩ := Sg_form hvb
        have hynx := hB5.real.num.n
        have hrnx := hB.real.num.n
        have hsz5 := hbl5.size
        clear hvb hB5 hX5 HL4 HT4 hB
        by_cases hk1 : l[k].kind = 1
        · have q1 : (l[k].kind == 1) = true := by simp [hk1]
          by_cases he1 : r.err l[k].rc = 0
          · have hnx : y.next = r.next + Go.Proofs.Ytfpojbnidoeohaa.R.many l[k].rc.length := by rw [HY.out, G.Rg.step, if_pos hk1, append_ok he1]; rfl
            have hmp := Go.Proofs.Ytfpojbnidoeohaa.R.many_pos l[k].rc.length
            have q2 : ((y.next : Int) != (r.next : Int)) = true := by simp; omega
            have HH : Hid (hs6 rk0 (l.take (k + 1)) = hs6 rk0 (l.take k) ++ [(r.next, l[k].rc)]) := Lib.hid (by rw [hs6_take _ _ _ hlt, ← HRK.out, if_pos ⟨hk1, he1⟩])
            have HNX := Lib.hid hnx
            clear hk1 he1 hnx
            have hrl := HRN.out
            have hel := HEN.out
            go_wp2_with (at_builtin; refine S.wpList_append_sg elS rfl _ _ rfl (base := w.heap.size) (xs := strV rs) (cs := strV [l[k].rc]) rfl rfl (HRL.out.sr.alloc _) (S.Sg.one w4 9 (.string ⟨l[k].rc.toArray⟩)) (strV_one _) (by omega) (by omega) (by simp; omega) ?_)
            intro s5 w5 hown5 hgrow5 hob5
            have HR5 := Lib.hid (RunL.pushS K (HRL.out.below K ((Below.refl _ _).alloc (Nat.le_refl _) (.cells #[.string ⟨l[k].rc.toArray⟩] 9))) hgrow5 hown5 (hob5.imp id (fun g => g.trans (by simp))))
            clear hown5 hgrow5 hob5 c7 d0 d1 d2 hcv
            obtain ⟨F6, R6, hL6, _⟩ := HR5.out.ex
            obtain ⟨⟨z1, z2, z3, _, hX6⟩, _, _, _, hbl6, _⟩ := hL6
            have c7 : w5.cell? ⟨X, 7, none⟩ = some (.int .u32 (y.next : Int)) := hX6.cell 7 _ rfl
            have hsz6 := hbl6.size
            obtain ⟨As', caps', rfl, _⟩ := Sg_form (S.Sg.of_own HR5.out.sr)
            clear hX6
            go_wp2_with (at_builtin; refine S.wpList_append_sg elU rfl _ _ rfl (base := w.heap.size) (xs := uV es) (cs := uV [y.next]) rfl rfl (HR5.out.er.alloc _) (S.Sg.one w5 22 (.int .u32 (y.next : Int))) (uV_one _) (by omega) (by omega) (by simp; omega) ?_)
            intro e6 w6 hown6 hgrow6 hob6
            have HR6 := Lib.hid (RunL.pushE K (t := y.next) (HR5.out.below K ((Below.refl _ _).alloc (Nat.le_refl _) (.cells #[.int .u32 (y.next : Int)] 22))) hgrow6 hown6 (hob6.imp id (fun g => g.trans (by simp))))
            clear hown6 hgrow6 hob6 c7
            go_wp2_with fail
            go_roundw
            case rel => exact ⟨k + 1, rs ++ [l[k].rc], es ++ [y.next], by omega, by go_num, by rw [HH.out, recs, List.map_append, ← recs, ← HRE.out]; rfl, by rw [HH.out, ends, List.map_append, ← ends, ← HEE.out, HNX.out]; rfl, by rw [HSt.out]; have h := HR6.out; rw [show (rs ++ [l[k].rc]).length = rs.length + 1 by simp] at h; exact h⟩
            case measure => simp [intOf]; omega
          · have hnx : y.next = r.next := by rw [HY.out, G.Rg.step, if_pos hk1, append_no he1]
            have q2 : ((y.next : Int) != (r.next : Int)) = false := by simp; omega
            have HH : Hid (hs6 rk0 (l.take (k + 1)) = hs6 rk0 (l.take k)) := Lib.hid (by rw [hs6_take _ _ _ hlt, ← HRK.out, if_neg (fun g => he1 g.2)])
            clear hk1 he1 hnx
            go_wp2_with fail
            go_roundw
            case rel => exact ⟨k + 1, rs, es, by omega, by go_num, by rw [HH.out]; exact HRE.out, by rw [HH.out]; exact HEE.out, by rw [HSt.out]; exact HRL.out⟩
            case measure => simp [intOf]; omega
        · have q1 : (l[k].kind == 1) = false := by simpa using hk1
          have HH : Hid (hs6 rk0 (l.take (k + 1)) = hs6 rk0 (l.take k)) := Lib.hid (by rw [hs6_take _ _ _ hlt, ← HRK.out, if_neg (fun g => hk1 g.1)])
          clear hk1
          go_wp2_with fail
          go_roundw
          case rel => exact ⟨k + 1, rs, es, by omega, by go_num, by rw [HH.out]; exact HRE.out, by rw [HH.out]; exact HEE.out, by rw [HSt.out]; exact HRL.out⟩
          case measure => simp [intOf]; omega
    · obtain rfl : k = l.length := by omega
      rw [List.take_length] at HRE HEE hL
      obtain ⟨⟨x1, x2, x3, hB, hX8⟩, nF, nR, hF, hbl, hXw⟩ := hL
      have hP := hB.real
      clear hX8
      go_wp2_with fail
      refine bodyPost_ret (results_4 rfl _ _) rfl ?_
      refine ⟨da, pa, _, _, F, fun b => (Value.slice As rs.length caps).ownBlock = some b ∨ (Value.slice Ae es.length cape).ownBlock = some b, rfl, hP, hF, ?_, ?_, ?_, hbl⟩
      · rw [← HRE.out]; exact sg_own hss (fun b g => Or.inl g)
      · rw [← HEE.out]; exact sg_own hes (fun b g => Or.inr g)
      · rintro b (g | g)
        · exact ⟨(World.ownsRow.lt hss b g).2, (h1s b g).1⟩
        · exact ⟨(World.ownsRow.lt hes b g).2, (h2s b g).1⟩
end

end Go.Proofs.Ytfpojbnidoeohaa
