/-
  Walks of layer slot's laws: SlotPlays.
-/
import Derived.Test.YtbjbnjpdackloaaSoDo
namespace Go.Proofs.Ytbjbnjpdackloaa
open Go.RowKit

section
variable {H : World → (Nat → Prop) → Value → D.Dk → Prop}

theorem dstep_is {d : D.Dk} (h : d.secs.length = 12) (first size : Int) (X : Dd) : (dstep d first size X).secs.length = 12 ∧ (dstep d first size X).row.length ≤ d.row.length + 6 := by
  unfold dstep
  split
  · unfold savD
    split
    · rename_i hc
      obtain ⟨f, s, rfl, rfl, hM, _⟩ := may_of (by omega) hc.1.1
      have h1 := hM.fits
      have h2 := hc.2
      simp only [Int.toNat_natCast] at h2 ⊢
      exact ⟨(Z.save_len ..).trans h, by rw [Z.save_row hM]; omega⟩
    · exact ⟨h, by omega⟩
  · split
    · exact ⟨(D.sync_len _).trans h, by show ([] : List (Nat × D.Sec)).length ≤ _; simp⟩
    · split
      · exact ⟨(D.crash_len _ _).trans h, by show ([] : List (Nat × D.Sec)).length ≤ _; simp⟩
      · have := write_row_le d X.at_ X.b
        exact ⟨by rw [this.2]; exact h, by have := this.1; omega⟩

/-- both disks behind k deeds: x in the block X, the area in the block p -/
structure PL (H : World → (Nat → Prop) → Value → D.Dk → Prop) (w wr : World) (da : Addr) (X p : Nat) (first size : Int) (d : D.Dk) (k : Nat) (F R : Nat → Prop) (x1 x2 x3 : Value) : Prop where
  hd : H wr F (.pointer (some da)) d
  rd : Rd wr R (.agg #[x1, x2, x3]) d
  off : ∀ b, R b → b < wr.heap.size ∧ ¬ F b
  xb : Bk wr X [x1, x2, x3]
  ab : Bk wr p [.int .i64 first, .int .i64 size]
  ne : p ≠ X ∧ w.heap.size ≤ X ∧ w.heap.size ≤ p
  nF : ¬ F X ∧ ¬ F p
  nR : ¬ R X
  low : Below w.heap.size w wr
  f : ∀ b, F b → w.heap.size ≤ b
  len : d.secs.length = 12
  row : d.row.length ≤ 6 * k

theorem PL.below (K : DiskOk H) {w wr w2 : World} {da : Addr} {X p : Nat} {first size : Int} {d : D.Dk} {k : Nat} {F R : Nat → Prop} {x1 x2 x3 : Value} (h : PL H w wr da X p first size d k F R x1 x2 x3) (hb : Below wr.heap.size wr w2) : PL H w w2 da X p first size d k F R x1 x2 x3 :=
  ⟨K.below h.hd hb, h.rd.below hb (fun b g => (h.off b g).1), fun b g => ⟨Nat.lt_of_lt_of_le (h.off b g).1 hb.size, (h.off b g).2⟩, h.xb.step hb, h.ab.step hb, h.ne, h.nF, h.nR, below_two h.low hb, h.f, h.len, h.row⟩

/-- a deed more: Y the block that its answer lies in -/
theorem PL.next (K : DiskOk H) {w wr wd w3 w4 : World} {da : Addr} {X p Y : Nat} {first size : Int} {d d' : D.Dk} {k : Nat} {F R F' R' : Nat → Prop} {x1 x2 x3 y1 y2 y3 : Value} (h : PL H w wr da X p first size d k F R x1 x2 x3) (hbd : Below wr.heap.size wr wd) (hH : H w3 F' (.pointer (some da)) d') (hR : Rd w3 R' (.agg #[y1, y2, y3]) d') (hF' : ∀ b, F' b → F b ∨ S.New wd w3 b) (hR' : ∀ b, R' b → R b ∨ S.New wd w3 b) (hoff : ∀ b, R' b → b < w3.heap.size ∧ ¬ F' b) (ht : Turn F wd w3)
    (hT : Turn (fun b => b = X ∨ b = Y) w3 w4) (hY : Y = X ∨ Y = wr.heap.size ∧ Y < wd.heap.size) (hX4 : Bk w4 X [y1, y2, y3]) (hlen : d'.secs.length = 12) (hrow : d'.row.length ≤ d.row.length + 6) : PL H w w4 da X p first size d' (k + 1) F' R' y1 y2 y3 := by
  have hs := hbd.size
  have hxl := h.xb.lt
  have hpl := h.ab.lt
  have hne := h.ne
  have hlt := K.lt h.hd
  have hsz := h.low.size
  have hst := ht.size
  have nF'X : ¬ F' X := fun g => (hF' X g).elim h.nF.1 (fun g => by have := g.1; omega)
  have nF'Y : ¬ F' Y := by
    rcases hY with rfl | ⟨rfl, hy⟩
    · exact nF'X
    · exact fun g => (hF' _ g).elim (fun g => by have := hlt _ g; omega) (fun g => by have := g.1; omega)
  have nR'X : ¬ R' X := fun g => (hR' X g).elim h.nR (fun g => by have := g.1; omega)
  have nR'Y : ¬ R' Y := by
    rcases hY with rfl | ⟨rfl, hy⟩
    · exact nR'X
    · exact fun g => (hR' _ g).elim (fun g => by have := (h.off _ g).1; omega) (fun g => by have := g.1; omega)
  have hpY : p ≠ Y := by rcases hY with rfl | ⟨rfl, _⟩; exact hne.1; omega
  have hYw : w.heap.size ≤ Y := by rcases hY with rfl | ⟨rfl, _⟩; exact hne.2.1; exact hsz
  refine ⟨K.turn hH hT (fun b g e => by rcases e with rfl | rfl; exact nF'X g; exact nF'Y g), hR.turn hT (fun b g => (hoff b g).1) (fun b g e => by rcases e with rfl | rfl; exact nR'X g; exact nR'Y g), fun b g => ⟨Nat.lt_of_lt_of_le (hoff b g).1 hT.size, (hoff b g).2⟩, hX4,
    ((h.ab.step hbd).turn ht h.nF.2).turn hT (fun e => by rcases e with e | e; exact hne.1 e; exact hpY e), hne, ⟨nF'X, fun g => (hF' p g).elim h.nF.2 (fun g => by have := g.1; omega)⟩, nR'X, ?_, fun b g => (hF' b g).elim (h.f b) (fun g => by have := g.1; omega), hlen, by have := h.row; omega⟩
  exact ((below_two h.low hbd).trans (ht.below (by omega) h.f)).trans (hT.below (by omega) (fun b e => by rcases e with rfl | rfl; exact hne.2.1; exact hYw))

set_option maxRecDepth 100000 in
set_option maxHeartbeats 16000000 in
theorem SlotPlays_walk (K : DiskOk H) (KF : FrameOk) (w : World) (first size : Int) (hf0 : -9223372036854775808 ≤ first) (hf1 : first ≤ 9223372036854775807) (hm0 : -9223372036854775808 ≤ size) (hm1 : size ≤ 9223372036854775807) (v : Value) (l : List Dd) (Gd : Nat → Prop) (hd : Dds w Gd v l) (hG : ∀ b, Gd b → b < w.heap.size) (hln : l.length ≤ 9223372036854775807) :
    Calls Try.prog 3 #[.agg #[.int .i64 first, .int .i64 size], v] w fun e w' => e = .returned (.bool true) ∧ Below w.heap.size w w' := by
  have HD := Lib.hid hd
  obtain ⟨Ad, capd, rfl, hcd⟩ : ∃ A cap, v = .slice A l.length cap ∧ l.length ≤ cap := by
    obtain ⟨A, cap, e, hc, _⟩ := hd
    exact ⟨A, cap, e, hc⟩
  clear hd
  have HA := Lib.hid (awake8_any K KF (w.alloc (.cells #[.int .i64 first, .int .i64 size] 23)))
  go_enter Try.func3, Try.ntmps3
  have P0 := Bk.new w [.int .i64 first, .int .i64 size] 23 rfl
  have hb0 : Below w.heap.size w (w.alloc (.cells #[.int .i64 first, .int .i64 size] 23)) := (Below.refl _ _).alloc (Nat.le_refl _) _
  go_wp2_with fail
  refine HA.out.mono ?_
  rintro e w1 ⟨rfl, hb1⟩
  have P1 := P0.step hb1
  have hb1 : Below w.heap.size w w1 := below_two hb0 hb1
  clear P0 hb0
  have HN := Lib.hid (K.new 12 w1 (by decide) (by decide))
  clear HA
  go_wp2_with fail
  refine HN.out.mono ?_
  rintro e w2 ⟨vd, rfl, hH2, hb2⟩
  obtain ⟨da, rfl⟩ := K.ptr hH2
  have HH2 : Hid (H w2 (S.New w1 w2) (.pointer (some da)) newD8) := Lib.hid hH2
  have hs1 := hb1.size
  have hbw2 := below_two hb1 hb2
  have hF2 : ∀ b, S.New w1 w2 b → w.heap.size ≤ b := fun b g => Nat.le_trans hs1 g.1
  have HP2 := Lib.hid (P1.step hb2)
  have hpl : w.heap.size < w1.heap.size := P1.lt
  have nF2p : ¬ S.New w1 w2 w.heap.size := fun g => by have := g.1; omega
  have hF2l : ∀ b, S.New w1 w2 b → b < w2.heap.size := fun b g => g.2
  generalize S.New w1 w2 = F2 at *
  clear HN hH2 hb1 hb2 P1
  have HFw := Lib.hid (few8_any _ l w2 Gd (HD.out.below hbw2 hG) hln)
  obtain ⟨fb, hfb⟩ : ∃ b, b = few8 l := ⟨_, rfl⟩
  rw [← hfb] at HFw
  have HFB := Lib.hid hfb
  clear hfb
  go_wp2_with fail
  refine HFw.out.mono ?_
  rintro e w2' ⟨rfl, rfl⟩
  clear HFw
  cases fb with
  | false =>
    go_wp2
    go_ret
    exact ⟨rfl, hbw2⟩
  | true =>
    have hfew := few8_of HFB.out.symm
    have hl30 := hfew.1
    have HBl := Lib.hid hfew.2
    have HN := Lib.hid (rnew_any 12 w2 (by decide))
    clear hfew HFB
    go_wp2_with fail
    refine HN.out.mono ?_
    rintro e w3 ⟨v3, rfl, hR3, hb3⟩
    obtain ⟨A1, e1, A2, e2, A3, e3, rfl⟩ := hR3.form
    have hbw3 := below_two hbw2 hb3
    have hs3 := hb3.size
    have hba : Below w3.heap.size w3 (w3.alloc (.cells #[.slice A1 newD8.secs.length e1, .slice A2 newD8.row.length e2, .slice A3 newD8.row.length e3] 32)) := (Below.refl _ _).alloc (Nat.le_refl _) _
    have hza : (w3.alloc (.cells #[.slice A1 newD8.secs.length e1, .slice A2 newD8.row.length e2, .slice A3 newD8.row.length e3] 32)).heap.size = w3.heap.size + 1 := by simp
    have HS : Hid (PL H w (w3.alloc (.cells #[.slice A1 newD8.secs.length e1, .slice A2 newD8.row.length e2, .slice A3 newD8.row.length e3] 32)) da w3.heap.size w.heap.size first size newD8 0 F2 (S.New w2 w3) (.slice A1 newD8.secs.length e1) (.slice A2 newD8.row.length e2) (.slice A3 newD8.row.length e3)) := Lib.hid
      { hd := K.below (K.below HH2.out hb3) hba, rd := hR3.below hba (fun b g => g.2), off := (fun b g => ⟨by have := g.2; omega, fun f => by have := hF2l b f; have := g.1; omega⟩), xb := Bk.new w3 [.slice A1 newD8.secs.length e1, .slice A2 newD8.row.length e2, .slice A3 newD8.row.length e3] 32 rfl, ab := (HP2.out.step hb3).step hba, ne := ⟨by have := hbw2.size; have := HP2.out.lt; omega, hbw3.size, Nat.le_refl _⟩, nF := ⟨fun g => by have := hF2l _ g; omega, nF2p⟩, nR := (fun g => by have := g.2; omega), low := below_two hbw3 hba, f := hF2, len := new8_len, row := by show 0 ≤ _; omega }
    rw [show (List.replicate 12 (D.full [])).length = newD8.secs.length from rfl, show ([] : List (Nat × D.Sec)).length = newD8.row.length from rfl]
    generalize newD8.secs.length = q1 at *
    generalize newD8.row.length = q2 at *
    clear HN hR3 HP2 HH2 hb3 hba
    go_wp2_with fail
    generalize w3.alloc (.cells #[.slice A1 q1 e1, .slice A2 q2 e2, .slice A3 q2 e3] 32) = w4 at *
    generalize w3.heap.size = X at *
    obtain ⟨p, hp⟩ : ∃ p, p = w.heap.size := ⟨_, rfl⟩
    rw [← hp] at HS ⊢
    clear hza hp
    go_loopw [8] (fun i wr => ∃ (k : Nat) (d : D.Dk) (F R : Nat → Prop) (x1 x2 x3 : Value), k ≤ l.length ∧ i = .int .i64 (k : Int) ∧ PL H w wr da X p first size d k F R x1 x2 x3) (fun i _ => l.length - (intOf i).toNat)
    case atStart => exact ⟨0, _, _, _, _, _, _, by omega, rfl, HS.out⟩
    case round =>
      clear HS
      obtain ⟨k, d, F, R, x1, x2, x3, hk, rfl, hL⟩ := hrel
      have HL := Lib.hid hL
      have hlow := hL.low
      have hlsz := hlow.size
      obtain ⟨A1, e1, A2, e2, A3, e3, ee⟩ := hL.rd.form
      simp only [Value.agg.injEq] at ee
      have ee' := congrArg Array.toList ee
      simp only [List.cons.injEq, and_true] at ee'
      obtain ⟨rfl, rfl, rfl⟩ := ee'
      by_cases hlt : k < l.length
      · have hlt' : (k : Int) < (l.length : Int) := by omega
        have hk0 : (0 : Int) ≤ (k : Int) := by omega
        obtain ⟨a, capa, vb, vk, e5, _, hGa, hok, d0, d1, d2, d3, d4, hvb, hvk⟩ := (HD.out.below hlow hG).nth k hlt
        cases e5
        obtain ⟨Ab, capb, rfl, hcb⟩ := Sg_form hvb
        obtain ⟨Ak, capk, rfl, hck⟩ := Sg_form hvk
        have hbl3 := HBl.out _ (List.getElem_mem hlt)
        have hab : (a.add (k * 5)).block < w.heap.size := by rw [S.add_block]; exact hG _ hGa
        have HDS := Lib.hid (dstep_is hL.len first size l[k])
        obtain ⟨d', hd'⟩ : ∃ d', d' = dstep d first size l[k] := ⟨_, rfl⟩
        have HO : Hid (∀ wd, Below wr.heap.size wr wd → Calls Try.prog 13 #[.pointer (some da), .agg #[.slice A1 d.secs.length e1, .slice A2 d.row.length e2, .slice A3 d.row.length e3], .agg #[.int .i64 first, .int .i64 size], .agg #[.int .i64 l[k].kind, .int .u32 (l[k].gen : Int), .int .i64 l[k].at_, .slice Ab l[k].b.length capb, .slice Ak l[k].keep.length capk]] wd (Did H wd F R (.pointer (some da)) d')) := Lib.hid (fun wd hbd => by
          rw [hd']
          exact do_any K KF (K.below HL.out.hd hbd) (HL.out.rd.below hbd (fun b g => (HL.out.off b g).1)) (fun c g => ⟨Nat.lt_of_lt_of_le (HL.out.off c g).1 hbd.size, (HL.out.off c g).2⟩) (fun c g => ⟨by have := hG c g; have := hbd.size; omega, fun f => by have := HL.out.f c f; have := hG c g; omega⟩) first size hf0 hf1 hm0 hm1 l[k] hok (hvb.below (hbd.mono hlsz) hG) (hvk.below (hbd.mono hlsz) hG) HL.out.len (by have := HL.out.row; omega) hbl3)
        rw [← hd'] at HDS
        have HCl : Hid (∀ wd w3, Below wr.heap.size wr wd → Turn F wd w3 → (∀ b, b < wr.heap.size → ¬ F b → w3.heap[b]? = wr.heap[b]?)) := Lib.hid (fun wd w3 hbd ht b hb hn => (ht.block b (Nat.lt_of_lt_of_le hb hbd.size) hn).trans (hbd.block b hb))
        have HS1 : Hid (∀ w' : World, (∀ b, b < wr.heap.size → ¬ F b → w'.heap[b]? = wr.heap[b]?) → w'.cell? ⟨X, 0, none⟩ = some (.slice A1 d.secs.length e1) ∧ w'.cell? ⟨X, 1, none⟩ = some (.slice A2 d.row.length e2) ∧ w'.cell? ⟨X, 2, none⟩ = some (.slice A3 d.row.length e3) ∧ w'.cell? ⟨p, 0, none⟩ = some (.int .i64 first) ∧ w'.cell? ⟨p, 1, none⟩ = some (.int .i64 size) ∧ w'.cell? (a.add (k * 5)) = some (.int .i64 l[k].kind) ∧ w'.cell? ⟨(a.add (k * 5)).block, (a.add (k * 5)).off + 1, none⟩ = some (.int .u32 (l[k].gen : Int)) ∧ w'.cell? ⟨(a.add (k * 5)).block, (a.add (k * 5)).off + 2, none⟩ = some (.int .i64 l[k].at_) ∧ w'.cell? ⟨(a.add (k * 5)).block, (a.add (k * 5)).off + 3, none⟩ = some (.slice Ab l[k].b.length capb) ∧ w'.cell? ⟨(a.add (k * 5)).block, (a.add (k * 5)).off + 4, none⟩ = some (.slice Ak l[k].keep.length capk)) := Lib.hid (fun w' hk => by
          have cX := hk X HL.out.xb.lt HL.out.nF.1
          have cP := hk p HL.out.ab.lt HL.out.nF.2
          have cA := hk (a.add (k * 5)).block (by omega) (fun f => by have := HL.out.f _ f; omega)
          exact ⟨(World.cell?_of_block cX).trans (HL.out.xb.cell 0 _ rfl), (World.cell?_of_block cX).trans (HL.out.xb.cell 1 _ rfl), (World.cell?_of_block cX).trans (HL.out.xb.cell 2 _ rfl), (World.cell?_of_block cP).trans (HL.out.ab.cell 0 _ rfl), (World.cell?_of_block cP).trans (HL.out.ab.cell 1 _ rfl), (World.cell?_of_block cA).trans d0, (World.cell?_of_block (a := ⟨(a.add (k * 5)).block, (a.add (k * 5)).off + 1, none⟩) cA).trans d1, (World.cell?_of_block (a := ⟨(a.add (k * 5)).block, (a.add (k * 5)).off + 2, none⟩) cA).trans d2, (World.cell?_of_block (a := ⟨(a.add (k * 5)).block, (a.add (k * 5)).off + 3, none⟩) cA).trans d3, (World.cell?_of_block (a := ⟨(a.add (k * 5)).block, (a.add (k * 5)).off + 4, none⟩) cA).trans d4⟩)
        have hbz : Below wr.heap.size wr (wr.alloc (.cells #[nilV, nilV, nilV] 32)) := (Below.refl _ _).alloc (Nat.le_refl _) _
        have hbd1 := Lib.hid (Below.drew (Below.refl wr.heap.size wr))
        have hbd2 := Lib.hid hbz.drew
        have hSd := HS1.out wr.drew (fun b _ _ => rfl)
        have hSz := HS1.out (wr.alloc (.cells #[nilV, nilV, nilV] 32)).drew (fun b hb _ => hbz.block b hb)
        have hSz' := HS1.out (wr.alloc (.cells #[nilV, nilV, nilV] 32)) (fun b hb _ => hbz.block b hb)
        have hzz : (wr.alloc (.cells #[nilV, nilV, nilV] 32)).heap.size = wr.heap.size + 1 := by simp
        have hxl := hL.xb.lt
        have hpl2 := hL.ab.lt
        have nXY : wr.heap.size ≠ X := by omega
        have nPY : wr.heap.size ≠ p := by omega
        have nAY : wr.heap.size ≠ (a.add (k * 5)).block := by omega
        have HY0 := Lib.hid ((Bk.new wr [nilV, nilV, nilV] 32 rfl).drew)
        have mF : ¬ F wr.heap.size := fun g => by have := K.lt hL.hd _ g; omega
        clear hbz hL hvb hvk hd' hok
        go_wp2_with fail
        generalize hm1 : d.secs.length = m1 at *
        generalize hm2 : d.row.length = m2 at *
        have HM2 := Lib.hid hm2
        clear hm1 hm2
        go_region_held3 (fun w' => w'.cell? ⟨X, 0, none⟩ = some (.slice A1 m1 e1) ∧ w'.cell? ⟨X, 1, none⟩ = some (.slice A2 m2 e2) ∧ w'.cell? ⟨X, 2, none⟩ = some (.slice A3 m2 e3) ∧ w'.cell? ⟨p, 0, none⟩ = some (.int .i64 first) ∧ w'.cell? ⟨p, 1, none⟩ = some (.int .i64 size) ∧ w'.cell? (a.add (k * 5)) = some (.int .i64 l[k].kind) ∧ w'.cell? ⟨(a.add (k * 5)).block, (a.add (k * 5)).off + 1, none⟩ = some (.int .u32 (l[k].gen : Int)) ∧ w'.cell? ⟨(a.add (k * 5)).block, (a.add (k * 5)).off + 2, none⟩ = some (.int .i64 l[k].at_) ∧ w'.cell? ⟨(a.add (k * 5)).block, (a.add (k * 5)).off + 3, none⟩ = some (.slice Ab l[k].b.length capb) ∧ w'.cell? ⟨(a.add (k * 5)).block, (a.add (k * 5)).off + 4, none⟩ = some (.slice Ak l[k].keep.length capk))
          (first | with_reducible assumption | go_keep)
          (first
            | (go_at_call 13
               (with_reducible refine (HO.out _ hbd1.out).mono ?_)
               rintro e w5 ⟨y, F', R', rfl, hH', hR', hF', hRR', hof', ht⟩
               obtain ⟨C1, g1, C2, g2, C3, g3, rfl⟩ := hR'.form
               have hA := HS1.out w5 (HCl.out _ w5 hbd1.out ht))
            | (go_at_call 13
               (with_reducible refine (HO.out _ hbd2.out).mono ?_)
               rintro e w5 ⟨y, F', R', rfl, hH', hR', hF', hRR', hof', ht⟩
               obtain ⟨C1, g1, C2, g2, C3, g3, rfl⟩ := hR'.form
               have hA := HS1.out w5 (HCl.out _ w5 hbd2.out ht)
               have hY5 := HY0.out.turn ht mF
               have ya := hY5.cell 0 _ rfl
               have yb := hY5.cell 1 _ rfl
               have yc := hY5.cell 2 _ rfl
               have yf0 := hY5.fz 0 (by simp)
               have yf1 := hY5.fz 1 (by simp)
               have yf2 := hY5.fz 2 (by simp)
               have hA' := And.intro (set3_other hA.1 nXY (.slice C1 d'.secs.length g1) (.slice C2 d'.row.length g2) (.slice C3 d'.row.length g3)) (And.intro (set3_other hA.2.1 nXY (.slice C1 d'.secs.length g1) (.slice C2 d'.row.length g2) (.slice C3 d'.row.length g3)) (And.intro (set3_other hA.2.2.1 nXY (.slice C1 d'.secs.length g1) (.slice C2 d'.row.length g2) (.slice C3 d'.row.length g3)) (And.intro (set3_other hA.2.2.2.1 nPY (.slice C1 d'.secs.length g1) (.slice C2 d'.row.length g2) (.slice C3 d'.row.length g3)) (And.intro (set3_other hA.2.2.2.2.1 nPY (.slice C1 d'.secs.length g1) (.slice C2 d'.row.length g2) (.slice C3 d'.row.length g3)) (And.intro (set3_other hA.2.2.2.2.2.1 nAY (.slice C1 d'.secs.length g1) (.slice C2 d'.row.length g2) (.slice C3 d'.row.length g3)) (And.intro (set3_other hA.2.2.2.2.2.2.1 nAY (.slice C1 d'.secs.length g1) (.slice C2 d'.row.length g2) (.slice C3 d'.row.length g3)) (And.intro (set3_other hA.2.2.2.2.2.2.2.1 nAY (.slice C1 d'.secs.length g1) (.slice C2 d'.row.length g2) (.slice C3 d'.row.length g3)) (And.intro (set3_other hA.2.2.2.2.2.2.2.2.1 nAY (.slice C1 d'.secs.length g1) (.slice C2 d'.row.length g2) (.slice C3 d'.row.length g3)) (set3_other hA.2.2.2.2.2.2.2.2.2 nAY (.slice C1 d'.secs.length g1) (.slice C2 d'.row.length g2) (.slice C3 d'.row.length g3))))))))))))
        · have hX5 := (HL.out.xb.step hbd1.out).turn ht HL.out.nF.1
          have hs5 := ht.size
          have hsd := hbd1.out.size
          have c0 := hA.2.2.2.1
          have c1 := hA.2.2.2.2.1
          have x0 := hA.1
          have x1 := hA.2.1
          have x2 := hA.2.2.1
          have f0 := hX5.fz 0 (by simp)
          have f1 := hX5.fz 1 (by simp)
          have f2 := hX5.fz 2 (by simp)
          have hXl := hX5.lt
          have hpl5 : p < w5.heap.size := by omega
          have nXp : ¬ X = p := fun e => HL.out.ne.1 e.symm
          have npX : ¬ p = X := HL.out.ne.1
          have nX5 : ¬ w5.heap.size = X := by omega
          have n5X : ¬ X = w5.heap.size := by omega
          have n5p : ¬ w5.heap.size = p := by omega
          obtain ⟨w4, hw4⟩ : ∃ w4, w4 = ((((w5.setCell ⟨X, 0, none⟩ (.slice C1 d'.secs.length g1)).setCell ⟨X, 1, none⟩ (.slice C2 d'.row.length g2)).setCell ⟨X, 2, none⟩ (.slice C3 d'.row.length g3)).alloc (.cells #[.slice C1 d'.secs.length g1, .slice C2 d'.row.length g2, .slice C3 d'.row.length g3] 32)) := ⟨_, rfl⟩
          have hT : Turn (fun b => b = X ∨ b = X) w5 w4 := by
            have h1 := turn3 w5 X (.slice C1 d'.secs.length g1) (.slice C2 d'.row.length g2) (.slice C3 d'.row.length g3)
            have h2 : Turn (fun b => b = X ∨ b = X) w5 (((w5.setCell ⟨X, 0, none⟩ (.slice C1 d'.secs.length g1)).setCell ⟨X, 1, none⟩ (.slice C2 d'.row.length g2)).setCell ⟨X, 2, none⟩ (.slice C3 d'.row.length g3)) := ⟨h1.os, h1.tape, h1.output, h1.size, fun k hk hn => h1.block k hk (fun e => hn (Or.inl e))⟩
            rw [hw4]
            exact h2.on ((Below.refl _ _).alloc (Nat.le_refl _) _)
          have hX4 : Bk w4 X [.slice C1 d'.secs.length g1, .slice C2 d'.row.length g2, .slice C3 d'.row.length g3] := by
            rw [hw4]
            exact (hX5.all3 (.slice C1 d'.secs.length g1) (.slice C2 d'.row.length g2) (.slice C3 d'.row.length g3)).alloc _
          have HP4 := Lib.hid (PL.next K HL.out hbd1.out hH' hR' hF' hRR' hof' ht hT (Or.inl rfl) hX4 HDS.out.1 (by rw [HM2.out]; exact HDS.out.2))
          have HW4 := Lib.hid hw4
          clear hw4 hT hX4 hX5 hH' hR' hF' hRR' hof' ht hA
          clear HO HS1 HCl HY0 hSd hSz hSz' hbd1 hbd2 d0 d1 d2 d3 d4 HDS
          have hlow4 := HP4.out.low
          have hs4 := hlow4.size
          have h12' := HP4.out.len
          have hrow' := HP4.out.row
          have HFit := Lib.hid (K.fit HP4.out.hd).1
          have HRd4 := Lib.hid HP4.out.rd
          have HLd := Lib.hid (load_any K KF HP4.out.hd hf0 hf1 hm0 hm1)
          have HRl : Hid (∀ w', Below w4.heap.size w4 w' → Calls Try.prog 15 #[.agg #[.slice C1 d'.secs.length g1, .slice C2 d'.row.length g2, .slice C3 d'.row.length g3], .int .i64 first, .int .i64 size] w' fun e w'' => e = .returned (rTell (loadI d' first size)) ∧ Below w'.heap.size w' w'') := Lib.hid (fun w' hb => rload8 _ d' w' R' (fun b g => Nat.lt_of_lt_of_le (HP4.out.off b g).1 hb.size) (HRd4.out.below hb (fun b g => (HP4.out.off b g).1)) HFit.out (by omega) (by omega) first size hf0 hf1 hm0 hm1)
          have HOn : Hid (∀ (j : Int) w', Below w4.heap.size w4 w' → Calls Try.prog 16 #[.pointer (some da), .agg #[.int .i64 first, .int .i64 size], .int .i64 j] w' (Tell w' (oneI d' first size j))) := Lib.hid (fun j w' hb => one_any K KF (K.below HP4.out.hd hb) hf0 hf1 hm0 hm1)
          have HRo : Hid (∀ (j : Int) w', Below w4.heap.size w4 w' → Calls Try.prog 17 #[.agg #[.slice C1 d'.secs.length g1, .slice C2 d'.row.length g2, .slice C3 d'.row.length g3], .int .i64 first, .int .i64 size, .int .i64 j] w' fun e w'' => e = .returned (rTell (oneI d' first size j)) ∧ Below w'.heap.size w' w'') := Lib.hid (fun j w' hb => rone8 _ d' w' R' (fun b g => Nat.lt_of_lt_of_le (HP4.out.off b g).1 hb.size) (HRd4.out.below hb (fun b g => (HP4.out.off b g).1)) HFit.out (by omega) (by omega) first size j hf0 hf1 hm0 hm1)
          unfold rTell at HRl HRo
          generalize loadI d' first size = o at *
          have HX4 := Lib.hid HP4.out.xb
          have HA4 := Lib.hid HP4.out.ab
          clear h12' hrow' HFit HRd4
          generalize d'.secs.length = n4 at *
          generalize d'.row.length = n5 at *
          go_wp2_with fail
          rw [← HW4.out]
          refine HLd.out.mono ?_
          rintro e u5 ⟨v5, rfl, hB5, hb5⟩
          have X5 := HX4.out.step hb5
          have A5 := HA4.out.step hb5
          have b0 := A5.cell 0 _ rfl
          have b1 := A5.cell 1 _ rfl
          have x0 := X5.cell 0 _ rfl
          have x1 := X5.cell 1 _ rfl
          have x2 := X5.cell 2 _ rfl
          have HRl := Lib.hid (HRl.out u5 hb5)
          obtain ⟨A7, cap7, rfl, hc7⟩ := Sg_form hB5
          have HB5 := Lib.hid hB5
          clear HLd hB5 X5 A5
          go_wp2_with fail
          refine HRl.out.mono ?_
          rintro e u6 ⟨rfl, hb6⟩
          have hb46 := below_two hb5 hb6
          have hcv := conv_sg (HB5.out.below hb6 (fun b g => g.2))
          clear b0 b1 x0 x1 x2 HRl HB5
          go_wp2_with fail
          clear hcv
          go_loopw [17] (fun kk wr => ∃ j : Nat, j ≤ 4 ∧ kk = .int .i64 ((j : Int) - 1) ∧ Hid (Below w4.heap.size w4 wr)) (fun kk _ => 4 - ((intOf kk) + 1).toNat)
          case atStart => exact ⟨0, by omega, rfl, Lib.hid hb46⟩
          case round =>
            clear hb46 hb5 hb6
            obtain ⟨j, hj, rfl, HW⟩ := hrel
            by_cases hj4 : j < 4
            · have hj4' : (j : Int) - 1 < 3 := by omega
              have HC1 := Lib.hid (HOn.out ((j : Int) - 1) wr HW.out)
              have A5 := HA4.out.step HW.out
              have b0 := A5.cell 0 _ rfl
              have b1 := A5.cell 1 _ rfl
              clear A5
              have hj0 : -1 ≤ (j : Int) - 1 := by omega
              obtain ⟨q, hq⟩ : ∃ q : Int, q = (j : Int) - 1 := ⟨_, rfl⟩
              rw [← hq] at HC1 hj4' hj0 ⊢
              have HQ := Lib.hid hq
              clear hq
              obtain ⟨oj, hoj⟩ : ∃ oj, oj = oneI d' first size q := ⟨_, rfl⟩
              rw [← hoj] at HC1
              go_wp2_with fail
              refine HC1.out.mono ?_
              rintro e u7 ⟨v7, rfl, hB7, hb7⟩
              have hb47 := below_two HW.out hb7
              have X5 := HX4.out.step hb47
              have A5 := HA4.out.step hb47
              clear b0 b1
              have b0 := A5.cell 0 _ rfl
              have b1 := A5.cell 1 _ rfl
              have x0 := X5.cell 0 _ rfl
              have x1 := X5.cell 1 _ rfl
              have x2 := X5.cell 2 _ rfl
              have HC2 := Lib.hid (HRo.out q u7 hb47)
              rw [← hoj] at HC2
              obtain ⟨A8, cap8, rfl, hc8⟩ := Sg_form hB7
              have HB7 := Lib.hid hB7
              clear HC1 hB7 X5 A5 hoj
              go_wp2_with fail
              refine HC2.out.mono ?_
              rintro e u8 ⟨rfl, hb8⟩
              have HW8 := Lib.hid (below_two hb47 hb8)
              have hcv := conv_sg (HB7.out.below hb8 (fun b g => g.2))
              clear b0 b1 x0 x1 x2 HC2 HB7
              go_wp2_with fail
              go_roundw
              case rel => exact ⟨j + 1, by omega, by have := HQ.out; go_num, HW8⟩
              case measure => have := HQ.out; simp [intOf]; omega
            · obtain rfl : j = 4 := by omega
              have hj4' : ¬ ((4 : Nat) : Int) - 1 < 3 := by decide
              have HPn := Lib.hid (HP4.out.below K HW.out)
              go_wp2_with fail
              go_roundw
              case rel => exact ⟨k + 1, d', _, _, _, _, _, by omega, by go_num, HPn.out⟩
              case measure => simp [intOf]; omega
        · have hX5 := (HL.out.xb.step hbd2.out).turn ht HL.out.nF.1
          have hs5 := ht.size
          have hsd := hbd2.out.size
          have c0 := hA.2.2.2.1
          have c1 := hA.2.2.2.2.1
          have x0 := hA.1
          have x1 := hA.2.1
          have x2 := hA.2.2.1
          have f0 := hX5.fz 0 (by simp)
          have f1 := hX5.fz 1 (by simp)
          have f2 := hX5.fz 2 (by simp)
          have hXl := hX5.lt
          have hpl5 : p < w5.heap.size := by omega
          have nXp : ¬ X = p := fun e => HL.out.ne.1 e.symm
          have npX : ¬ p = X := HL.out.ne.1
          have hy5 := HY0.out.turn ht mF
          obtain ⟨w4, hw4⟩ : ∃ w4, w4 = ((((((w5.setCell ⟨wr.heap.size, 0, none⟩ (.slice C1 d'.secs.length g1)).setCell ⟨wr.heap.size, 1, none⟩ (.slice C2 d'.row.length g2)).setCell ⟨wr.heap.size, 2, none⟩ (.slice C3 d'.row.length g3)).setCell ⟨X, 0, none⟩ (.slice C1 d'.secs.length g1)).setCell ⟨X, 1, none⟩ (.slice C2 d'.row.length g2)).setCell ⟨X, 2, none⟩ (.slice C3 d'.row.length g3)) := ⟨_, rfl⟩
          have hT : Turn (fun b => b = X ∨ b = wr.heap.size) w5 w4 := by
            have h1 := turn3 w5 wr.heap.size (.slice C1 d'.secs.length g1) (.slice C2 d'.row.length g2) (.slice C3 d'.row.length g3)
            have h2 := turn3 (((w5.setCell ⟨wr.heap.size, 0, none⟩ (.slice C1 d'.secs.length g1)).setCell ⟨wr.heap.size, 1, none⟩ (.slice C2 d'.row.length g2)).setCell ⟨wr.heap.size, 2, none⟩ (.slice C3 d'.row.length g3)) X (.slice C1 d'.secs.length g1) (.slice C2 d'.row.length g2) (.slice C3 d'.row.length g3)
            rw [hw4]
            exact ⟨h2.os.trans h1.os, h2.tape.trans h1.tape, h2.output.trans h1.output, Nat.le_trans h1.size h2.size, fun k hk hn => (h2.block k (Nat.lt_of_lt_of_le hk h1.size) (fun e => hn (Or.inl e))).trans (h1.block k hk (fun e => hn (Or.inr e)))⟩
          have hX4 : Bk w4 X [.slice C1 d'.secs.length g1, .slice C2 d'.row.length g2, .slice C3 d'.row.length g3] := by
            rw [hw4]
            exact (hX5.turn (turn3 w5 wr.heap.size (.slice C1 d'.secs.length g1) (.slice C2 d'.row.length g2) (.slice C3 d'.row.length g3)) (fun e => nXY e.symm)).all3 (.slice C1 d'.secs.length g1) (.slice C2 d'.row.length g2) (.slice C3 d'.row.length g3)
          have nYX : ¬ wr.heap.size = X := nXY
          have nXY' : ¬ X = wr.heap.size := fun e => nXY e.symm
          have nYp : ¬ wr.heap.size = p := nPY
          have HP4 := Lib.hid (PL.next K HL.out hbd2.out hH' hR' hF' hRR' hof' ht hT (Or.inr ⟨rfl, by show _ < (wr.alloc (.cells #[nilV, nilV, nilV] 32)).heap.size; omega⟩) hX4 HDS.out.1 (by rw [HM2.out]; exact HDS.out.2))
          have HW4 := Lib.hid hw4
          clear hw4 hT hX4 hX5 hH' hR' hF' hRR' hof' ht hA hA' hy5
          clear HO HS1 HCl HY0 hSd hSz hSz' hbd1 hbd2 d0 d1 d2 d3 d4 HDS
          have hlow4 := HP4.out.low
          have hs4 := hlow4.size
          have h12' := HP4.out.len
          have hrow' := HP4.out.row
          have HFit := Lib.hid (K.fit HP4.out.hd).1
          have HRd4 := Lib.hid HP4.out.rd
          have HLd := Lib.hid (load_any K KF HP4.out.hd hf0 hf1 hm0 hm1)
          have HRl : Hid (∀ w', Below w4.heap.size w4 w' → Calls Try.prog 15 #[.agg #[.slice C1 d'.secs.length g1, .slice C2 d'.row.length g2, .slice C3 d'.row.length g3], .int .i64 first, .int .i64 size] w' fun e w'' => e = .returned (rTell (loadI d' first size)) ∧ Below w'.heap.size w' w'') := Lib.hid (fun w' hb => rload8 _ d' w' R' (fun b g => Nat.lt_of_lt_of_le (HP4.out.off b g).1 hb.size) (HRd4.out.below hb (fun b g => (HP4.out.off b g).1)) HFit.out (by omega) (by omega) first size hf0 hf1 hm0 hm1)
          have HOn : Hid (∀ (j : Int) w', Below w4.heap.size w4 w' → Calls Try.prog 16 #[.pointer (some da), .agg #[.int .i64 first, .int .i64 size], .int .i64 j] w' (Tell w' (oneI d' first size j))) := Lib.hid (fun j w' hb => one_any K KF (K.below HP4.out.hd hb) hf0 hf1 hm0 hm1)
          have HRo : Hid (∀ (j : Int) w', Below w4.heap.size w4 w' → Calls Try.prog 17 #[.agg #[.slice C1 d'.secs.length g1, .slice C2 d'.row.length g2, .slice C3 d'.row.length g3], .int .i64 first, .int .i64 size, .int .i64 j] w' fun e w'' => e = .returned (rTell (oneI d' first size j)) ∧ Below w'.heap.size w' w'') := Lib.hid (fun j w' hb => rone8 _ d' w' R' (fun b g => Nat.lt_of_lt_of_le (HP4.out.off b g).1 hb.size) (HRd4.out.below hb (fun b g => (HP4.out.off b g).1)) HFit.out (by omega) (by omega) first size j hf0 hf1 hm0 hm1)
          unfold rTell at HRl HRo
          generalize loadI d' first size = o at *
          have HX4 := Lib.hid HP4.out.xb
          have HA4 := Lib.hid HP4.out.ab
          clear h12' hrow' HFit HRd4
          generalize d'.secs.length = n4 at *
          generalize d'.row.length = n5 at *
          go_wp2_with fail
          rw [← HW4.out]
          refine HLd.out.mono ?_
          rintro e u5 ⟨v5, rfl, hB5, hb5⟩
          have X5 := HX4.out.step hb5
          have A5 := HA4.out.step hb5
          have b0 := A5.cell 0 _ rfl
          have b1 := A5.cell 1 _ rfl
          have x0 := X5.cell 0 _ rfl
          have x1 := X5.cell 1 _ rfl
          have x2 := X5.cell 2 _ rfl
          have HRl := Lib.hid (HRl.out u5 hb5)
          obtain ⟨A7, cap7, rfl, hc7⟩ := Sg_form hB5
          have HB5 := Lib.hid hB5
          clear HLd hB5 X5 A5
          go_wp2_with fail
          refine HRl.out.mono ?_
          rintro e u6 ⟨rfl, hb6⟩
          have hb46 := below_two hb5 hb6
          have hcv := conv_sg (HB5.out.below hb6 (fun b g => g.2))
          clear b0 b1 x0 x1 x2 HRl HB5
          go_wp2_with fail
          clear hcv
          go_loopw [17] (fun kk wr => ∃ j : Nat, j ≤ 4 ∧ kk = .int .i64 ((j : Int) - 1) ∧ Hid (Below w4.heap.size w4 wr)) (fun kk _ => 4 - ((intOf kk) + 1).toNat)
          case atStart => exact ⟨0, by omega, rfl, Lib.hid hb46⟩
          case round =>
            clear hb46 hb5 hb6
            obtain ⟨j, hj, rfl, HW⟩ := hrel
            by_cases hj4 : j < 4
            · have hj4' : (j : Int) - 1 < 3 := by omega
              have HC1 := Lib.hid (HOn.out ((j : Int) - 1) wr HW.out)
              have A5 := HA4.out.step HW.out
              have b0 := A5.cell 0 _ rfl
              have b1 := A5.cell 1 _ rfl
              clear A5
              have hj0 : -1 ≤ (j : Int) - 1 := by omega
              obtain ⟨q, hq⟩ : ∃ q : Int, q = (j : Int) - 1 := ⟨_, rfl⟩
              rw [← hq] at HC1 hj4' hj0 ⊢
              have HQ := Lib.hid hq
              clear hq
              obtain ⟨oj, hoj⟩ : ∃ oj, oj = oneI d' first size q := ⟨_, rfl⟩
              rw [← hoj] at HC1
              go_wp2_with fail
              refine HC1.out.mono ?_
              rintro e u7 ⟨v7, rfl, hB7, hb7⟩
              have hb47 := below_two HW.out hb7
              have X5 := HX4.out.step hb47
              have A5 := HA4.out.step hb47
              clear b0 b1
              have b0 := A5.cell 0 _ rfl
              have b1 := A5.cell 1 _ rfl
              have x0 := X5.cell 0 _ rfl
              have x1 := X5.cell 1 _ rfl
              have x2 := X5.cell 2 _ rfl
              have HC2 := Lib.hid (HRo.out q u7 hb47)
              rw [← hoj] at HC2
              obtain ⟨A8, cap8, rfl, hc8⟩ := Sg_form hB7
              have HB7 := Lib.hid hB7
              clear HC1 hB7 X5 A5 hoj
              go_wp2_with fail
              refine HC2.out.mono ?_
              rintro e u8 ⟨rfl, hb8⟩
              have HW8 := Lib.hid (below_two hb47 hb8)
              have hcv := conv_sg (HB7.out.below hb8 (fun b g => g.2))
              clear b0 b1 x0 x1 x2 HC2 HB7
              go_wp2_with fail
              go_roundw
              case rel => exact ⟨j + 1, by omega, by have := HQ.out; go_num, HW8⟩
              case measure => have := HQ.out; simp [intOf]; omega
            · obtain rfl : j = 4 := by omega
              have hj4' : ¬ ((4 : Nat) : Int) - 1 < 3 := by decide
              have HPn := Lib.hid (HP4.out.below K HW.out)
              go_wp2_with fail
              go_roundw
              case rel => exact ⟨k + 1, d', _, _, _, _, _, by omega, by go_num, HPn.out⟩
              case measure => simp [intOf]; omega
      · obtain rfl : k = l.length := by omega
        have hlt' : ¬ (l.length : Int) < (l.length : Int) := by omega
        have HPn := Lib.hid (K.pending (w := wr.drew) (K.keep HL.out.hd (fun _ _ => rfl) (Nat.le_refl _)))
        have x2 := (HL.out.xb.drew).cell 2 _ rfl
        have HX := Lib.hid HL.out.xb
        clear hL
        go_wp2_with fail
        go_region_held3 (fun w' => w'.cell? ⟨X, 2, none⟩ = some (.slice A3 d.row.length e3))
          (first | with_reducible assumption | go_keep)
          (first
            | (go_at_call 18
               refine HPn.out.mono ?_
               rintro e w5 ⟨rfl, hb5⟩
               have hA := (HX.out.drew.step hb5).cell 2 _ rfl))
        all_goals (
          go_wp2
          go_ret
          exact ⟨rfl, hlow.trans (⟨hb5.os, hb5.tape, hb5.output, hb5.size, fun k hk => hb5.block k (Nat.lt_of_lt_of_le hk hlsz)⟩)⟩)
end

end Go.Proofs.Ytbjbnjpdackloaa
