/-
  Needed, over the closure that marks.
-/
import Derived.Test.YtmlocdfjjgbnjaaSwP1
namespace Go.Proofs.Ytmlocdfjjgbnjaa
open Go.RowKit

/-- the boxes of the chain and of the marks, and the marks' row, all made since w -/
structure Ms (w wr : World) (pc po g n capo : Nat) (vc : Value) (B : List Bool) : Prop where
  c0 : wr.cell? ⟨pc, 0, none⟩ = some vc
  o0 : wr.cell? ⟨po, 0, none⟩ = some (.slice (some ⟨g, 0, none⟩) n capo)
  own : wr.ownsRow w.heap.size 4 1 (.slice (some ⟨g, 0, none⟩) n capo) n (booV B)
  low : Below w.heap.size w wr
  len : B.length = n
  pg : pc ≠ g
  og : po ≠ g
  gw : w.heap.size ≤ g
  gs : g < wr.heap.size
section
variable {w wr w' : World} {pc po g n capo : Nat} {vc : Value} {B : List Bool}
theorem Ms.later (h : Ms w wr pc po g n capo vc B) (hb : Below wr.heap.size wr w') : Ms w w' pc po g n capo vc B := by
  have ec : ∀ p : Addr, p.block < wr.heap.size → w'.cell? p = wr.cell? p := fun p hp => hb.cell hp
  refine ⟨(ec _ (World.block_lt_of_cell? _ _ h.c0)).trans h.c0, (ec _ (World.block_lt_of_cell? _ _ h.o0)).trans h.o0, ?_, h.low.trans (hb.mono h.low.size), h.len, h.pg, h.og, h.gw, Nat.lt_of_lt_of_le h.gs hb.size⟩
  refine ⟨h.own.1, h.own.2.imp id ?_⟩
  rintro ⟨g, cap, cur, e1, e2, e3, r⟩
  exact ⟨g, cap, cur, e1, e2, (hb.block g (Array.getElem?_eq_some_iff.1 e3).1).trans e3, r⟩
theorem Ms.turn (h : Ms w wr pc po g n capo vc B) {B' : List Bool} (hl : B'.length = n) (ho : w'.ownsRow w.heap.size 4 1 (.slice (some ⟨g, 0, none⟩) n capo) n (booV B')) (ht : Turn (fun b => b = g) wr w') : Ms w w' pc po g n capo vc B' := by
  have ec : ∀ p : Addr, p.block < wr.heap.size → p.block ≠ g → w'.cell? p = wr.cell? p := fun p hp hn => ht.cell hp hn
  exact ⟨(ec _ (World.block_lt_of_cell? _ _ h.c0) h.pg).trans h.c0, (ec _ (World.block_lt_of_cell? _ _ h.o0) h.og).trans h.o0, ho, h.low.trans (ht.below h.low.size (fun b e => e ▸ h.gw)), hl, h.pg, h.og, h.gw, Nat.lt_of_lt_of_le h.gs ht.size⟩
theorem Ms.set (h : Ms w wr pc po g n capo vc B) {i : Nat} (hi : i < n) : Ms w (wr.setCell ⟨g, i, none⟩ (.bool true)) pc po g n capo vc (B.set i true) := by
  refine h.turn (by rw [List.length_set]; exact h.len) ?_ (Turn.put13 (F := fun b => b = g) (Turn.refl _ _) (q := g) rfl i _)
  rw [booV_set]
  exact S.own_set1 Try.prog h.own (o := i) (by omega) (.bool true) rfl
/-- the marks told -/
theorem Ms.out (h : Ms w wr pc po g n capo vc B) : SlO wr (S.New w wr) (.slice (some ⟨g, 0, none⟩) n capo) B := by
  have := S.Sg.of_own h.own
  rw [← h.len] at this ⊢
  exact this
/-- .. with the box of the places of those that are Done, and their row, which lies apart from the marks -/
structure Md (w wr : World) (pc pd po g n capo : Nat) (vc vd : Value) (D : List Nat) (B : List Bool) : Prop where
  ms : Ms w wr pc po g n capo vc B
  d0 : wr.cell? ⟨pd, 0, none⟩ = some vd
  dn : SlI wr (fun b => b < wr.heap.size ∧ b ≠ g) vd D
  dg : pd ≠ g
section
variable {pd : Nat} {vd : Value} {D : List Nat}
theorem Md.later (h : Md w wr pc pd po g n capo vc vd D B) (hb : Below wr.heap.size wr w') : Md w w' pc pd po g n capo vc vd D B :=
  ⟨h.ms.later hb, (hb.cell (World.block_lt_of_cell? _ _ h.d0)).trans h.d0, (S.Sg.below h.dn hb (fun _ q => q.1)).wider (fun _ q => ⟨Nat.lt_of_lt_of_le q.1 hb.size, q.2⟩), h.dg⟩
theorem Md.turn (h : Md w wr pc pd po g n capo vc vd D B) {B' : List Bool} (hl : B'.length = n) (ho : w'.ownsRow w.heap.size 4 1 (.slice (some ⟨g, 0, none⟩) n capo) n (booV B')) (ht : Turn (fun b => b = g) wr w') : Md w w' pc pd po g n capo vc vd D B' :=
  ⟨h.ms.turn hl ho ht, (ht.cell (World.block_lt_of_cell? _ _ h.d0) h.dg).trans h.d0, (S.Sg.keep h.dn (fun _ hp => ht.cell hp.1 hp.2)).wider (fun _ q => ⟨Nat.lt_of_lt_of_le q.1 ht.size, q.2⟩), h.dg⟩
theorem Md.mark {F : Nat → Prop} {A Ad : Option Addr} {cap capd : Nat} {c : Cn.Ch} (hm : Cn.May c) (hD : D = Sw.dones c) (h : Md w wr pc pd po g c.length capo (.slice A c.length cap) (.slice Ad D.length capd) D B) (hc : SlC w F (.slice A c.length cap) c) (hF : ∀ b, F b → b < w.heap.size) (hl : c.length ≤ 200) (ts : Int) :
    Calls Try.prog 33 #[.int .i64 ts, .pointer (some ⟨pd, 0, none⟩), .pointer (some ⟨pc, 0, none⟩), .pointer (some ⟨po, 0, none⟩)] wr fun e w' => e = .returned (.tuple #[]) ∧ Md w w' pc pd po g c.length capo (.slice A c.length cap) (.slice Ad D.length capd) D (Sw.markB B (Sw.lastI c ts c.length)) :=
  (mark13 (F := F) hm hD h.ms.len hl h.ms.c0 h.d0 h.ms.o0 (S.Sg.below hc h.ms.low hF) (fun b q => Nat.lt_of_lt_of_le (hF b q) h.ms.low.size) h.dn (fun _ q => q.1) h.ms.own).mono (fun _ _ hh => ⟨hh.1, h.turn (by rw [Sw.mark_length]; exact h.ms.len) hh.2.1 hh.2.2⟩)
theorem Md.set (h : Md w wr pc pd po g n capo vc vd D B) {i : Nat} (hi : i < n) : Md w (wr.setCell ⟨g, i, none⟩ (.bool true)) pc pd po g n capo vc vd D (B.set i true) := by
  refine h.turn (by rw [List.length_set]; exact h.ms.len) ?_ (Turn.put13 (F := fun b => b = g) (Turn.refl _ _) (q := g) rfl i _)
  rw [booV_set]
  exact S.own_set1 Try.prog h.ms.own (o := i) (by omega) (.bool true) rfl
end
end

set_option maxRecDepth 100000 in
set_option maxHeartbeats 4000000 in
theorem needed13 (KC : ChainOk) {w : World} {F G : Nat → Prop} {v va : Value} {c : Cn.Ch} {act : List Int} (h : SlC w F v c) (hF : ∀ b, F b → b < w.heap.size) (hl : c.length ≤ 200) (ha : SlN w G va act) (hG : ∀ b, G b → b < w.heap.size) (hal : act.length ≤ 200) :
    Calls Try.prog 12 #[v, va] w fun e w' => ∃ v', e = .returned v' ∧ SlO w' (S.New w w') v' (Sw.needs c act) ∧ Below w.heap.size w w' := by
  have HS := Lib.hid h
  have HA := Lib.hid ha
  obtain ⟨A, cap, rfl, hcap⟩ := SlC.form h
  obtain ⟨B, capb, rfl, hcapb⟩ := num_form ha
  clear h ha
  obtain ⟨i5, hi5, hz0, hz1, hz2⟩ := info_parts (show (Try.prog.info? 4).map (fun i => (i.zero, i.size, i.bytes)) = some (some (.bool false), 1, 1) by kernel_rfl)
  go_enter Try.func12, Try.ntmps12
  have HB5 : Hid (i5.bytes * c.length ≤ 281474976710656) := Lib.hid (by rw [hz2]; omega)
  have HM5 : Hid (c.length ≤ maxLen) := Lib.hid (by unfold maxLen; omega)
  go_wp2_with (at_make; go_loud (refine wpList_make_full _ rfl _ _ 28 rfl w.heap.size 4 i5 (.bool false) 1 Try.underlying28 hi5 hz0 hz1 .i64 .i64 (c.length : Int) (c.length : Int) c.length rfl rfl rfl rfl HB5.out HM5.out (by simp) ?_))
  intro w1 hown hgrow
  have hb1 : Below w.heap.size w w1 := ((Below.refl w.heap.size w).alloc (Nat.le_refl _) (.cells #[.slice A c.length cap] 25)).grown hgrow (by simp) (fun j hj => by cases hj)
  have hg1 : w.heap.size + 1 < w1.heap.size := by
    rcases hown.2 with ⟨e, _⟩ | ⟨g, _, _, e, _, e3, _⟩
    · cases e
    · cases e
      exact (Array.getElem?_eq_some_iff.1 e3).1
  have hc1 : Bk w1 w.heap.size [.slice A c.length cap] := (Bk.new w [.slice A c.length cap] 25 rfl).step ((Below.refl _ _).grown hgrow (Nat.le_refl _) (fun j hj => by cases hj))
  obtain ⟨w2, hw2⟩ : ∃ w2, w2 = w1.alloc (.cells #[.slice (some ⟨w.heap.size + 1, 0, none⟩) c.length c.length] 28) := ⟨_, rfl⟩
  have hb2 : Below w1.heap.size w1 w2 := by rw [hw2]; exact (Below.refl _ _).alloc (Nat.le_refl _) _
  have HM : Hid (Ms w w2 w.heap.size w1.heap.size (w.heap.size + 1) c.length c.length (.slice A c.length cap) (List.replicate c.length false)) := Lib.hid (by
    have e : (madeCells #[Value.bool false] c.length).toList = booV (List.replicate c.length false) := by rw [toList_madeCells_one]; simp [booV]
    refine ⟨(hc1.step hb2).cell 0 _ rfl, ?_, ?_, hb1.trans (hb2.mono hb1.size), by simp, by omega, by omega, by omega, Nat.lt_of_lt_of_le hg1 hb2.size⟩
    · rw [hw2]
      exact (Bk.new w1 [.slice (some ⟨w.heap.size + 1, 0, none⟩) c.length c.length] 28 rfl).cell 0 _ rfl
    · rw [← e]
      refine ⟨hown.1, hown.2.imp id ?_⟩
      rintro ⟨g, cap, cur, e1, e2, e3, r⟩
      exact ⟨g, cap, cur, e1, e2, (hb2.block g (Array.getElem?_eq_some_iff.1 e3).1).trans e3, r⟩)
  have hz := hc1.step hb2
  rw [hw2] at hz
  have z0 := hz.cell 0 _ rfl
  subst hw2
  clear hz hc1 hg1 hown hgrow hb1 hb2
  cases hmb : Cn.mayB c with
  | false =>
    have HMy : Hid (∀ W, Below w.heap.size w W → Calls Try.prog 23 #[.slice A c.length cap] W fun e w' => e = .returned (.bool false) ∧ Below W.heap.size W w') := Lib.hid (fun W hb => by rw [← hmb]; exact KC.may (S.Sg.below HS.out hb hF) (fun b q => Nat.lt_of_lt_of_le (hF b q) hb.size) (by omega))
    go_wp2_with (go_at_call 23; refine (HMy.out _ HM.out.low).mono ?_; rintro e w3 ⟨rfl, b3⟩
                 have HM3 := Lib.hid (HM.out.later b3)
                 have o0 := HM3.out.o0
                 clear b3 HMy)
    go_ret
    refine ⟨_, rfl, ?_, HM3.out.low⟩
    rw [Sw.needs_not (fun h => by have := (Cn.mayB_iff c).2 h; rw [hmb] at this; cases this)]
    exact HM3.out.out
  | true =>
    have HMy : Hid (∀ W, Below w.heap.size w W → Calls Try.prog 23 #[.slice A c.length cap] W fun e w' => e = .returned (.bool true) ∧ Below W.heap.size W w') := Lib.hid (fun W hb => by rw [← hmb]; exact KC.may (S.Sg.below HS.out hb hF) (fun b q => Nat.lt_of_lt_of_le (hF b q) hb.size) (by omega))
    have HDn : Hid (∀ W, Below w.heap.size w W → Calls Try.prog 32 #[.slice A c.length cap] W fun e w' => ∃ v', e = .returned v' ∧ SlI w' (S.New W w') v' (Sw.dones c) ∧ Below W.heap.size W w') := Lib.hid (fun W hb => dones13 (S.Sg.below HS.out hb hF) (fun b q => Nat.lt_of_lt_of_le (hF b q) hb.size) hl)
    obtain ⟨D, hD⟩ : ∃ D, D = Sw.dones c := ⟨_, rfl⟩
    rw [← hD] at HDn
    have HD := Lib.hid hD
    clear hD
    have hcm : Cn.May c := (Cn.mayB_iff c).1 hmb
    have HCm := Lib.hid hcm
    clear hcm
    go_wp2_with (first
      | (go_at_call 23; refine (HMy.out _ HM.out.low).mono ?_; rintro e w3 ⟨rfl, b3⟩
         have HM3 := Lib.hid (HM.out.later b3)
         have c0 := HM3.out.c0
         clear b3 HMy)
      | (go_at_call 32; refine (HDn.out _ HM3.out.low).mono ?_; rintro e w4 ⟨vd, rfl, hd4, b4⟩
         have hq4 : SlI w4 (fun b => b < w4.heap.size ∧ b ≠ w.heap.size + 1) vd D := hd4.wider (fun _ q => ⟨q.2, fun e => by have := HM3.out.gs; have := q.1; omega⟩)
         obtain ⟨Ad, capd, rfl, _⟩ := ints_form hd4
         have HM4 := Lib.hid (HM3.out.later b4)
         clear b4 hd4 HDn))
    have HM5 : Hid (Md w (w4.alloc (.cells #[.slice Ad D.length capd] 71)) w.heap.size w4.heap.size w1.heap.size (w.heap.size + 1) c.length c.length (.slice A c.length cap) (.slice Ad D.length capd) D (List.replicate c.length false)) := Lib.hid (by
      have hb5 : Below w4.heap.size w4 (w4.alloc (.cells #[.slice Ad D.length capd] 71)) := (Below.refl _ _).alloc (Nat.le_refl _) _
      refine ⟨HM4.out.later hb5, (Bk.new w4 [.slice Ad D.length capd] 71 rfl).cell 0 _ rfl, (S.Sg.below hq4 hb5 (fun _ q => q.1)).wider (fun _ q => ⟨Nat.lt_of_lt_of_le q.1 hb5.size, q.2⟩), ?_⟩
      have := HM4.out.gs
      omega)
    have HK5 : Hid (Sw.Mks c 0 (act.take 0) (List.replicate c.length false)) := Lib.hid (Sw.Mks.start c)
    generalize w4.alloc (.cells #[.slice Ad D.length capd] 71) = w5 at *
    generalize w4.heap.size = pd at *
    generalize w1.heap.size = po at *
    generalize List.replicate c.length false = B5 at *
    clear HM HM3 z0 c0 HM4 hq4
    go_loopw [24] (fun iv wr => ∃ (k : Nat) (BB : List Bool), k ≤ act.length ∧ iv = .int .i64 (k : Int) ∧ Hid (Md w wr w.heap.size pd po (w.heap.size + 1) c.length c.length (.slice A c.length cap) (.slice Ad D.length capd) D BB) ∧ Hid (Sw.Mks c 0 (act.take k) BB)) (fun iv _ => act.length - (intOf iv).toNat)
    case atStart => exact ⟨0, B5, Nat.zero_le _, rfl, HM5, HK5⟩
    case round =>
      clear HM5 HK5
      obtain ⟨k, BB, hk, rfl, HM5, HK5⟩ := hrel
      by_cases hka : k < act.length
      · have hka' : (k : Int) < (act.length : Int) := by omega
        have hk0 : (0 : Int) ≤ (k : Int) := by omega
        obtain ⟨a, _, ea, _, _, y0⟩ := num_nth (S.Sg.below HA.out HM5.out.ms.low hG) k hka
        cases ea
        have HT : Hid (act.take (k + 1) = act.take k ++ [act[k]]) := Lib.hid (List.take_succ_eq_append_getElem hka)
        generalize act[k] = ts at *
        have HMk := Lib.hid (HM5.out.mark HCm.out HD.out HS.out hF hl ts)
        have HKk := Lib.hid (HK5.out.mark ts)
        clear HM5 HK5
        go_wp2_with (go_at_call 33; refine HMk.out.mono ?_; rintro e w4 ⟨rfl, h4⟩; have HM6 := Lib.hid h4; clear h4)
        go_roundw
        case rel => exact ⟨k + 1, _, by omega, by go_num, HM6, Lib.hid (by rw [HT.out]; exact HKk.out)⟩
        case measure => simp [intOf]; omega
      · obtain rfl : k = act.length := by omega
        have hNo : ¬ ((act.length : Int) < (act.length : Int)) := by omega
        have HK6 : Hid (Sw.Mks c 0 (act ++ (((c.take 0).filter (fun v => !v.done)).map Cn.Vr.ts)) BB) := Lib.hid (by have := HK5.out; rw [List.take_length] at this; simpa using this)
        have c0 := HM5.out.ms.c0
        clear HK5
        go_wp2
        go_loopw [34] (fun iv wr => ∃ (k : Nat) (BB : List Bool), k ≤ c.length ∧ iv = .int .i64 (k : Int) ∧ Hid (Md w wr w.heap.size pd po (w.heap.size + 1) c.length c.length (.slice A c.length cap) (.slice Ad D.length capd) D BB) ∧ Hid (Sw.Mks c k (act ++ (((c.take k).filter (fun v => !v.done)).map Cn.Vr.ts)) BB)) (fun iv _ => c.length - (intOf iv).toNat)
        case atStart => exact ⟨0, BB, Nat.zero_le _, rfl, HM5, HK6⟩
        case round =>
          clear HM5 HK6 c0
          obtain ⟨k, BB, hk, rfl, HM7, HK7⟩ := hrel
          have c0 := HM7.out.ms.c0
          have o0 := HM7.out.ms.o0
          by_cases hkc : k < c.length
          · have hkc' : (k : Int) < (c.length : Int) := by omega
            have hk0 : (0 : Int) ≤ (k : Int) := by omega
            obtain ⟨a, _, ea, _, _, y0, y1, y2, y3⟩ := SlC.nth (S.Sg.below HS.out HM7.out.ms.low hF) k hkc
            cases ea
            have HT : Hid ((c.take (k + 1)).filter (fun v => !v.done) = (c.take k).filter (fun v => !v.done) ++ (if c[k].done = true then [] else [c[k]])) := Lib.hid (by
              rw [List.take_succ_eq_append_getElem hkc, List.filter_append]
              congr 1
              by_cases hq : c[k].done = true
              · rw [if_pos hq]; simp [hq]
              · rw [if_neg hq]; simp [hq])
            cases hd : c[k].done with
            | true =>
              rw [hd] at y3
              have HK8 : Hid (Sw.Mks c (k + 1) (act ++ (((c.take (k + 1)).filter (fun v => !v.done)).map Cn.Vr.ts)) BB) := Lib.hid (by rw [HT.out, if_pos hd, List.append_nil]; exact HK7.out.skip hkc hd)
              have HM8 := fun u : Cn.Vr => HM7.out.later ((Below.refl wr.heap.size wr).alloc (Nat.le_refl _) (.cells #[.int .i64 u.ts, .int .i64 u.rd, .string u.val, .bool true] 40))
              have HM8 := Lib.hid (HM8 c[k])
              clear hd HT HK7 HM7
              generalize c[k] = u at *
              go_wp2
              go_roundw
              case rel => exact ⟨k + 1, BB, by omega, by go_num, HM8, HK8⟩
              case measure => simp [intOf]; omega
            | false =>
              rw [hd] at y3
              have HK8 : Hid (∀ z, z = c[k].ts → Sw.Mks c (k + 1) (act ++ (((c.take (k + 1)).filter (fun v => !v.done)).map Cn.Vr.ts)) (Sw.markB (BB.set k true) (Sw.lastI c z c.length))) := Lib.hid (fun z e => by
                rw [HT.out, if_neg (by rw [hd]; simp), List.map_append, ← List.append_assoc, e]
                exact (HK7.out.set hkc hd).mark _)
              have HK8 : Hid (Sw.Mks c (k + 1) (act ++ (((c.take (k + 1)).filter (fun v => !v.done)).map Cn.Vr.ts)) (Sw.markB (BB.set k true) (Sw.lastI c c[k].ts c.length))) := Lib.hid (HK8.out _ rfl)
              clear HT HK7 hd
              generalize c[k] = u at *
              have hb8 : Below wr.heap.size wr (wr.alloc (.cells #[.int .i64 u.ts, .int .i64 u.rd, .string u.val, .bool false] 40)) := (Below.refl _ _).alloc (Nat.le_refl _) _
              have HM8 := Lib.hid (HM7.out.later hb8)
              have hbk := Bk.new wr [.int .i64 u.ts, .int .i64 u.rd, .string u.val, .bool false] 40 rfl
              have hgs := HM7.out.ms.gs
              have g0 := V.own_cell HM8.out.ms.own (j := k) (booV_at BB k (by rw [HM8.out.ms.len]; exact hkc))
              have g1 := V.own_frozen HM8.out.ms.own k
              have o1 := HM8.out.ms.o0
              have q3 := hbk.cell 3 _ rfl
              have htn : Turn (fun b => b = w.heap.size + 1) (wr.alloc (.cells #[.int .i64 u.ts, .int .i64 u.rd, .string u.val, .bool false] 40)) ((wr.alloc (.cells #[.int .i64 u.ts, .int .i64 u.rd, .string u.val, .bool false] 40)).setCell ⟨w.heap.size + 1, k, none⟩ (.bool true)) := Turn.put13 (F := fun b => b = w.heap.size + 1) (Turn.refl _ _) (q := w.heap.size + 1) rfl k _
              have q0 := (htn.cell (p := ⟨wr.heap.size, 0, none⟩) (by simp) (by show ¬ wr.heap.size = _; omega)).trans (hbk.cell 0 _ rfl)
              have HM9 := Lib.hid (HM8.out.set hkc)
              have HMk := Lib.hid (HM9.out.mark HCm.out HD.out HS.out hF hl u.ts)
              clear hgs htn hbk HM7 HM9
              go_wp2_with (go_at_call 33; refine HMk.out.mono ?_; rintro e w4 ⟨rfl, h4⟩; have HM9 := Lib.hid h4; clear h4)
              go_roundw
              case rel => exact ⟨k + 1, _, by omega, by go_num, HM9, HK8⟩
              case measure => simp [intOf]; omega
          · obtain rfl : k = c.length := by omega
            have hNo2 : ¬ ((c.length : Int) < (c.length : Int)) := by omega
            have HE : Hid (Sw.markB BB (Sw.lastI c 9223372036854775807 c.length) = Sw.needs c act) := Lib.hid (by
              have := HK7.out.mark 9223372036854775807
              rw [List.take_length] at this
              refine this.fin HCm.out (fun a => ?_)
              unfold Sw.counts Sw.maxI
              simp only [List.mem_append, List.mem_singleton]
              constructor
              · rintro (h | h)
                · exact Or.inr h
                · exact Or.inl h
              · rintro (h | h)
                · exact Or.inr h
                · exact Or.inl h)
            have HMk := Lib.hid (HM7.out.mark HCm.out HD.out HS.out hF hl 9223372036854775807)
            clear HM7 HK7
            go_wp2_with (go_at_call 33; refine HMk.out.mono ?_; rintro e w4 ⟨rfl, h4⟩; have HM9 := Lib.hid h4; have o2 := h4.ms.o0; clear h4)
            go_ret
            refine ⟨_, rfl, ?_, HM9.out.ms.low⟩
            rw [← HE.out]
            exact HM9.out.ms.out
end Go.Proofs.Ytmlocdfjjgbnjaa
