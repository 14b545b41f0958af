/-
  The landed cells: Newest.
-/
import Derived.Test.YtmlocdfjjgbnjaaClP2
namespace Go.Proofs.Ytmlocdfjjgbnjaa
open Go.RowKit

/-- the three cells of a key in a row -/
theorem ky_at {w : World} {F : Nat → Prop} {A : Option Addr} {cap : Nat} {X : Cl.Cs} (h : S.Sg w F 3 (.slice A X.length cap) X.length (X.flatMap keyC)) (i : Nat) (hi : i < X.length) : ∃ a, A = some a ∧ F a.block ∧
    w.cell? (a.add (i * 3)) = some (.int .i64 X[i].1.kind) ∧ w.cell? ⟨(a.add (i * 3)).block, (a.add (i * 3)).off + 1, none⟩ = some (.int .i64 X[i].1.a) ∧ w.cell? ⟨(a.add (i * 3)).block, (a.add (i * 3)).off + 2, none⟩ = some (.int .i64 X[i].1.b) := by
  obtain ⟨hl0, A, cap, e, hc, hx⟩ := h
  cases e
  obtain ⟨a, rfl, hF, hx⟩ := hx (by intro e; rw [e] at hi; simp at hi)
  have q (j : Nat) (hj : j < 3) : w.cell? (a.add (i * 3 + j)) = (keyC X[i])[j]? := by
    have := V.flat_at (f := keyC) (m := 3) X (fun _ _ => rfl) i hi j hj
    rw [← this]
    have hl : i * 3 + j < (X.flatMap keyC).length := by rw [hl0]; omega
    rw [hx (i * 3 + j) _ (List.getElem?_eq_getElem hl)]
    exact (List.getElem?_eq_getElem hl).symm
  have e1 : ∀ (p : Addr) (j : Nat), (⟨p.block, p.off + (j + 1), none⟩ : Addr) = p.add (j + 1) := fun p j => by simp [Addr.add]
  refine ⟨a, rfl, hF, q 0 (by decide), ?_, ?_⟩
  · rw [e1 _ 0, S.add_add]; exact q 1 (by decide)
  · rw [e1 _ 1, S.add_add]; exact q 2 (by decide)
/-- there a key's three cells stay -/
theorem three_keep {w w' : World} {B : Nat} {p : Addr} {x y z : Value} (hb : Below B w w') (hp : p.block < B) (h : w.cell? p = some x ∧ w.cell? ⟨p.block, p.off + 1, none⟩ = some y ∧ w.cell? ⟨p.block, p.off + 2, none⟩ = some z) :
    w'.cell? p = some x ∧ w'.cell? ⟨p.block, p.off + 1, none⟩ = some y ∧ w'.cell? ⟨p.block, p.off + 2, none⟩ = some z :=
  ⟨(hb.cell hp).trans h.1, (hb.cell (p := ⟨p.block, p.off + 1, none⟩) hp).trans h.2.1, (hb.cell (p := ⟨p.block, p.off + 2, none⟩) hp).trans h.2.2⟩

set_option maxRecDepth 100000 in
set_option maxHeartbeats 4000000 in
theorem newest1 {w : World} {F : Nat → Prop} {v : Value} {c : Cn.Ch} (h : SlC w F v c) (hF : ∀ b, F b → b < w.heap.size) (hl : c.length ≤ 1000) :
    Calls Try.prog 51 #[v] w fun e w' => e = .returned (.string (Cl.lastV ByteArray.empty c)) ∧ Below w.heap.size w w' := by
  have HV := Lib.hid h
  obtain ⟨A, cap, rfl, hcap⟩ := SlC.form h
  clear h
  have HLm := Lib.hid (fun m (hm : m < c.length) => Cl.lastV_succ hm)
  go_enter Try.func51, Try.ntmps51
  go_wp2
  go_loopw [3, 8] (fun sv k wq => ∃ m : Nat, m ≤ c.length ∧ sv = .string (Cl.lastV ByteArray.empty (c.take m)) ∧ k = .int .i64 (m : Int) ∧ Hid (Below w.heap.size w wq)) (fun _ k _ => c.length - (intOf k).toNat)
  case atStart => exact ⟨0, Nat.zero_le _, rfl, rfl, Lib.hid (Below.refl _ _)⟩
  case round =>
    obtain ⟨m, hm, rfl, rfl, HB⟩ := hrel
    by_cases hmt : m < c.length
    · have hmt' : (m : Int) < (c.length : Int) := by omega
      have hm0 : (0 : Int) ≤ (m : Int) := by omega
      obtain ⟨ad, _, ea, _, _, z0, z1, z2, z3⟩ := SlC.nth (S.Sg.below HV.out HB.out hF) m hmt
      cases ea
      have HX := Lib.hid (HLm.out m hmt)
      have HBW : Hid (∀ o, Below w.heap.size w (‹World›.alloc o)) := Lib.hid (fun o => HB.out.alloc HB.out.size o)
      generalize c[m] = u at *
      generalize Cl.lastV ByteArray.empty (c.take m) = sv at *
      cases hd : u.done with
      | true =>
        rw [hd] at z3
        have HX1 : Hid (Cl.lastV ByteArray.empty (c.take (m + 1)) = u.val) := Lib.hid (by rw [HX.out, if_pos hd])
        clear hd
        go_wp2_with fail
        go_roundw
        case rel => exact ⟨m + 1, by omega, by rw [HX1.out], by go_num, Lib.hid (HBW.out _)⟩
        case measure => simp [intOf]; omega
      | false =>
        rw [hd] at z3
        have HX1 : Hid (Cl.lastV ByteArray.empty (c.take (m + 1)) = sv) := Lib.hid (by rw [HX.out, if_neg (by rw [hd]; simp)])
        clear hd
        go_wp2_with fail
        go_roundw
        case rel => exact ⟨m + 1, by omega, by rw [HX1.out], by go_num, Lib.hid (HBW.out _)⟩
        case measure => simp [intOf]; omega
    · obtain rfl : m = c.length := by omega
      have hmt' : ¬ (c.length : Int) < (c.length : Int) := by omega
      go_wp2
      go_ret
      exact ⟨rfl, HB.out⟩

/-- the slice that the map has of a key -/
theorem Hg.at_ {w wr : World} {F : Nat → Prop} {g b n : Nat} {X : Cl.Cs} (h : Hg w F g b X) (hb : Below w.heap.size w wr) (hn : n < X.length) : ∃ A cap, SlC wr (Chs F g b) (.slice A X[n].2.length cap) X[n].2 ∧
    ∀ q, (Instr.lookup 90 (.map (some b)) (.agg #[.int .i64 X[n].1.kind, .int .i64 X[n].1.a, .int .i64 X[n].1.b]) false).run Try.prog (wr.drewN q) = .ok (.slice A X[n].2.length cap) (wr.drewN q) := by
  have h2 := h.below hb
  obtain ⟨m, hm, hsay⟩ := h2.map
  have hS := hsay X[n].1
  obtain ⟨c, hc⟩ := Cl.said_has (X := X) (k := X[n].1) (c := X[n].2) (List.getElem_mem hn)
  have e1 : X[n].2 = c := by
    have h1 := h2.ord.chain_mem (List.getElem_mem hn)
    rw [Cl.chain_said, hc] at h1
    exact h1.symm
  rw [hc] at hS
  rw [e1]
  obtain ⟨vc, hmk⟩ : ∃ vc, m X[n].1 = some vc := by
    cases e : m X[n].1 with
    | none => rw [e] at hS; exact hS.elim
    | some v => exact ⟨v, rfl⟩
  rw [hmk] at hS
  have hS : SlC wr (Chs F g b) vc c := hS
  obtain ⟨A, cap, rfl, _⟩ := SlC.form hS
  refine ⟨A, cap, hS, fun q => ?_⟩
  have := (Mk.look (w := wr.drewN q) (Mk.below hm ⟨rfl, rfl, rfl, Nat.le_refl _, fun _ _ => rfl⟩) Try.underlying90 X[n].1 (zeroSl _)).2
  rw [hmk] at this
  exact this

set_option maxRecDepth 100000 in
set_option maxHeartbeats 8000000 in
theorem newest11 {w : World} {F : Nat → Prop} {v : Value} {X : Cl.Cs} (h : Hc w F v X) (hf : Cl.Fit 200 X) :
    Calls Try.prog 30 #[v] w fun e w' => ∃ v', e = .returned v' ∧ S.Sg w' (S.New w w') 4 v' (Cl.newest X).length ((Cl.newest X).flatMap clW) ∧ Below w.heap.size w w' := by
  obtain ⟨g, b, rfl, h⟩ := h
  have HH := Lib.hid h
  have HK := Lib.hid (keysG11 h hf)
  have hlen : X.length ≤ 200 := hf.len
  have HFc : Hid (∀ n (hn : n < X.length), X[n].2.length ≤ 1000) := Lib.hid (fun n hn => by have := hf.ch _ (List.getElem_mem hn); omega)
  have HC : Hid (∀ W, Below w.heap.size w W → W.cell? ⟨g, 0, none⟩ = some (.map (some b))) := Lib.hid (fun W hb => HH.out.cellAt hb)
  have HTs0 := fun n (hn : n < X.length) => Cl.nw_succ hn
  have HTe0 : (X.take X.length).flatMap Cl.nw = Cl.newest X := by rw [List.take_length, Cl.newest_eq]
  clear h
  obtain ⟨T, hT⟩ : ∃ T : Nat → Cl.Ws, T = fun n => (X.take n).flatMap Cl.nw := ⟨_, rfl⟩
  have HTs : Hid (∀ n (hn : n < X.length), T (n + 1) = T n ++ Cl.nw (X[n].1, X[n].2)) := Lib.hid (by rw [hT]; exact HTs0)
  have HTe : Hid (T X.length = Cl.newest X) := Lib.hid (by rw [hT]; exact HTe0)
  have HTz : Hid (T 0 = []) := Lib.hid (by rw [hT]; rfl)
  clear hT HTs0 HTe0
  go_enter Try.func30, Try.ntmps30
  go_wp2_with (go_at_call 27; refine HK.out.mono ?_; rintro e w1 ⟨A, cap, rfl, h1, hb1⟩; have H1 := Lib.hid h1; have HB1 := Lib.hid hb1; clear h1 hb1)
  go_loopw [3, 10] (fun r i wr => ∃ (n : Nat) (L : Cl.Ws), n ≤ X.length ∧ L.length ≤ n ∧ i = .int .i64 (n : Int) ∧ Hid (T n = L) ∧ Hid (wr.ownsRow w1.heap.size 96 4 r L.length (L.flatMap clW)) ∧ Hid (Below w1.heap.size w1 wr)) (fun _ i _ => X.length - (intOf i).toNat)
  case atStart => exact ⟨0, [], Nat.zero_le _, Nat.zero_le _, rfl, HTz, Lib.hid (S.own_nil ..), Lib.hid (Below.refl _ _)⟩
  case round =>
    obtain ⟨n, L, hn, hLn, rfl, HL, HO, HB⟩ := hrel
    obtain ⟨Ar, cr, rfl⟩ := own_slice HO.out
    have HB0 := Lib.hid (below_two HB1.out HB.out)
    by_cases hlt : n < X.length
    · have hlt' : (n : Int) < (X.length : Int) := by omega
      have hk0 : (0 : Int) ≤ (n : Int) := by omega
      obtain ⟨a, rfl, hFa, y0, y1, y2⟩ := ky_at (H1.out.below HB.out (fun r q => q.2)) n hlt
      have hbk : Below wr.heap.size wr (wr.alloc (.cells #[.int .i64 X[n].1.kind, .int .i64 X[n].1.a, .int .i64 X[n].1.b] 50)) := (Below.refl _ _).alloc (Nat.le_refl _) _
      obtain ⟨Ac, cc, hsl, hlk⟩ := HH.out.at_ (below_two HB0.out hbk) hlt
      have hl1 := hlk 1
      have HB1k := Lib.hid (below_two HB.out hbk)
      have HB2k := Lib.hid (below_two HB0.out hbk)
      have HK1 := Lib.hid (Bk.new wr [.int .i64 X[n].1.kind, .int .i64 X[n].1.a, .int .i64 X[n].1.b] 50 rfl)
      have hcg := HC.out _ HB2k.out
      have HO1 := Lib.hid (HO.out.alloc (.cells #[.int .i64 X[n].1.kind, .int .i64 X[n].1.a, .int .i64 X[n].1.b] 50))
      have HNw := Lib.hid (newest1 hsl.drew (fun r q => Nat.lt_of_lt_of_le (HH.out.lt r q.1) HB2k.out.size) (HFc.out n hlt))
      have HT1 := Lib.hid (HTs.out n hlt)
      have HN : Hid (Cl.nw (X[n].1, X[n].2) = if Cl.lastV ByteArray.empty X[n].2 = ByteArray.empty then [] else [(X[n].1, Cl.lastV ByteArray.empty X[n].2)]) := Lib.hid rfl
      generalize Cl.lastV ByteArray.empty X[n].2 = sv at *
      generalize X[n].1 = kk at *
      generalize X[n].2.length = nc at *
      clear hlk hsl
      go_wp2_with fail
      generalize hwk : wr.alloc (.cells #[.int .i64 kk.kind, .int .i64 kk.a, .int .i64 kk.b] 50) = wk at *
      obtain ⟨p, hp⟩ : ∃ p, p = wr.heap.size := ⟨_, rfl⟩
      rw [← hp] at HK1 ⊢
      clear hwk hbk hp y0 y1 y2
      have x0 := HK1.out.drew.cell 0 _ rfl
      have x1 := HK1.out.drew.cell 1 _ rfl
      have x2 := HK1.out.drew.cell 2 _ rfl
      have xg : wk.drew.cell? ⟨g, 0, none⟩ = some (.map (some b)) := hcg
      go_still_tail 5, (by kernel_rfl)
      change wpList _ _ _ _ _ wk.drew
      change Sem.run Try.prog _ wk.drew = _ at hl1
      by_cases he : sv = ByteArray.empty
      · have HT2 : Hid (T (n + 1) = L) := Lib.hid (by rw [HT1.out, HN.out, if_pos he, List.append_nil, HL.out])
        subst he
        have he' : (ByteArray.empty != ByteArray.mk #[]) = false := by decide
        go_wp2_with (go_at_call 51; refine HNw.out.mono ?_; rintro e w4 ⟨rfl, hb4⟩
                     have HB4 := Lib.hid (below_two HB1k.out.drew hb4)
                     have HO4 := Lib.hid (S.own_below (S.own_below HO1.out (Below.drew (Below.refl _ _))) hb4)
                     clear hb4)
        go_roundw
        case rel => exact ⟨n + 1, L, by omega, by omega, by go_num, HT2, HO4, HB4⟩
        case measure => simp [intOf]; omega
      · have HT2 : Hid (T (n + 1) = L ++ [(kk, sv)]) := Lib.hid (by rw [HT1.out, HN.out, if_neg he, HL.out])
        have he2 : sv.toList ≠ [] := fun e => he (by
          have h2 : sv.data.toList = [] := by rw [← ByteArray.toList_eq]; exact e
          have h3 : sv.data = #[] := by simpa using h2
          cases sv
          simp only at h3
          rw [h3]
          rfl)
        have he3 : (sv.toList == []) = false := by simpa using he2
        have he' : (sv.toList != []) = true := by simpa using he2
        have he4 : sv.toList.isEmpty = false := by simpa using he2
        clear he2
        go_wp2_with (first
          | (go_at_call 51; refine HNw.out.mono ?_; rintro e w4 ⟨rfl, hb4⟩
             have HB4 := Lib.hid (below_two HB1k.out.drew hb4)
             have HO4 := Lib.hid (S.own_below (S.own_below HO1.out (Below.drew (Below.refl _ _))) hb4)
             have HK4 := Lib.hid (HK1.out.drew.step hb4)
             clear hb4 x0 x1 x2 xg hl1
             have x0 := HK4.out.cell 0 _ rfl
             have x1 := HK4.out.cell 1 _ rfl
             have x2 := HK4.out.cell 2 _ rfl)
          | (at_builtin; refine S.wpList_append_sg elWr rfl _ _ rfl (base := w1.heap.size) (n := L.length) (m := 1) (xs := L.flatMap clW) (cs := clW (kk, sv)) rfl rfl (HO4.out.alloc _) (sg_row4 w4 96 #[.int .i64 kk.kind, .int .i64 kk.a, .int .i64 kk.b, .string sv] rfl) (four_oneW _) (by omega) (by omega) (Nat.le_trans HB4.out.size (by simp)) ?_
             intro v5 w5 hown5 hgrow5 _
             have hb5 := HB4.out.trans (((Below.refl w4.heap.size w4).alloc (Nat.le_refl _) (.cells #[.int .i64 kk.kind, .int .i64 kk.a, .int .i64 kk.b, .string sv] 96)).mono HB4.out.size)
             have HB5 := Lib.hid (hb5.trans (S.below_base (HO4.out.alloc (.cells #[.int .i64 kk.kind, .int .i64 kk.a, .int .i64 kk.b, .string sv] 96)) hb5.size hgrow5))
             have HO5 : Hid (w5.ownsRow w1.heap.size 96 4 v5 (L ++ [(kk, sv)]).length ((L ++ [(kk, sv)]).flatMap clW)) := Lib.hid (by
               rw [List.length_append, List.flatMap_append]
               simpa using hown5)
             clear hown5 hgrow5 hb5 x0 x1 x2))
        go_roundw
        case rel => exact ⟨n + 1, _, by omega, by simp; omega, by go_num, HT2, HO5, HB5⟩
        case measure => simp [intOf]; omega
    · obtain rfl : n = X.length := by omega
      have hlt' : ¬ (X.length : Int) < (X.length : Int) := by omega
      go_wp2
      go_ret
      obtain rfl : L = Cl.newest X := HL.out.symm.trans HTe.out
      have hg := S.Sg.of_own HO.out
      exact ⟨_, rfl, hg.wider (fun r q => ⟨Nat.le_trans HB1.out.size q.1, q.2⟩), HB0.out⟩
end Go.Proofs.Ytmlocdfjjgbnjaa
