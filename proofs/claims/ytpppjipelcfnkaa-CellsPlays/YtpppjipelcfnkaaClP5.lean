/-
  The landed cells: Commit.
-/
import Derived.Test.YtpppjipelcfnkaaClP4
namespace Go.Proofs.Ytpppjipelcfnkaa.Cn
theorem commit_same {c : Ch} {ts : Int} (h : ∀ x ∈ c, x.ts = ts → x.done = true) : commitC c ts = c ∧ c.filter (Cl.undone ts) = [] := by
  constructor
  · unfold commitC
    split
    · refine (List.map_congr_left (fun x hx => ?_)).trans (List.map_id c)
      unfold doneV
      split
      · rename_i e
        have := h x hx e
        cases x
        simp only at this
        rw [this]
        rfl
      · rfl
    · rfl
  · rw [List.filter_eq_nil_iff]
    intro x hx
    unfold Cl.undone
    by_cases e : x.ts = ts
    · rw [h x hx e]; simp
    · rw [decide_eq_false e]; simp
theorem Sp.only {c a b : Ch} {v : Vr} {ts : Int} (h : Sp c ts a v b) (hm : May c) {x : Vr} (hx : x ∈ c) (ht : x.ts = ts) : x = v := by
  obtain ⟨rfl, hle, hgt⟩ := h
  have hl := hm.lt_v
  rcases List.mem_append.1 hx with q | q
  · have := hl.1 x q; omega
  · rcases List.mem_cons.1 q with q | q
    · exact q
    · have := hgt x q; omega
theorem Sp.told {c a b : Ch} {v : Vr} {ts : Int} (h : Sp c ts a v b) (hm : May c) (ht : v.ts = ts) (hd : v.done = false) : c.filter (Cl.undone ts) = [v] := by
  obtain ⟨rfl, hle, hgt⟩ := h
  have hl := hm.lt_v
  rw [List.filter_append, List.filter_cons, if_pos (by unfold Cl.undone; rw [decide_eq_true ht, hd]; rfl)]
  have e1 : a.filter (Cl.undone ts) = [] := by
    rw [List.filter_eq_nil_iff]
    intro x hx
    have := hl.1 x hx
    unfold Cl.undone
    rw [decide_eq_false (by omega)]; simp
  have e2 : b.filter (Cl.undone ts) = [] := by
    rw [List.filter_eq_nil_iff]
    intro x hx
    have := hgt x hx
    unfold Cl.undone
    rw [decide_eq_false (by omega)]; simp
  rw [e1, e2]
  rfl
/-- what Commit finds of a chain -/
theorem commit_cases {c : Ch} (hm : May c) (ts : Int) : (look c ts = -1 ∧ commitC c ts = c ∧ c.filter (Cl.undone ts) = []) ∨
    ∃ j, ∃ hj : j < c.length, look c ts = (j : Int) ∧ ((c[j].ts ≠ ts ∧ commitC c ts = c ∧ c.filter (Cl.undone ts) = []) ∨ (c[j].ts = ts ∧ c[j].done = true ∧ commitC c ts = c ∧ c.filter (Cl.undone ts) = []) ∨ (c[j].ts = ts ∧ c[j].done = false ∧ c.filter (Cl.undone ts) = [c[j]])) := by
  rcases hm.cases ts with h | ⟨a, v, b, h⟩
  · have h1 := commit_same (c := c) (ts := ts) (fun x hx e => by have := h x hx; omega)
    exact Or.inl ⟨by unfold look; rw [at_low h], h1.1, h1.2⟩
  · refine Or.inr ⟨a.length, h.lt, by unfold look; rw [h.at_ hm], ?_⟩
    rw [h.get h.lt]
    by_cases e : v.ts = ts
    · cases hd : v.done with
      | true =>
        have h1 := commit_same (c := c) (ts := ts) (fun x hx q => by rw [h.only hm hx q]; exact hd)
        exact Or.inr (Or.inl ⟨e, rfl, h1.1, h1.2⟩)
      | false => exact Or.inr (Or.inr ⟨e, rfl, h.told hm e hd⟩)
    · have h1 := commit_same (c := c) (ts := ts) (fun x hx q => absurd (by rw [h.only hm hx q] at q; exact q) e)
      exact Or.inl ⟨e, h1.1, h1.2⟩
end Go.Proofs.Ytpppjipelcfnkaa.Cn

namespace Go.Proofs.Ytpppjipelcfnkaa.Cl
theorem upmap_same {g : Cn.Ch → Cn.Ch} {X : Cs} {n : Nat} (hn : n < X.length) (h : g X[n].2 = X[n].2) : upmap g X (n + 1) = upmap g X n := by
  unfold upmap
  rw [List.take_succ_eq_append_getElem hn, List.drop_eq_getElem_cons hn, List.map_append, List.append_assoc]
  simp [h]
  exact (List.drop_eq_getElem_cons hn).symm
end Go.Proofs.Ytpppjipelcfnkaa.Cl

namespace Go.Proofs.Ytpppjipelcfnkaa
open Go.RowKit

/-- cells, and a row of writes apart from them -/
def Told (w w' : World) (F : Nat → Prop) (v : Value) (Y : Cl.Cs) (v' : Value) (L : Cl.Ws) : Prop :=
  ∃ F' T : Nat → Prop, Hc w' F' v Y ∧ S.Sg w' T 4 v' L.length (L.flatMap clW) ∧ (∀ b, F' b → More F w w' b) ∧ (∀ b, T b → S.New w w' b ∧ ¬ F' b) ∧ Turn F w w'

theorem own_apart {w : World} {base k n : Nat} {e : TypeId} {v : Value} {xs : List Value} {G : Nat → Prop} (h : w.ownsRow base e k v n xs) (hG : ∀ r, G r → v.ownBlock ≠ some r) : S.Sg w (fun r => (base ≤ r ∧ r < w.heap.size) ∧ ¬ G r) k v n xs := by
  have h0 := h
  rcases h.2 with ⟨rfl, rfl⟩ | ⟨g, cap, cur, rfl, _, _, hc, _⟩
  · exact ⟨h.1, none, 0, rfl, Nat.zero_le _, fun h => absurd rfl h⟩
  · refine ⟨h.1, _, cap, rfl, hc, fun _ => ⟨_, rfl, ⟨World.ownsRow.lt h0 g rfl, fun q => hG g q rfl⟩, fun j u hj => ?_⟩⟩
    have hjl := (List.getElem?_eq_some_iff.1 hj).1
    rw [Addr.add_lit, Nat.zero_add, World.ownsRow.cellAt h0 j (by rw [h.1] at hjl; exact hjl)]
    exact hj

set_option maxRecDepth 100000 in
set_option maxHeartbeats 16000000 in
theorem commit11 {w : World} {F : Nat → Prop} {v : Value} {X : Cl.Cs} (h : Hc w F v X) (hf : Cl.Fit 200 X) (ts : Int) (t0 : -9223372036854775808 ≤ ts) (t1 : ts ≤ 9223372036854775807) :
    Calls Try.prog 25 #[v, .int .i64 ts] w fun e w' => ∃ v' : Value, e = .returned v' ∧ Told w w' F v (Cl.commitX X ts) v' (Cl.commitW X ts) := by
  obtain ⟨g, b, rfl, h⟩ := h
  have HH := Lib.hid h
  have HK := Lib.hid (keysG11 h hf)
  have hlen : X.length ≤ 200 := hf.len
  have HU := Lib.hid (fun n (hn : n < X.length) => Cl.upmap_succ (g := fun c => Cn.commitC c ts) (fun _ hc => Cn.may_commit hc ts) h.ord hn)
  have HU2 := Lib.hid (fun n (hn : n < X.length) => Cl.upmap_same (g := fun c => Cn.commitC c ts) (X := X) hn)
  have HE : Hid (Cl.upmap (fun c => Cn.commitC c ts) X X.length = Cl.commitX X ts) := Lib.hid (Cl.upmap_end _ _)
  have HZ := Lib.hid (Cl.upmap_zero (fun c => Cn.commitC c ts) X)
  have HSd := Lib.hid (fun n (hn : n < X.length) => Cl.upmap_said (g := fun c => Cn.commitC c ts) (fun _ hc => Cn.may_commit hc ts) h.ord hn)
  have HMy : Hid (∀ n (hn : n < X.length), X[n].2.length ≤ 1000 ∧ Cn.mayB (Cn.commitC X[n].2 ts) = true ∧ Cn.May X[n].2) := Lib.hid (fun n hn => ⟨by have := hf.ch _ (List.getElem_mem hn); omega, (Cn.mayB_iff _).2 (Cn.may_commit (h.ord.may _ (List.getElem_mem hn)) ts), h.ord.may _ (List.getElem_mem hn)⟩)
  have HTs := Lib.hid (fun n (hn : n < X.length) => Cl.told_succ (ts := ts) hn)
  have HTe : Hid ((X.take X.length).flatMap (Cl.tells ts) = Cl.commitW X ts) := Lib.hid (by rw [List.take_length]; rfl)
  generalize Cl.upmap (fun c => Cn.commitC c ts) X = U at *
  obtain ⟨T, hT⟩ : ∃ T : Nat → Cl.Ws, T = fun n => (X.take n).flatMap (Cl.tells ts) := ⟨_, rfl⟩
  have HTs : Hid (∀ n (hn : n < X.length), T (n + 1) = T n ++ (X[n].2.filter (Cl.undone ts)).map (fun v => (X[n].1, v.val))) := Lib.hid (by rw [hT]; exact HTs.out)
  have HTe : Hid (T X.length = Cl.commitW X ts) := Lib.hid (by rw [hT]; exact HTe.out)
  have HTz : Hid (T 0 = []) := Lib.hid (by rw [hT]; rfl)
  clear hT h
  go_enter Try.func25, Try.ntmps25
  go_wp2_with (go_at_call 13; refine HK.out.mono ?_; rintro e w1 ⟨A, cap, rfl, h1, hb1⟩; have H1 := Lib.hid h1; have HB1 := Lib.hid hb1; clear h1 hb1)
  go_loopw [5, 13] (fun wv i wr => ∃ (n : Nat) (L : Cl.Ws), n ≤ X.length ∧ L.length ≤ n ∧ i = .int .i64 (n : Int) ∧ Hid (T n = L) ∧ Hid (Rk w1 wr F g b wv (U n) L)) (fun _ i _ => X.length - (intOf i).toNat)
  case atStart => exact ⟨0, [], Nat.zero_le _, Nat.zero_le _, rfl, HTz, Lib.hid (by rw [HZ.out]; exact Rk.start (HH.out.below HB1.out))⟩
  case round =>
    obtain ⟨n, L, hn, hLn, rfl, HL, HR⟩ := hrel
    obtain ⟨Aw, cw, rfl⟩ := own_slice HR.out.row
    by_cases hlt : n < X.length
    · have hlt' : (n : Int) < (X.length : Int) := by omega
      have hk0 : (0 : Int) ≤ (n : Int) := by omega
      have HT := Lib.hid HR.out.turn
      obtain ⟨a, rfl, hFa, y0, y1, y2⟩ := ky_at (S.Sg.keep H1.out (fun p hp => HT.out.cell hp.2 (fun q => by have := HH.out.lt _ q; have := hp.1; omega))) n hlt
      have hbk : Below wr.heap.size wr (wr.alloc (.cells #[.int .i64 X[n].1.kind, .int .i64 X[n].1.a, .int .i64 X[n].1.b] 31)) := (Below.refl _ _).alloc (Nat.le_refl _) _
      have HRk := Lib.hid (HR.out.still hbk)
      have HK1 := Lib.hid (Bk.new wr [.int .i64 X[n].1.kind, .int .i64 X[n].1.a, .int .i64 X[n].1.b] 31 rfl)
      obtain ⟨P, Ac, cc, hP, hsl, hlk, hput⟩ := HRk.out.step (HSd.out n hlt) (HMy.out n hlt).2.1
      have HLk : Hid (∀ W, Below (wr.alloc (.cells #[.int .i64 X[n].1.kind, .int .i64 X[n].1.a, .int .i64 X[n].1.b] 31)).heap.size (wr.alloc (.cells #[.int .i64 X[n].1.kind, .int .i64 X[n].1.a, .int .i64 X[n].1.b] 31)) W → Calls Try.prog 46 #[.slice Ac X[n].2.length cc, .int .i64 ts] W fun e w' => e = .returned (.int .i64 (Cn.look X[n].2 ts)) ∧ Below W.heap.size W w') := Lib.hid (fun W hb =>
        ok10.look (hsl.below hb (fun r q => (hP r q).1)) (fun r q => Nat.lt_of_lt_of_le (hP r q).1 hb.size) (HMy.out n hlt).1 ts t0 t1)
      have HAb : Hid (∀ W, Below (wr.alloc (.cells #[.int .i64 X[n].1.kind, .int .i64 X[n].1.a, .int .i64 X[n].1.b] 31)).heap.size (wr.alloc (.cells #[.int .i64 X[n].1.kind, .int .i64 X[n].1.a, .int .i64 X[n].1.b] 31)) W → Calls Try.prog 47 #[.slice Ac X[n].2.length cc, .int .i64 ts] W fun e w' => ∃ A' n' c', e = .returned (.slice A' n' c') ∧ SlC w' (fun r => P r ∨ S.New (wr.alloc (.cells #[.int .i64 X[n].1.kind, .int .i64 X[n].1.a, .int .i64 X[n].1.b] 31)) w' r) (.slice A' n' c') (Cn.commitC X[n].2 ts) ∧ Below W.heap.size W w') := Lib.hid (fun W hb =>
        (ok10.commit (hsl.below hb (fun r q => (hP r q).1)) (fun r q => Nat.lt_of_lt_of_le (hP r q).1 hb.size) (HMy.out n hlt).1 ts t0 t1).mono (fun e w' hh => by
          obtain ⟨v', rfl, h1, h2⟩ := hh
          obtain ⟨A', c', rfl, _⟩ := SlC.form h1
          exact ⟨A', _, c', rfl, h1.wider (fun r q => q.elim Or.inl (fun q => Or.inr ⟨Nat.le_trans hb.size q.1, q.2⟩)), h2⟩))
      have HPut := Lib.hid hput
      have HSl := Lib.hid hsl
      have HP := Lib.hid hP
      have hl1 := hlk _ (Below.drew (Below.refl _ _))
      have hgb := HR.out.gb
      have hcg := HRk.out.cell
      have HN := Lib.hid (HU.out n hlt)
      have HN2 := Lib.hid (HU2.out n hlt)
      have HT1 := Lib.hid (HTs.out n hlt)
      have hcs := Cn.commit_cases (HMy.out n hlt).2.2 ts
      have hl1000 := (HMy.out n hlt).1
      generalize X[n].1 = kk at *
      generalize X[n].2 = ch at *
      clear hlk hput hP hsl
      go_wp2_with fail
      generalize hwk : wr.alloc (.cells #[.int .i64 kk.kind, .int .i64 kk.a, .int .i64 kk.b] 31) = wk at *
      obtain ⟨p, hp⟩ : ∃ p, p = wr.heap.size := ⟨_, rfl⟩
      rw [← hp] at HK1 ⊢
      have HBk : Hid (p ≠ b ∧ g ≠ b ∧ g < wk.heap.size) := Lib.hid ⟨by omega, hgb.2.2, by have := hbk.size; omega⟩
      have HpW : Hid ((Value.slice Aw L.length cw).ownBlock ≠ some p) := Lib.hid (fun e => by have := (World.ownsRow.lt HR.out.row p e).2; omega)
      clear hwk hbk hp y0 y1 y2 hgb
      have HBd : Hid (Below wk.heap.size wk wk.drew) := Lib.hid (Below.drew (Below.refl _ _))
      have x0 := HK1.out.drew.cell 0 _ rfl
      have x1 := HK1.out.drew.cell 1 _ rfl
      have x2 := HK1.out.drew.cell 2 _ rfl
      have xg : wk.drew.cell? ⟨g, 0, none⟩ = some (.map (some b)) := hcg
      clear hcg
      go_still_tail 5, (by kernel_rfl)
      change wpList _ _ _ _ _ wk.drew
      rcases hcs with ⟨hl, hc1, hc2⟩ | ⟨j, hj, hl, hcs⟩
      · rw [hl] at HLk
        have HU1 : Hid (U (n + 1) = U n) := Lib.hid (HN2.out hc1)
        have HT2 : Hid (T (n + 1) = L) := Lib.hid (by rw [HT1.out, hc2, List.map_nil, List.append_nil, HL.out])
        clear hc1 hc2
        go_wp2_with (go_at_call 46; refine (HLk.out _ HBd.out).mono ?_; rintro e w3 ⟨rfl, hb3⟩; have HB3 := Lib.hid (below_two HBd.out hb3); clear hb3)
        go_roundw
        case rel => exact ⟨n + 1, L, by omega, by omega, by go_num, HT2, Lib.hid (by rw [HU1.out]; exact HRk.out.still HB3.out)⟩
        case measure => simp [intOf]; omega
      · rw [hl] at HLk
        have hj0 : (0 : Int) ≤ (j : Int) := by omega
        have hjn : ¬ ((j : Int) < 0) := by omega
        have hj' : (j : Int) < (ch.length : Int) := by omega
        obtain ⟨ad, _, ea, _, hPd, _⟩ := SlC.nth HSl.out j hj
        cases ea
        have HZ : Hid (∀ W : World, (∀ r, P r → W.heap[r]? = wk.heap[r]?) → W.cell? (ad.add (j * 4)) = some (.int .i64 ch[j].ts) ∧ W.cell? ⟨(ad.add (j * 4)).block, (ad.add (j * 4)).off + 2, none⟩ = some (.string ch[j].val) ∧ W.cell? ⟨(ad.add (j * 4)).block, (ad.add (j * 4)).off + 3, none⟩ = some (.bool ch[j].done)) := Lib.hid (fun W hW => by
          obtain ⟨ad', _, ea, _, _, z0, _, z2, z3⟩ := SlC.nth (S.Sg.keep HSl.out (w' := W) (fun p hp => World.cell?_of_block (hW _ hp))) j hj
          cases ea
          exact ⟨z0, z2, z3⟩)
        have HPl := HP
        generalize ch[j] = u at *
        rcases hcs with ⟨he, hc1, hc2⟩ | ⟨he, hd, hc1, hc2⟩ | ⟨he, hd, hc2⟩
        · have he1 : (u.ts != ts) = true := by simpa using he
          have he2 : (u.ts == ts) = false := by simpa using he
          have HU1 : Hid (U (n + 1) = U n) := Lib.hid (HN2.out hc1)
          have HT2 : Hid (T (n + 1) = L) := Lib.hid (by rw [HT1.out, hc2, List.map_nil, List.append_nil, HL.out])
          clear hc1 hc2 he
          go_wp2_with (go_at_call 46; refine (HLk.out _ HBd.out).mono ?_; rintro e w3 ⟨rfl, hb3⟩; have HB3 := Lib.hid (below_two HBd.out hb3); clear hb3; obtain ⟨z0, z2, z3⟩ := HZ.out _ (fun r q => HB3.out.block r (HP.out r q).1))
          go_roundw
          case rel => exact ⟨n + 1, L, by omega, by omega, by go_num, HT2, Lib.hid (by rw [HU1.out]; exact HRk.out.still HB3.out)⟩
          case measure => simp [intOf]; omega
        · have he1 : (u.ts != ts) = false := by simpa using he
          have he2 : (u.ts == ts) = true := by simpa using he
          have HU1 : Hid (U (n + 1) = U n) := Lib.hid (HN2.out hc1)
          have HT2 : Hid (T (n + 1) = L) := Lib.hid (by rw [HT1.out, hc2, List.map_nil, List.append_nil, HL.out])
          rw [hd] at HZ
          clear hc1 hc2 he hd
          go_wp2_with (go_at_call 46; refine (HLk.out _ HBd.out).mono ?_; rintro e w3 ⟨rfl, hb3⟩; have HB3 := Lib.hid (below_two HBd.out hb3); clear hb3; obtain ⟨z0, z2, z3⟩ := HZ.out _ (fun r q => HB3.out.block r (HP.out r q).1))
          go_roundw
          case rel => exact ⟨n + 1, L, by omega, by omega, by go_num, HT2, Lib.hid (by rw [HU1.out]; exact HRk.out.still HB3.out)⟩
          case measure => simp [intOf]; omega
        · have he1 : (u.ts != ts) = false := by simpa using he
          have he2 : (u.ts == ts) = true := by simpa using he
          have HT2 : Hid (T (n + 1) = L ++ [(kk, u.val)]) := Lib.hid (by rw [HT1.out, hc2, HL.out]; rfl)
          rw [hd] at HZ
          clear hc2 he hd
          go_wp2_with (go_at_call 46; refine (HLk.out _ HBd.out).mono ?_; rintro e w3 ⟨rfl, hb3⟩; have HB3 := Lib.hid (below_two HBd.out hb3); clear hb3; obtain ⟨z0, z2, z3⟩ := HZ.out _ (fun r q => HB3.out.block r (HP.out r q).1))
          have HK3 := Lib.hid (HK1.out.step HB3.out)
          have HB3d : Hid (Below wk.heap.size wk w3.drew) := Lib.hid HB3.out.drew
          have HS3 : Hid (w3.drew.cell? ⟨p, 0, none⟩ = some (.int .i64 kk.kind) ∧ w3.drew.cell? ⟨p, 1, none⟩ = some (.int .i64 kk.a) ∧ w3.drew.cell? ⟨p, 2, none⟩ = some (.int .i64 kk.b) ∧ w3.drew.cell? ⟨g, 0, none⟩ = some (.map (some b))) := Lib.hid ⟨HK3.out.drew.cell 0 _ rfl, HK3.out.drew.cell 1 _ rfl, HK3.out.drew.cell 2 _ rfl, (HB3.out.cell (p := ⟨g, 0, none⟩) HBk.out.2.2).trans HRk.out.cell⟩
          clear z0 z2 z3 x0 x1 x2 xg hl1 HLk
          generalize Cn.commitC ch ts = c' at *
          generalize ch.length = nc at *
          go_region_held3 (fun w' => w'.cell? ⟨p, 0, none⟩ = some (.int .i64 kk.kind) ∧ w'.cell? ⟨p, 1, none⟩ = some (.int .i64 kk.a) ∧ w'.cell? ⟨p, 2, none⟩ = some (.int .i64 kk.b) ∧ w'.cell? ⟨g, 0, none⟩ = some (.map (some b)))
            (first | exact HS3.out | exact HS4.out | exact HS6.out | assumption)
            (first
              | (go_at_call 47; refine (HAb.out _ HB3d.out).mono ?_; rintro e w4 ⟨A4, n4, c4, rfl, h4, hb4⟩
                 have HB4 := Lib.hid (below_two HB3d.out hb4)
                 have HK4 := Lib.hid (HK1.out.step HB4.out)
                 obtain ⟨m, n', hm, hN⟩ := HPut.out w4 _ HB4.out h4
                 have HS4 : Hid (w4.cell? ⟨p, 0, none⟩ = some (.int .i64 kk.kind) ∧ w4.cell? ⟨p, 1, none⟩ = some (.int .i64 kk.a) ∧ w4.cell? ⟨p, 2, none⟩ = some (.int .i64 kk.b) ∧ w4.cell? ⟨g, 0, none⟩ = some (.map (some b))) := Lib.hid ⟨HK4.out.cell 0 _ rfl, HK4.out.cell 1 _ rfl, HK4.out.cell 2 _ rfl, (HB4.out.cell (p := ⟨g, 0, none⟩) HBk.out.2.2).trans HRk.out.cell⟩
                 obtain ⟨w6, hrun, h6, hg6⟩ := hm.put Try.underlying73 kk (.slice A4 n4 c4)
                 unfold keyA at hrun
                 have HR6 := Lib.hid (hN w6 h6 hg6)
                 have HW6 : Hid (wk.heap.size ≤ w6.heap.size) := Lib.hid (Nat.le_trans HB4.out.size hg6.size)
                 have HK6 := Lib.hid (HK4.out.keep (hg6.block _ HK4.out.lt (fun e => HBk.out.1 (by cases e; rfl))) hg6.size)
                 have HZ6 := Lib.hid (HZ.out w6 (fun r q => (hg6.block r (Nat.lt_of_lt_of_le (HP.out r q).1 HB4.out.size) (fun e => (HP.out r q).2.1 (by cases e; rfl))).trans (HB4.out.block r (HP.out r q).1)))
                 have HS6 : Hid (w6.cell? ⟨p, 0, none⟩ = some (.int .i64 kk.kind) ∧ w6.cell? ⟨p, 1, none⟩ = some (.int .i64 kk.a) ∧ w6.cell? ⟨p, 2, none⟩ = some (.int .i64 kk.b) ∧ w6.cell? ⟨g, 0, none⟩ = some (.map (some b))) := Lib.hid ⟨HK6.out.cell 0 _ rfl, HK6.out.cell 1 _ rfl, HK6.out.cell 2 _ rfl, HR6.out.cell⟩
                 clear h4 hb4 hm hN h6 hg6))
          all_goals (try go_wp2_with fail)
          have HSn : Hid (∀ W : World, (∀ r, P r ∨ r = p → W.heap[r]? = w6.heap[r]?) → W.cell? ⟨p, 0, none⟩ = some (.int .i64 kk.kind) ∧ W.cell? ⟨p, 1, none⟩ = some (.int .i64 kk.a) ∧ W.cell? ⟨p, 2, none⟩ = some (.int .i64 kk.b) ∧ W.cell? ⟨(ad.add (j * 4)).block, (ad.add (j * 4)).off + 2, none⟩ = some (.string u.val)) := Lib.hid (fun W hW => by
            have e1 := hW p (Or.inr rfl)
            have e2 := hW ad.block (Or.inl hPd)
            exact ⟨(World.cell?_of_block (a := ⟨p, 0, none⟩) e1).trans (HK6.out.cell 0 _ rfl), (World.cell?_of_block (a := ⟨p, 1, none⟩) e1).trans (HK6.out.cell 1 _ rfl), (World.cell?_of_block (a := ⟨p, 2, none⟩) e1).trans (HK6.out.cell 2 _ rfl), (World.cell?_of_block (a := ⟨(ad.add (j * 4)).block, (ad.add (j * 4)).off + 2, none⟩) (by rw [S.add_block]; exact e2)).trans HZ6.out.2.1⟩)
          have HSd6 := Lib.hid (HSn.out w6.drew (fun r q => rfl))
          have HWs : Hid (w6.heap.size ≤ (w6.alloc (.cells #[.int .i64 kk.kind, .int .i64 kk.a, .int .i64 kk.b, .string u.val] 64)).heap.size) := Lib.hid (by simp)
          have HPp : Hid (∀ r, P r ∨ r = p → r < w6.heap.size ∧ (Value.slice Aw L.length cw).ownBlock ≠ some r) := Lib.hid (fun r q => by
            have h6 := HK6.out.lt
            rcases q with q | rfl
            · exact ⟨by have := (HP.out r q).1; have := HW6.out; omega, (HP.out r q).2.2⟩
            · exact ⟨h6, HpW.out⟩)
          have HSa := Lib.hid (HSn.out (w6.alloc (.cells #[.int .i64 kk.kind, .int .i64 kk.a, .int .i64 kk.b, .string u.val] 64)).drew (fun r q => ((Below.refl w6.heap.size w6).alloc (Nat.le_refl _) (.cells #[.int .i64 kk.kind, .int .i64 kk.a, .int .i64 kk.b, .string u.val] 64)).block r (HPp.out r q).1))
          have hjnc : j < nc := hj
          clear HSd HAb HPut HSl hl
          go_region_held3 (fun w' => w'.cell? ⟨p, 0, none⟩ = some (.int .i64 kk.kind) ∧ w'.cell? ⟨p, 1, none⟩ = some (.int .i64 kk.a) ∧ w'.cell? ⟨p, 2, none⟩ = some (.int .i64 kk.b) ∧ w'.cell? ⟨(ad.add (j * 4)).block, (ad.add (j * 4)).off + 2, none⟩ = some (.string u.val))
            (first | with_reducible exact HSd6.out | with_reducible exact HSa.out | with_reducible exact HS5.out | with_reducible assumption)
            (first
              | (refine S.step_append_sg elWr (by rfl) _ _ (by rfl) (base := w1.heap.size) (n := L.length) (m := 1) (xs := L.flatMap clW) (cs := clW (kk, u.val)) (by rfl) (by rfl) (HR6.out.row.alloc (.cells #[.int .i64 kk.kind, .int .i64 kk.a, .int .i64 kk.b, .string u.val] 64)).drew (sg_row4 w6 64 #[.int .i64 kk.kind, .int .i64 kk.a, .int .i64 kk.b, .string u.val] rfl).drew (four_oneW _) (by omega) (by omega) (Nat.le_trans HR6.out.turn.size (by simp)) ?_
                 intro v5 w5 hown5 hgrow5 hblk5
                 have HR5 := Lib.hid (HR6.out.push (o := (.cells #[.int .i64 kk.kind, .int .i64 kk.a, .int .i64 kk.b, .string u.val] 64)) (p := (kk, u.val)) hown5 ⟨hgrow5.1, hgrow5.2, hgrow5.3, hgrow5.4, hgrow5.5⟩ hblk5)
                 have HS5 := Lib.hid (HSn.out w5 (fun r q => (hgrow5.block r (Nat.lt_of_lt_of_le (HPp.out r q).1 HWs.out) (fun e => (HPp.out r q).2 e.symm)).trans (((Below.refl w6.heap.size w6).alloc (Nat.le_refl _) (.cells #[.int .i64 kk.kind, .int .i64 kk.a, .int .i64 kk.b, .string u.val] 64)).block r (HPp.out r q).1)))
                 clear hown5 hgrow5 hblk5))
          all_goals (try go_wp2_with fail)
          go_roundw
          case rel => exact ⟨n + 1, _, by omega, by simp; omega, by go_num, HT2, Lib.hid (by rw [← HN.out]; exact HR5.out)⟩
          case measure => simp [intOf]; omega
    · obtain rfl : n = X.length := by omega
      have hlt' : ¬ (X.length : Int) < (X.length : Int) := by omega
      go_wp2
      go_ret
      have hr := HR.out
      rw [HE.out] at hr
      obtain ⟨⟨G, h1, h2, h3⟩, hrow, ht⟩ := hr
      obtain rfl : L = Cl.commitW X ts := HL.out.symm.trans HTe.out
      exact ⟨_, rfl, ⟨G, _, ⟨g, b, rfl, h1⟩, own_apart hrow h3, fun r q => (h2 r q).elim Or.inl (fun q => Or.inr ⟨Nat.le_trans HB1.out.size q.1, q.2⟩), fun r q => ⟨⟨Nat.le_trans HB1.out.size q.1.1, q.1.2⟩, q.2⟩, Turn.after HB1.out ht⟩⟩
end Go.Proofs.Ytpppjipelcfnkaa
