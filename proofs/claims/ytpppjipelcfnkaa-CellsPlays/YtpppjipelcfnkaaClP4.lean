/-
  The landed cells: the object beside a row of writes of the call's own (Rk); Abort.
-/
import Derived.Test.YtpppjipelcfnkaaClP3
namespace Go.Proofs.Ytpppjipelcfnkaa.Cl
open Cn (Ch mayB May)

theorem said_of {X : Cs} {k : Ky} {c : Ch} (h : Ord X) (hp : (k, c) ∈ X) : said X k = some c := by
  obtain ⟨d, hd⟩ := said_has hp
  have h1 := h.chain_mem hp
  rw [chain_said, hd] at h1
  have h1 : d = c := h1
  rw [hd, h1]
theorem upmap_ord {g : Ch → Ch} (hg : ∀ c, May c → May (g c)) {X : Cs} (h : Ord X) (n : Nat) : Ord (upmap g X n) := by
  have hu : (X.take n ++ X.drop n).Pairwise (fun p q => less p.1 q.1 = true) := by rw [List.take_append_drop]; exact h.up
  have hu := List.pairwise_append.1 hu
  unfold upmap
  refine ⟨List.pairwise_append.2 ⟨by rw [List.pairwise_map]; exact hu.1, hu.2.1, fun p hp q hq => ?_⟩, fun p hp => ?_⟩
  · obtain ⟨r, hr, rfl⟩ := List.mem_map.1 hp
    exact hu.2.2 r hr q hq
  · rcases List.mem_append.1 hp with hp | hp
    · obtain ⟨r, hr, rfl⟩ := List.mem_map.1 hp
      exact hg _ (h.may r ((List.take_sublist _ _).subset hr))
    · exact h.may p ((List.drop_sublist _ _).subset hp)
theorem upmap_said {g : Ch → Ch} (hg : ∀ c, May c → May (g c)) {X : Cs} (h : Ord X) {n : Nat} (hn : n < X.length) : said (upmap g X n) X[n].1 = some X[n].2 := by
  refine said_of (upmap_ord hg h n) ?_
  have hm : X[n] ∈ X.drop n := by rw [List.drop_eq_getElem_cons hn]; exact List.mem_cons_self
  exact List.mem_append_right _ hm
end Go.Proofs.Ytpppjipelcfnkaa.Cl

namespace Go.Proofs.Ytpppjipelcfnkaa
open Go.RowKit

/-- the object holds Y, in blocks of F and blocks made since w1; a row of writes of the call's own lies apart from it -/
structure Rk (w1 wr : World) (F : Nat → Prop) (g b : Nat) (wv : Value) (Y : Cl.Cs) (L : Cl.Ws) : Prop where
  obj : ∃ G : Nat → Prop, Hg wr G g b Y ∧ (∀ r, G r → More F w1 wr r) ∧ ∀ r, G r → wv.ownBlock ≠ some r
  row : wr.ownsRow w1.heap.size 64 4 wv L.length (L.flatMap clW)
  turn : Turn F w1 wr

section
variable {w1 wr w2 : World} {F : Nat → Prop} {g b : Nat} {wv : Value} {Y : Cl.Cs} {L : Cl.Ws}

theorem Rk.start (h : Hg w1 F g b Y) : Rk w1 w1 F g b (.slice none 0 0) Y [] := ⟨⟨F, h, fun _ => Or.inl, fun _ _ e => by cases e⟩, S.own_nil .., Turn.refl _ _⟩
theorem Rk.still (h : Rk w1 wr F g b wv Y L) (hb : Below wr.heap.size wr w2) : Rk w1 w2 F g b wv Y L := by
  obtain ⟨⟨G, h1, h2, h3⟩, hr, ht⟩ := h
  exact ⟨⟨G, h1.below hb, fun r q => more_more hb.size r (h2 r q), h3⟩, S.own_below hr hb, ht.trans' hb⟩
theorem Rk.cell (h : Rk w1 wr F g b wv Y L) : wr.cell? ⟨g, 0, none⟩ = some (.map (some b)) := by
  obtain ⟨⟨G, h1, _⟩, _⟩ := h
  exact h1.cell
theorem Rk.gb (h : Rk w1 wr F g b wv Y L) : g < wr.heap.size ∧ b < wr.heap.size ∧ g ≠ b := by
  obtain ⟨⟨G, h1, _⟩, _⟩ := h
  exact ⟨h1.lt _ h1.fg, h1.lt _ h1.fb, h1.ne⟩
/-- a write more in the row -/
theorem Rk.push (h : Rk w1 wr F g b wv Y L) {o : Obj} {v5 : Value} {p : Cl.Ky × ByteArray} (hown : w2.ownsRow w1.heap.size 64 4 v5 (L.length + 1) (L.flatMap clW ++ clW p)) (hg : (wr.alloc o).grownBy w2 wv.ownBlock)
    (hb : v5.ownBlock = wv.ownBlock ∨ v5.ownBlock = some (wr.alloc o).heap.size) : Rk w1 w2 F g b v5 Y (L ++ [p]) := by
  obtain ⟨⟨G, h1, h2, h3⟩, hr, ht⟩ := h
  have hza : (wr.alloc o).heap.size = wr.heap.size + 1 := by simp
  have hz := hg.size
  have hba : Below wr.heap.size wr (wr.alloc o) := (Below.refl _ _).alloc (Nat.le_refl _) o
  refine ⟨⟨G, (h1.below hba).keep (fun r q => hg.block r (by have := h1.lt r q; omega) (fun e => h3 r q e.symm)) hz, fun r q => more_more (by omega) r (h2 r q), fun r q e => ?_⟩, ?_, ?_⟩
  · rcases hb with hb | hb
    · exact h3 r q (hb.symm.trans e)
    · have := h1.lt r q
      rw [hb] at e
      cases e
      omega
  · rw [List.length_append, List.flatMap_append]
    simpa using hown
  · have hta := ht.trans' hba
    exact ⟨hg.os.trans hta.os, hg.tape.trans hta.tape, hg.output.trans hta.output, Nat.le_trans hta.size hz, fun k hk hF => (hg.block k (Nat.lt_of_lt_of_le hk hta.size) (fun e => by have := (World.ownsRow.lt hr k e.symm).1; omega)).trans (hta.block k hk hF)⟩
/-- what is said of a key; and another chain laid there -/
theorem Rk.step (h : Rk w1 wr F g b wv Y L) {k : Cl.Ky} {c c' : Cn.Ch} (hs : Cl.said Y k = some c) (hmay : Cn.mayB c' = true) : ∃ (P : Nat → Prop) (A : Option Addr) (cap : Nat), (∀ r, P r → r < wr.heap.size ∧ r ≠ b ∧ wv.ownBlock ≠ some r) ∧ SlC wr P (.slice A c.length cap) c ∧
    (∀ W, Below wr.heap.size wr W → (Instr.lookup 73 (.map (some b)) (.agg #[.int .i64 k.kind, .int .i64 k.a, .int .i64 k.b]) false).run Try.prog W = .ok (.slice A c.length cap) W) ∧
    ∀ (w5 : World) (vc : Value), Below wr.heap.size wr w5 → SlC w5 (fun r => P r ∨ S.New wr w5 r) vc c' → ∃ m n, Mk w5 b n m ∧ ∀ w6, Mk w6 b (n + 1) (fun k' => if k' = k then some vc else m k') → w5.grownBy w6 (some b) → Rk w1 w6 F g b wv (Cl.setX Y k c') L := by
  obtain ⟨⟨G, h1, h2, h3⟩, hr, ht⟩ := h
  obtain ⟨m, hm, hsay⟩ := h1.map
  have hS := hsay k
  rw [hs] at hS
  obtain ⟨vc0, hmk⟩ : ∃ vc, m k = some vc := by
    cases e : m k with
    | none => rw [e] at hS; exact hS.elim
    | some v => exact ⟨v, rfl⟩
  rw [hmk] at hS
  have hS : SlC wr (Chs G g b) vc0 c := hS
  obtain ⟨A, cap, rfl, _⟩ := SlC.form hS
  refine ⟨Chs G g b, A, cap, fun r q => ⟨h1.lt r q.1, q.2.2, h3 r q.1⟩, hS, fun W hW => ?_, fun w5 vc hb hv => ?_⟩
  · have := (Mk.look (hm.below hW) Try.underlying73 k (zeroSl _)).2
    rw [hmk] at this
    exact this
  · obtain ⟨m5, n5, hm5, hN⟩ := h1.laid (k := k) (c := c') (vc := vc) hb hmay (hv.wider (fun r q => q.elim (fun q => ⟨Or.inl q.1, q.2⟩) (h1.new_not (Nat.le_refl _) r)))
    refine ⟨m5, n5, hm5, fun w6 h6 hg6 => ?_⟩
    obtain ⟨hG6, ht6⟩ := hN w6 h6 hg6
    have hz : wr.heap.size ≤ w6.heap.size := ht6.size
    refine ⟨⟨More G wr w6, hG6, fun r q => q.elim (fun q => more_more hz r (h2 r q)) (fun q => Or.inr ⟨Nat.le_trans ht.size q.1, q.2⟩), fun r q e => ?_⟩, ?_, ht.trans ht6 h2⟩
    · have ho := (World.ownsRow.lt hr r e).2
      rcases q with q | q
      · exact h3 r q e
      · have := q.1; omega
    · refine World.ownsRow.kept (S.own_below hr hb) hg6 ?_
      rcases hr.2 with ⟨rfl, _⟩ | ⟨q, cap', cur, rfl, _⟩
      · exact Or.inl rfl
      · exact Or.inr (fun e => h3 b h1.fb (by rw [← e]))
end

set_option maxRecDepth 100000 in
set_option maxHeartbeats 8000000 in
theorem abort11 {w : World} {F : Nat → Prop} {v : Value} {X : Cl.Cs} (h : Hc w F v X) (hf : Cl.Fit 200 X) (ts : Int) (t0 : -9223372036854775808 ≤ ts) (t1 : ts ≤ 9223372036854775807) :
    Calls Try.prog 27 #[v, .int .i64 ts] w fun e w' => e = .returned (.tuple #[]) ∧ Hc w' (More F w w') v (Cl.abortX X ts) ∧ Turn F w w' := by
  obtain ⟨g, b, rfl, h⟩ := h
  have HH := Lib.hid h
  have HK := Lib.hid (keysG11 h hf)
  have hlen : X.length ≤ 200 := hf.len
  have HU := Lib.hid (fun n (hn : n < X.length) => Cl.upmap_succ (g := fun c => Cn.abortC c ts) (fun _ hc => Cn.may_abort hc ts) h.ord hn)
  have HE : Hid (Cl.upmap (fun c => Cn.abortC c ts) X X.length = Cl.abortX X ts) := Lib.hid (Cl.upmap_end _ _)
  have HZ := Lib.hid (Cl.upmap_zero (fun c => Cn.abortC c ts) X)
  have HSd := Lib.hid (fun n (hn : n < X.length) => Cl.upmap_said (g := fun c => Cn.abortC c ts) (fun _ hc => Cn.may_abort hc ts) h.ord hn)
  have HMy : Hid (∀ n (hn : n < X.length), X[n].2.length ≤ 1000 ∧ Cn.mayB (Cn.abortC X[n].2 ts) = true) := Lib.hid (fun n hn => ⟨by have := hf.ch _ (List.getElem_mem hn); omega, (Cn.mayB_iff _).2 (Cn.may_abort (h.ord.may _ (List.getElem_mem hn)) ts)⟩)
  generalize Cl.upmap (fun c => Cn.abortC c ts) X = U at *
  clear h
  go_enter Try.func27, Try.ntmps27
  go_wp2_with (go_at_call 13; refine HK.out.mono ?_; rintro e w1 ⟨A, cap, rfl, h1, hb1⟩; have H1 := Lib.hid h1; have HB1 := Lib.hid hb1; clear h1 hb1)
  go_loopw [9] (fun i wr => ∃ n : Nat, n ≤ X.length ∧ i = .int .i64 (n : Int) ∧ Hid (Rk w1 wr F g b (.slice none 0 0) (U n) [])) (fun i _ => X.length - (intOf i).toNat)
  case atStart => exact ⟨0, Nat.zero_le _, rfl, Lib.hid (by rw [HZ.out]; exact Rk.start (HH.out.below HB1.out))⟩
  case round =>
    obtain ⟨n, hn, rfl, HR⟩ := hrel
    by_cases hlt : n < X.length
    · have hlt' : (n : Int) < (X.length : Int) := by omega
      have hk0 : (0 : Int) ≤ (n : Int) := by omega
      have HT := Lib.hid HR.out.turn
      obtain ⟨a, rfl, hFa, y0, y1, y2⟩ := ky_at (S.Sg.keep H1.out (fun p hp => HT.out.cell hp.2 (fun q => by have := HH.out.lt _ q; have := hp.1; omega))) n hlt
      have hbk : Below wr.heap.size wr (wr.alloc (.cells #[.int .i64 X[n].1.kind, .int .i64 X[n].1.a, .int .i64 X[n].1.b] 31)) := (Below.refl _ _).alloc (Nat.le_refl _) _
      have HRk := Lib.hid (HR.out.still hbk)
      have HK1 := Lib.hid (Bk.new wr [.int .i64 X[n].1.kind, .int .i64 X[n].1.a, .int .i64 X[n].1.b] 31 rfl)
      obtain ⟨P, Ac, cc, hP, hsl, hlk, hput⟩ := HRk.out.step (HSd.out n hlt) (HMy.out n hlt).2
      have HAb : Hid (∀ W, Below (wr.alloc (.cells #[.int .i64 X[n].1.kind, .int .i64 X[n].1.a, .int .i64 X[n].1.b] 31)).heap.size (wr.alloc (.cells #[.int .i64 X[n].1.kind, .int .i64 X[n].1.a, .int .i64 X[n].1.b] 31)) W → Calls Try.prog 48 #[.slice Ac X[n].2.length cc, .int .i64 ts] W fun e w' => ∃ A' n' c', e = .returned (.slice A' n' c') ∧ SlC w' (fun r => P r ∨ S.New (wr.alloc (.cells #[.int .i64 X[n].1.kind, .int .i64 X[n].1.a, .int .i64 X[n].1.b] 31)) w' r) (.slice A' n' c') (Cn.abortC X[n].2 ts) ∧ Below W.heap.size W w') := Lib.hid (fun W hb =>
        (ok10.abort (hsl.below hb (fun r q => (hP r q).1)) (fun r q => Nat.lt_of_lt_of_le (hP r q).1 hb.size) (HMy.out n hlt).1 ts t0 t1).mono (fun e w' hh => by
          obtain ⟨v', rfl, h1, h2⟩ := hh
          obtain ⟨A', c', rfl, _⟩ := SlC.form h1
          exact ⟨A', _, c', rfl, h1.wider (fun r q => q.elim Or.inl (fun q => Or.inr ⟨Nat.le_trans hb.size q.1, q.2⟩)), h2⟩))
      have HPut := Lib.hid hput
      have hl1 := hlk _ (Below.drew (Below.refl _ _))
      have hgb := HR.out.gb
      have hcg := HRk.out.cell
      have HN := Lib.hid (HU.out n hlt)
      generalize Cn.abortC X[n].2 ts = c' at *
      generalize X[n].1 = kk at *
      generalize X[n].2.length = nc at *
      clear hlk hput hP hsl
      go_wp2_with fail
      generalize hwk : wr.alloc (.cells #[.int .i64 kk.kind, .int .i64 kk.a, .int .i64 kk.b] 31) = wk at *
      obtain ⟨p, hp⟩ : ∃ p, p = wr.heap.size := ⟨_, rfl⟩
      rw [← hp] at HK1 ⊢
      have HBk : Hid (p ≠ b ∧ g ≠ b ∧ g < wk.heap.size) := Lib.hid ⟨by omega, hgb.2.2, by have := hbk.size; omega⟩
      clear hwk hbk hp y0 y1 y2 hgb
      have HS3 : Hid (wk.drew.cell? ⟨p, 0, none⟩ = some (.int .i64 kk.kind) ∧ wk.drew.cell? ⟨p, 1, none⟩ = some (.int .i64 kk.a) ∧ wk.drew.cell? ⟨p, 2, none⟩ = some (.int .i64 kk.b) ∧ wk.drew.cell? ⟨g, 0, none⟩ = some (.map (some b))) := Lib.hid ⟨HK1.out.drew.cell 0 _ rfl, HK1.out.drew.cell 1 _ rfl, HK1.out.drew.cell 2 _ rfl, hcg⟩
      have HBd : Hid (Below wk.heap.size wk wk.drew) := Lib.hid (Below.drew (Below.refl _ _))
      clear hcg
      go_region_held3 (fun w' => w'.cell? ⟨p, 0, none⟩ = some (.int .i64 kk.kind) ∧ w'.cell? ⟨p, 1, none⟩ = some (.int .i64 kk.a) ∧ w'.cell? ⟨p, 2, none⟩ = some (.int .i64 kk.b) ∧ w'.cell? ⟨g, 0, none⟩ = some (.map (some b)))
        (first | exact HS3.out | exact HS4.out | exact HS6.out | assumption)
        (first
          | (go_at_call 48; refine (HAb.out _ HBd.out).mono ?_; rintro e w4 ⟨A4, n4, c4, rfl, h4, hb4⟩
             have HB4 := Lib.hid (below_two HBd.out hb4)
             have HK4 := Lib.hid (HK1.out.step HB4.out)
             obtain ⟨m, n', hm, hN⟩ := HPut.out w4 _ HB4.out h4
             have HS4 : Hid (w4.cell? ⟨p, 0, none⟩ = some (.int .i64 kk.kind) ∧ w4.cell? ⟨p, 1, none⟩ = some (.int .i64 kk.a) ∧ w4.cell? ⟨p, 2, none⟩ = some (.int .i64 kk.b) ∧ w4.cell? ⟨g, 0, none⟩ = some (.map (some b))) := Lib.hid ⟨HK4.out.cell 0 _ rfl, HK4.out.cell 1 _ rfl, HK4.out.cell 2 _ rfl, (HB4.out.cell (p := ⟨g, 0, none⟩) HBk.out.2.2).trans HRk.out.cell⟩
             obtain ⟨w6, hrun, h6, hg6⟩ := hm.put Try.underlying73 kk (.slice A4 n4 c4)
             unfold keyA at hrun
             have HR6 := Lib.hid (hN w6 h6 hg6)
             have HS6 : Hid (w6.cell? ⟨p, 0, none⟩ = some (.int .i64 kk.kind) ∧ w6.cell? ⟨p, 1, none⟩ = some (.int .i64 kk.a) ∧ w6.cell? ⟨p, 2, none⟩ = some (.int .i64 kk.b) ∧ w6.cell? ⟨g, 0, none⟩ = some (.map (some b))) := Lib.hid (by
               have HK6 := HK4.out.keep (hg6.block _ HK4.out.lt (fun e => HBk.out.1 (by cases e; rfl))) hg6.size
               exact ⟨HK6.cell 0 _ rfl, HK6.cell 1 _ rfl, HK6.cell 2 _ rfl, HR6.out.cell⟩)
             clear h4 hb4 hm hN h6 hg6))
      all_goals (try go_wp2_with fail)
      go_roundw
      case rel => exact ⟨n + 1, by omega, by go_num, Lib.hid (by rw [← HN.out]; exact HR6.out)⟩
      case measure => simp [intOf]; omega
    · obtain rfl : n = X.length := by omega
      have hlt' : ¬ (X.length : Int) < (X.length : Int) := by omega
      go_wp2
      go_end0
      have hr := HR.out
      rw [HE.out] at hr
      obtain ⟨⟨G, h1, h2, _⟩, _, ht⟩ := hr
      exact ⟨rfl, ⟨g, b, rfl, h1.wider (fun r q => (h2 r q).elim Or.inl (fun q => Or.inr ⟨Nat.le_trans HB1.out.size q.1, q.2⟩)) (more_lt HH.out.lt (Nat.le_trans HB1.out.size ht.size))⟩, Turn.after HB1.out ht⟩
end Go.Proofs.Ytpppjipelcfnkaa
