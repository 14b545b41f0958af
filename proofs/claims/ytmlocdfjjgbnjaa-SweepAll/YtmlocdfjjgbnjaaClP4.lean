/-
  The landed cells: the object beside a row of writes of the call's own (Rk); Abort.
-/
import Derived.Test.YtmlocdfjjgbnjaaClP3
namespace Go.Proofs.Ytmlocdfjjgbnjaa.Cl
open Cn (Ch mayB May)

theorem said_of {X : Cs} {k : Ky} {c : Ch} (h : Ord X) (hp : (k, c) ∈ X) : said X k = some c := by
  obtain ⟨d, hd⟩ := said_has hp
  have h1 := h.chain_mem hp
  rw [chain_said, hd] at h1
  have h1 : d = c := h1
  rw [hd, h1]
theorem upmap_ord {g : Ch → Ch} (hg : ∀ c, May c → May (g c)) {X : Cs} (h : Ord X) (n : Nat) : Ord (upmap g X n) := by
  have hu : (X.take n ++ X.drop n).Pairwise (fun p q => less p.1 q.1 = true) := by rw [List.take_append_drop]; exact h.up
  have hu := List.pairwise_append.1 hu
  unfold upmap
  refine ⟨List.pairwise_append.2 ⟨by rw [List.pairwise_map]; exact hu.1, hu.2.1, fun p hp q hq => ?_⟩, fun p hp => ?_⟩
  · obtain ⟨r, hr, rfl⟩ := List.mem_map.1 hp
    exact hu.2.2 r hr q hq
  · rcases List.mem_append.1 hp with hp | hp
    · obtain ⟨r, hr, rfl⟩ := List.mem_map.1 hp
      exact hg _ (h.may r ((List.take_sublist _ _).subset hr))
    · exact h.may p ((List.drop_sublist _ _).subset hp)
theorem upmap_said {g : Ch → Ch} (hg : ∀ c, May c → May (g c)) {X : Cs} (h : Ord X) {n : Nat} (hn : n < X.length) : said (upmap g X n) X[n].1 = some X[n].2 := by
  refine said_of (upmap_ord hg h n) ?_
  have hm : X[n] ∈ X.drop n := by rw [List.drop_eq_getElem_cons hn]; exact List.mem_cons_self
  exact List.mem_append_right _ hm
end Go.Proofs.Ytmlocdfjjgbnjaa.Cl

namespace Go.Proofs.Ytmlocdfjjgbnjaa
open Go.RowKit

/-- the object holds Y, in blocks of F and blocks made since w1; a row of writes of the call's own lies apart from it -/
structure Rk (w1 wr : World) (F : Nat → Prop) (g b : Nat) (wv : Value) (Y : Cl.Cs) (L : Cl.Ws) : Prop where
  obj : ∃ G : Nat → Prop, Hg wr G g b Y ∧ (∀ r, G r → More F w1 wr r) ∧ ∀ r, G r → wv.ownBlock ≠ some r
  row : wr.ownsRow w1.heap.size 96 4 wv L.length (L.flatMap clW)
  turn : Turn F w1 wr

section
variable {w1 wr w2 : World} {F : Nat → Prop} {g b : Nat} {wv : Value} {Y : Cl.Cs} {L : Cl.Ws}

theorem Rk.start (h : Hg w1 F g b Y) : Rk w1 w1 F g b (.slice none 0 0) Y [] := ⟨⟨F, h, fun _ => Or.inl, fun _ _ e => by cases e⟩, S.own_nil .., Turn.refl _ _⟩
theorem Rk.still (h : Rk w1 wr F g b wv Y L) (hb : Below wr.heap.size wr w2) : Rk w1 w2 F g b wv Y L := by
  obtain ⟨⟨G, h1, h2, h3⟩, hr, ht⟩ := h
  exact ⟨⟨G, h1.below hb, fun r q => more_more hb.size r (h2 r q), h3⟩, S.own_below hr hb, ht.trans' hb⟩
theorem Rk.cell (h : Rk w1 wr F g b wv Y L) : wr.cell? ⟨g, 0, none⟩ = some (.map (some b)) := by
  obtain ⟨⟨G, h1, _⟩, _⟩ := h
  exact h1.cell
theorem Rk.gb (h : Rk w1 wr F g b wv Y L) : g < wr.heap.size ∧ b < wr.heap.size ∧ g ≠ b := by
  obtain ⟨⟨G, h1, _⟩, _⟩ := h
  exact ⟨h1.lt _ h1.fg, h1.lt _ h1.fb, h1.ne⟩
/-- a write more in the row -/
theorem Rk.push (h : Rk w1 wr F g b wv Y L) {o : Obj} {v5 : Value} {p : Cl.Ky × ByteArray} (hown : w2.ownsRow w1.heap.size 96 4 v5 (L.length + 1) (L.flatMap clW ++ clW p)) (hg : (wr.alloc o).grownBy w2 wv.ownBlock)
    (hb : v5.ownBlock = wv.ownBlock ∨ v5.ownBlock = some (wr.alloc o).heap.size) : Rk w1 w2 F g b v5 Y (L ++ [p]) := by
  obtain ⟨⟨G, h1, h2, h3⟩, hr, ht⟩ := h
  have hza : (wr.alloc o).heap.size = wr.heap.size + 1 := by simp
  have hz := hg.size
  have hba : Below wr.heap.size wr (wr.alloc o) := (Below.refl _ _).alloc (Nat.le_refl _) o
  refine ⟨⟨G, (h1.below hba).keep (fun r q => hg.block r (by have := h1.lt r q; omega) (fun e => h3 r q e.symm)) hz, fun r q => more_more (by omega) r (h2 r q), fun r q e => ?_⟩, ?_, ?_⟩
  · rcases hb with hb | hb
    · exact h3 r q (hb.symm.trans e)
    · have := h1.lt r q
      rw [hb] at e
      cases e
      omega
  · rw [List.length_append, List.flatMap_append]
    simpa using hown
  · have hta := ht.trans' hba
    exact ⟨hg.os.trans hta.os, hg.tape.trans hta.tape, hg.output.trans hta.output, Nat.le_trans hta.size hz, fun k hk hF => (hg.block k (Nat.lt_of_lt_of_le hk hta.size) (fun e => by have := (World.ownsRow.lt hr k e.symm).1; omega)).trans (hta.block k hk hF)⟩
/-- what is said of a key; and another chain laid there -/
theorem Rk.step (h : Rk w1 wr F g b wv Y L) {k : Cl.Ky} {c c' : Cn.Ch} (hs : Cl.said Y k = some c) (hmay : Cn.mayB c' = true) : ∃ (P : Nat → Prop) (A : Option Addr) (cap : Nat), (∀ r, P r → r < wr.heap.size ∧ r ≠ b ∧ wv.ownBlock ≠ some r) ∧ SlC wr P (.slice A c.length cap) c ∧
    (∀ W, Below wr.heap.size wr W → (Instr.lookup 90 (.map (some b)) (.agg #[.int .i64 k.kind, .int .i64 k.a, .int .i64 k.b]) false).run Try.prog W = .ok (.slice A c.length cap) W) ∧
    ∀ (w5 : World) (vc : Value), Below wr.heap.size wr w5 → SlC w5 (fun r => P r ∨ S.New wr w5 r) vc c' → ∃ m n, Mk w5 b n m ∧ ∀ w6, Mk w6 b (n + 1) (fun k' => if k' = k then some vc else m k') → w5.grownBy w6 (some b) → Rk w1 w6 F g b wv (Cl.setX Y k c') L := by
  obtain ⟨⟨G, h1, h2, h3⟩, hr, ht⟩ := h
  obtain ⟨m, hm, hsay⟩ := h1.map
  have hS := hsay k
  rw [hs] at hS
  obtain ⟨vc0, hmk⟩ : ∃ vc, m k = some vc := by
    cases e : m k with
    | none => rw [e] at hS; exact hS.elim
    | some v => exact ⟨v, rfl⟩
  rw [hmk] at hS
  have hS : SlC wr (Chs G g b) vc0 c := hS
  obtain ⟨A, cap, rfl, _⟩ := SlC.form hS
  refine ⟨Chs G g b, A, cap, fun r q => ⟨h1.lt r q.1, q.2.2, h3 r q.1⟩, hS, fun W hW => ?_, fun w5 vc hb hv => ?_⟩
  · have := (Mk.look (hm.below hW) Try.underlying90 k (zeroSl _)).2
    rw [hmk] at this
    exact this
  · obtain ⟨m5, n5, hm5, hN⟩ := h1.laid (k := k) (c := c') (vc := vc) hb hmay (hv.wider (fun r q => q.elim (fun q => ⟨Or.inl q.1, q.2⟩) (h1.new_not (Nat.le_refl _) r)))
    refine ⟨m5, n5, hm5, fun w6 h6 hg6 => ?_⟩
    obtain ⟨hG6, ht6⟩ := hN w6 h6 hg6
    have hz : wr.heap.size ≤ w6.heap.size := ht6.size
    refine ⟨⟨More G wr w6, hG6, fun r q => q.elim (fun q => more_more hz r (h2 r q)) (fun q => Or.inr ⟨Nat.le_trans ht.size q.1, q.2⟩), fun r q e => ?_⟩, ?_, ht.trans ht6 h2⟩
    · have ho := (World.ownsRow.lt hr r e).2
      rcases q with q | q
      · exact h3 r q e
      · have := q.1; omega
    · refine World.ownsRow.kept (S.own_below hr hb) hg6 ?_
      rcases hr.2 with ⟨rfl, _⟩ | ⟨q, cap', cur, rfl, _⟩
      · exact Or.inl rfl
      · exact Or.inr (fun e => h3 b h1.fb (by rw [← e]))
end

end Go.Proofs.Ytmlocdfjjgbnjaa
