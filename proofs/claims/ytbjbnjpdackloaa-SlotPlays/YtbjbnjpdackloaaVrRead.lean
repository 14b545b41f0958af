/-
  The program's disk: a sector read.
-/
import Derived.Test.YtbjbnjpdackloaaVrNewest
namespace Go.Proofs.Ytbjbnjpdackloaa
open Go.RowKit

theorem own_whole {w : World} {base k n g : Nat} {e : TypeId} {xs : List Value} (h : w.ownsRow base e k (.slice (some ⟨g, 0, none⟩) n n) n xs) : w.heap[g]? = some (.cells xs.toArray e (0, 0)) := by
  rcases h.2 with ⟨h1, _⟩ | ⟨g', cap, cur, he, _, hg, _, _, h1, h2⟩
  · cases h1
  · cases he
    rw [hg, ← h2, List.take_of_length_le (by simp; omega)]

theorem splice_all {α : Type} (Z cs : List α) (h : Z.length = cs.length) : splice Z 0 cs = cs := by
  rw [splice, List.take_zero, List.nil_append, Nat.zero_add, ← h, List.drop_length, List.append_nil]

theorem sg_block {w : World} {F : Nat → Prop} {g : Nat} {e : TypeId} {l : List UInt8} {n : Nat} (hn : n = l.length) (hg : w.heap[g]? = some (.cells (bytesV l).toArray e (0, 0))) (hF : F g) : SlB w F (.slice (some ⟨g, 0, none⟩) n n) l := by
  subst hn
  refine ⟨by rw [bytesV_length]; simp, _, _, rfl, Nat.le_refl _, fun _ => ⟨_, rfl, hF, fun j u hj => ?_⟩⟩
  rw [Addr.add_lit, Nat.zero_add]
  simp [World.cell?, hg, hj]

theorem Try.info5b : (Try.prog.info? 5).map (fun i => (i.zero, i.size, i.bytes)) = some (some (.int .u8 0), 1, 1) := by kernel_rfl
theorem Try.size5 : (Try.prog.info? 5).map (·.size) = some 1 := by kernel_rfl

theorem below_none {w w' : World} (h : w.grownBy w' none) : Below w.heap.size w w' := (Below.refl _ _).grown h (Nat.le_refl _) (fun j hj => by cases hj)

theorem Hd.below {w w' : World} {F : Nat → Prop} {v : Value} {d : D.Dk} (h : Hd w F v d) (hb : Below w.heap.size w w') : Hd w' F v d := by
  obtain ⟨p, vs, vr, e, h⟩ := h
  exact ⟨p, vs, vr, e, h.keep (fun b g => hb.block b (h.lt b g)) hb.size⟩

/-- bytes that lie at a place, as a slice -/
theorem sg_range {w : World} {b o n cap : Nat} {l : List UInt8} (hn : n = l.length) (h : w.rangeAt b o (bytesV l)) (hc : n ≤ cap := by decide) : SlB w (fun _ => True) (.slice (some ⟨b, o, none⟩) n cap) l := by
  subst hn
  refine ⟨by rw [bytesV_length]; simp, _, _, rfl, hc, fun _ => ⟨_, rfl, trivial, fun j u hj => ?_⟩⟩
  rw [Addr.add_mid]
  exact h j u hj

/-- 'copy' of all of a slice of bytes into the block g, from off on -/
theorem copy_run {w : World} {F : Nat → Prop} {g off : Nat} {cur : Array Value} {t : TypeId} {v : Value} {l : List UInt8} (ty : TypeId) (dLen dCap : Nat) (hg : w.heap[g]? = some (.cells cur t (0, 0))) (h : SlB w F v l) (hl : l.length ≤ dLen) (hfit : off + l.length ≤ cur.size) :
    ∃ w3 r, (Builtin.copy_ #[37, 37] ty #[.slice (some ⟨g, off, none⟩) dLen dCap, v]).run Try.prog w = .ok r w3 ∧ w3.heap[g]? = some (.cells (splice cur.toList off (bytesV l)).toArray t (0, 0)) ∧ Turn (fun b => b = g) w w3 := by
  obtain ⟨_, A, cap, rfl, hc, hx⟩ := h
  by_cases h0 : l.length = 0
  · obtain rfl : l = [] := List.length_eq_zero_iff.1 h0
    refine ⟨w, _, run_copy_none (P := Try.prog) w 37 37 ty 5 _ _ dLen dCap 0 cap Try.underlying37 Try.size5 (by simp [Nat.min]), ?_, Turn.of_below (Below.refl _ _)⟩
    rw [hg]
    simp [splice, bytesV]
  · obtain ⟨a, rfl, _, hx⟩ := hx h0
    have e : (bytesV l).length = Nat.min l.length dLen := by rw [bytesV_length]; exact (Nat.min_eq_left hl).symm
    refine ⟨_, _, run_copy_row (P := Try.prog) w 37 37 ty 5 g off dLen dCap a l.length cap cur t (bytesV l) Try.underlying37 Try.size5 hg e hx (by rw [bytesV_length]; exact hfit) (bytesV_one l), ?_, ?_⟩
    · rw [splice, ← List.append_assoc]; exact setRow_heap w g cur _ t _ hg
    · exact ⟨rfl, rfl, rfl, by simp [World.setRow], fun k _ hk => setRow_other w g k _ hk⟩

set_option maxRecDepth 100000 in
set_option maxHeartbeats 1000000 in
theorem read_yes {w : World} {F : Nat → Prop} {v : Value} {d : D.Dk} (h : Hd w F v d) (i : Nat) (hi : i < d.secs.length) :
    Calls Try.prog 24 #[v, .int .i64 i] w fun e w' => ∃ vb, e = .returned (.tuple #[vb, .int .i64 0]) ∧ SlB w' (S.New w w') vb (d.read i) ∧ Below w.heap.size w w' := by
  obtain ⟨i5, hi5, hz0, hz1, hz2⟩ := info_parts Try.info5b
  have HB := Lib.hid (show i5.bytes * 64 ≤ 281474976710656 by rw [hz2]; decide)
  have hfit : d.Fit := by obtain ⟨p, vs, vr, e, h⟩ := h; exact h.fit
  have hrl := hfit.read_len hi
  have HH := Lib.hid (has_any h (i : Int))
  rw [show decide (d.there (i : Int)) = true from decide_eq_true ⟨by omega, by omega⟩] at HH
  have HD := Lib.hid h
  obtain ⟨p, vs, vr, rfl, _⟩ := h
  go_enter Try.func24, Try.ntmps24
  go_wp2_with fail
  refine HH.out.mono ?_
  rintro e w0 ⟨rfl, rfl⟩
  clear HH
  go_wp2_with (at_make; refine wpList_make_full _ rfl _ _ 37 rfl w0.heap.size 5 i5 (.int .u8 0) 1 Try.underlying37 hi5 hz0 hz1 .i64 .i64 64 64 64 rfl rfl rfl rfl HB.out (by decide) (Nat.le_refl _) ?_)
  intro w1 hown hgrow
  have hb1 := below_none hgrow
  have hlt1 := (World.ownsRow.lt hown _ rfl).2
  obtain ⟨Z, hZl, hg1⟩ : ∃ Z : Array Value, Z.size = 64 ∧ Hid (w1.heap[w0.heap.size]? = some (.cells Z 5 (0, 0))) := ⟨_, by simp [size_madeCells], Lib.hid (own_whole hown)⟩
  clear hown hgrow
  have HN := Lib.hid (newest_any (HD.out.below hb1) i hi)
  go_wp2_with fail
  refine HN.out.mono ?_
  rintro e w2 ⟨b, o, rfl, hr, rfl⟩
  have HR := Lib.hid hr
  clear HN hr
  have HC := Lib.hid (HR.out)
  obtain ⟨w3, r, hrun, hg3, ht3⟩ := copy_run (off := 0) 3 64 64 hg1.out (sg_range (n := 64) (cap := 64) hrl.symm HR.out) (by omega) (by omega)
  rw [splice_all Z.toList _ (by rw [bytesV_length, Array.length_toList]; omega)] at hg3
  have hs3 := ht3.size
  have HG := Lib.hid hg3
  have hb3 : Below w0.heap.size w0 w3 := hb1.trans (ht3.below (by omega) (fun b hb => by omega))
  clear hg3 HC HR ht3
  go_wp2
  go_ret2
  exact ⟨_, rfl, sg_block hrl.symm HG.out ⟨Nat.le_refl _, by omega⟩, hb3⟩

end Go.Proofs.Ytbjbnjpdackloaa
