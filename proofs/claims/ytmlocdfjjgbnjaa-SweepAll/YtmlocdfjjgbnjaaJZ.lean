/-
  Walks of the document's cells: Abort, Commit.
  Walks of the document's cells: Commit.
  Walks of the document's cells: Newest, Writes.
  Walks of the document's cells: Writes (of what is the same); writes held against themselves.
-/
import Derived.Test.YtmlocdfjjgbnjaaJX
namespace Go.Proofs.Ytmlocdfjjgbnjaa.Cl
/-- the first n chains are done -/
def upmap (g : Cn.Ch → Cn.Ch) (X : Cs) (n : Nat) : Cs := (X.take n).map (fun p => (p.1, g p.2)) ++ X.drop n
theorem upmap_len (g : Cn.Ch → Cn.Ch) (X : Cs) (n : Nat) : (upmap g X n).length = X.length := by
  unfold upmap
  simp only [List.length_append, List.length_map, List.length_take, List.length_drop]
  omega
theorem upmap_zero (g : Cn.Ch → Cn.Ch) (X : Cs) : upmap g X 0 = X := by simp [upmap]
theorem upmap_end (g : Cn.Ch → Cn.Ch) (X : Cs) : upmap g X X.length = X.map (fun p => (p.1, g p.2)) := by simp [upmap]
theorem upmap_succ {g : Cn.Ch → Cn.Ch} (hg : ∀ c, Cn.May c → Cn.May (g c)) {X : Cs} (h : Ord X) {n : Nat} (hn : n < X.length) : setX (upmap g X n) X[n].1 (g X[n].2) = upmap g X (n + 1) := by
  have e : X = X.take n ++ (X[n].1, X[n].2) :: X.drop (n + 1) := by
    have : (X[n].1, X[n].2) = X[n] := rfl
    rw [this, ← List.drop_eq_getElem_cons hn, List.take_append_drop]
  have h2 : Ord (X.take n ++ (X[n].1, X[n].2) :: X.drop (n + 1)) := by rw [← e]; exact h
  have := set_map g hg h2
  unfold upmap
  rw [List.take_succ_eq_append_getElem hn, List.drop_eq_getElem_cons hn]
  exact this
theorem alen (c : Cn.Ch) (ts : Int) : (Cn.abortC c ts).length ≤ c.length := by
  unfold Cn.abortC
  split
  · exact List.length_filter_le ..
  · omega
end Go.Proofs.Ytmlocdfjjgbnjaa.Cl

namespace Go.Proofs.Ytmlocdfjjgbnjaa
open Go.RowKit

end Go.Proofs.Ytmlocdfjjgbnjaa

namespace Go.Proofs.Ytmlocdfjjgbnjaa.Cl
abbrev Ws := List (Ky × ByteArray)
def toldIn (k : Ky) (ts : Int) (c : Cn.Ch) : Ws := (c.filter (undone ts)).map (fun v => (k, v.val))
theorem told_succ {X : Cs} {ts : Int} {n : Nat} (hn : n < X.length) : (X.take (n + 1)).flatMap (tells ts) = (X.take n).flatMap (tells ts) ++ toldIn X[n].1 ts X[n].2 := by
  rw [List.take_succ_eq_append_getElem hn, List.flatMap_append]
  congr 1
  simp [tells, toldIn]
theorem toldIn_succ {k : Ky} {ts : Int} {c : Cn.Ch} {m : Nat} (hm : m < c.length) : toldIn k ts (c.take (m + 1)) = toldIn k ts (c.take m) ++ (if undone ts c[m] = true then [(k, c[m].val)] else []) := by
  unfold toldIn
  rw [List.take_succ_eq_append_getElem hm, List.filter_append, List.map_append]
  congr 1
  by_cases h : undone ts c[m] = true
  · rw [if_pos h]; simp [h]
  · rw [if_neg h]; simp [h]
end Go.Proofs.Ytmlocdfjjgbnjaa.Cl

namespace Go.Proofs.Ytmlocdfjjgbnjaa
open Go.RowKit

/-- the four cells of a key and what it has -/
def clW (p : Cl.Ky × ByteArray) : List Value := [.int .i64 p.1.kind, .int .i64 p.1.a, .int .i64 p.1.b, .string p.2]
theorem elWr : S.El Try.prog 67 96 4 40 := by
  obtain ⟨i0, hi, hz0, hz1, hz2⟩ := info_parts (show (Try.prog.info? 96).map (fun i => (i.zero, i.size, i.bytes)) = some (some (.agg #[.int .i64 0, .int .i64 0, .int .i64 0, .string ⟨#[]⟩]), 4, 40) by kernel_rfl)
  exact ⟨Try.underlying67, ⟨i0, _, hi, hz0, hz1, hz2, rfl⟩, by decide⟩
theorem four_oneW (p : Cl.Ky × ByteArray) : ∀ x ∈ clW p, x.oneCell' = true := by
  intro u hu
  simp only [clW, List.mem_cons, List.not_mem_nil, or_false] at hu
  rcases hu with rfl | rfl | rfl | rfl <;> rfl

/-- cells, and a row of writes of one's own apart from them -/
structure Rw12 (w wr : World) (F : Nat → Prop) (r wv : Value) (Y : Cl.Cs) (L : Cl.Ws) : Prop where
  cls : ∃ G : Nat → Prop, Cls wr G r Y ∧ (∀ b, G b → F b ∨ S.New w wr b) ∧ (∀ b, G b → wv.ownBlock ≠ some b)
  row : wr.ownsRow w.heap.size 96 4 wv L.length (L.flatMap clW)
  low : Below w.heap.size w wr

section
variable {w wr w2 : World} {F : Nat → Prop} {r wv : Value} {Y : Cl.Cs} {L : Cl.Ws}
theorem Rw12.start (h : Cls w F r Y) : Rw12 w w F r (.slice none 0 0) Y [] := ⟨⟨F, h, fun _ q => Or.inl q, fun b _ e => by cases e⟩, S.own_nil .., Below.refl _ _⟩
theorem Rw12.still (h : Rw12 w wr F r wv Y L) (hF : ∀ b, F b → b < w.heap.size) (hb : Below wr.heap.size wr w2) : Rw12 w w2 F r wv Y L := by
  obtain ⟨⟨G, hc, hs, hf⟩, hr, hl⟩ := h
  have hz := hb.size
  have hG : ∀ b, G b → b < wr.heap.size := fun b q => (hs b q).elim (fun q => Nat.lt_of_lt_of_le (hF b q) hl.size) (fun q => q.2)
  exact ⟨⟨G, hc.below hb hG, fun b q => (hs b q).elim Or.inl (fun q => Or.inr ⟨q.1, Nat.lt_of_lt_of_le q.2 hz⟩), hf⟩, S.own_below hr hb, below_two hl hb⟩
theorem Rw12.push (h : Rw12 w wr F r wv Y L) (hF : ∀ b, F b → b < w.heap.size) {o : Obj} {v5 : Value} {p : Cl.Ky × ByteArray}
    (hown : w2.ownsRow w.heap.size 96 4 v5 (L.length + 1) (L.flatMap clW ++ clW p)) (hg : (wr.alloc o).grownBy w2 wv.ownBlock) (hb : v5.ownBlock = wv.ownBlock ∨ v5.ownBlock = some (wr.alloc o).heap.size) : Rw12 w w2 F r v5 Y (L ++ [p]) := by
  obtain ⟨⟨G, hc, hs, hf⟩, hr, hl⟩ := h
  have hza : (wr.alloc o).heap.size = wr.heap.size + 1 := by simp
  have hz := hg.size
  have hG : ∀ b, G b → b < wr.heap.size := fun b q => (hs b q).elim (fun q => Nat.lt_of_lt_of_le (hF b q) hl.size) (fun q => q.2)
  have hba : Below wr.heap.size wr (wr.alloc o) := (Below.refl _ _).alloc (Nat.le_refl _) o
  refine ⟨⟨G, (hc.below hba hG).keep (fun q hq => World.cell?_of_block (hg.block q.block (by have := hG _ hq; omega) (fun e => hf _ hq e.symm))), fun b q => (hs b q).elim Or.inl (fun q => Or.inr ⟨q.1, by have := q.2; omega⟩), fun b q e => ?_⟩, ?_, ?_⟩
  · rcases hb with hb | hb
    · exact hf b q (hb.symm.trans e)
    · have := hG b q
      rw [hb] at e
      cases e
      omega
  · rw [List.length_append, List.flatMap_append]
    simpa using hown
  · exact (hl.trans (hba.mono hl.size)).trans (S.below_base (hr.alloc o) (by have := hl.size; omega) hg)
end

end Go.Proofs.Ytmlocdfjjgbnjaa

namespace Go.Proofs.Ytmlocdfjjgbnjaa.Cl
def nw (p : Ky × Cn.Ch) : Ws := if lastV ByteArray.empty p.2 = ByteArray.empty then [] else [(p.1, lastV ByteArray.empty p.2)]
theorem newest_eq (X : Cs) : newest X = X.flatMap nw := rfl
theorem nw_succ {X : Cs} {n : Nat} (hn : n < X.length) : (X.take (n + 1)).flatMap nw = (X.take n).flatMap nw ++ nw X[n] := by
  rw [List.take_succ_eq_append_getElem hn, List.flatMap_append]
  simp
theorem lastV_succ {c : Cn.Ch} {m : Nat} (hm : m < c.length) : lastV ByteArray.empty (c.take (m + 1)) = if c[m].done = true then c[m].val else lastV ByteArray.empty (c.take m) := by
  unfold lastV
  rw [List.take_succ_eq_append_getElem hm, List.foldl_append]
  rfl
end Go.Proofs.Ytmlocdfjjgbnjaa.Cl

namespace Go.Proofs.Ytmlocdfjjgbnjaa
open Go.RowKit

end Go.Proofs.Ytmlocdfjjgbnjaa

namespace Go.Proofs.Ytmlocdfjjgbnjaa
open Go.RowKit

theorem undWr : Try.prog.underlying 96 = some (.struct (Try.prog.fieldsOf 96)) := by kernel_rfl
theorem heldWr : Try.prog.stoodInHeld 96 = false := by kernel_rfl
set_option maxRecDepth 100000 in
theorem run_partK (a b c : Int) (s : ByteArray) (w : World) : (part 50 #[.int .i64 a, .int .i64 b, .int .i64 c, .string s] 0).run Try.prog w = .ok (.agg #[.int .i64 a, .int .i64 b, .int .i64 c]) w := by
  have ha : (isAgg 50).run Try.prog w = .ok true w := by
    simp only [isAgg, Sem.run_bind, run_underlying undKy, Result.andThen_ok]
    rfl
  obtain ⟨i0, hi, _, hs, _⟩ := info_parts (show (Try.prog.info? 50).map (fun i => (i.zero, i.size, i.bytes)) = some (some (.agg #[.int .i64 0, .int .i64 0, .int .i64 0]), 3, 24) by kernel_rfl)
  have hz : (sizeOf 50).run Try.prog w = .ok 3 w := by
    have := run_sizeOf w hi
    rw [this]
    congr 1
  simp only [part, Sem.run_bind, ha, Result.andThen_ok, if_true, hz]
  rfl
set_option maxRecDepth 100000 in
theorem neqW_self (x : Cl.Ky) (s : ByteArray) (w : World) : (binOp .neq 96 (.agg #[.int .i64 x.kind, .int .i64 x.a, .int .i64 x.b, .string s]) (.agg #[.int .i64 x.kind, .int .i64 x.a, .int .i64 x.b, .string s])).run Try.prog w = .ok (.bool false) w := by
  have e : (Op.equalIn 10000 96 (.agg #[.int .i64 x.kind, .int .i64 x.a, .int .i64 x.b, .string s]) (.agg #[.int .i64 x.kind, .int .i64 x.a, .int .i64 x.b, .string s])).run Try.prog w = .ok true w := by
    rw [run_equalIn_agg w 9999 _ _ _ undWr heldWr]
    obtain ⟨f0, f1, hf, h0, h1⟩ : ∃ f0 f1 : Field, (Try.prog.fieldsOf 96).toList = [f0, f1] ∧ (f0.name, f0.type, f0.offset) = ("K", 50, 0) ∧ (f1.name, f1.type, f1.offset) = ("V", 9, 3) := ⟨_, _, rfl, rfl, rfl⟩
    rw [hf]
    simp only [Prod.mk.injEq] at h0 h1
    have p0 := fun (w : World) => run_partK x.kind x.a x.b s w
    have p1 := fun (w : World) => run_part10 (P := Try.prog) (t := 9) Try.underlying9 rfl (xs := #[.int .i64 x.kind, .int .i64 x.a, .int .i64 x.b, .string s]) (off := 3) (v := .string s) rfl w
    have e0 := fun (w : World) => equalIn_key 9997 x x w
    have e1 := fun (w : World) => run_equalIn_string (P := Try.prog) w 9998 9 s s Try.underlying9
    have n0 : "K" ≠ "_" := by decide
    have n1 : "V" ≠ "_" := by decide
    simp only [Op.eqFields, h0, h1, if_pos n0, if_pos n1, Sem.run_bind, p0, p1, Result.andThen_ok, e0, e1, Cl.same_self, beq_self_eq_true, Bool.not_true, Bool.false_eq_true, if_false, Sem.run_pure]
  rw [run_neq_struct, e]; rfl

/-- one write of a row -/
theorem wr_nth {w : World} {F : Nat → Prop} {v : Value} {L : Cl.Ws} (h : S.Sg w F 4 v L.length (L.flatMap clW)) (i : Nat) (hi : i < L.length) : ∃ a cap, v = .slice (some a) L.length cap ∧ L.length ≤ cap ∧ F a.block ∧
    w.cell? (a.add (i * 4)) = some (.int .i64 L[i].1.kind) ∧ w.cell? ⟨(a.add (i * 4)).block, (a.add (i * 4)).off + 1, none⟩ = some (.int .i64 L[i].1.a) ∧ w.cell? ⟨(a.add (i * 4)).block, (a.add (i * 4)).off + 2, none⟩ = some (.int .i64 L[i].1.b) ∧ w.cell? ⟨(a.add (i * 4)).block, (a.add (i * 4)).off + 3, none⟩ = some (.string L[i].2) := by
  obtain ⟨hl0, A, cap, e, hc, hx⟩ := h
  obtain ⟨a, rfl, hF, hx⟩ := hx (by intro e; rw [e] at hi; simp at hi)
  have q (j : Nat) (hj : j < 4) : w.cell? (a.add (i * 4 + j)) = (clW L[i])[j]? := by
    have := V.flat_at (f := clW) (m := 4) L (fun _ _ => rfl) i hi j hj
    rw [← this]
    have hl : i * 4 + j < (L.flatMap clW).length := by rw [hl0]; omega
    rw [hx (i * 4 + j) _ (List.getElem?_eq_getElem hl)]
    exact (List.getElem?_eq_getElem hl).symm
  have e1 : ∀ (p : Addr) (j : Nat), (⟨p.block, p.off + (j + 1), none⟩ : Addr) = p.add (j + 1) := fun p j => by simp [Addr.add]
  refine ⟨a, cap, e, hc, hF, q 0 (by decide), ?_, ?_, ?_⟩
  · rw [e1 _ 0, S.add_add]; exact q 1 (by decide)
  · rw [e1 _ 1, S.add_add]; exact q 2 (by decide)
  · rw [e1 _ 2, S.add_add]; exact q 3 (by decide)
theorem wr_form {w : World} {F : Nat → Prop} {v : Value} {L : Cl.Ws} (h : S.Sg w F 4 v L.length (L.flatMap clW)) : ∃ A cap, v = .slice A L.length cap ∧ L.length ≤ cap := by
  obtain ⟨_, A, cap, e, hc, _⟩ := h
  exact ⟨A, cap, e, hc⟩

set_option maxRecDepth 100000 in
set_option maxHeartbeats 4000000 in
theorem rwrites11_any {w : World} {F G : Nat → Prop} {va vb : Value} {L : Cl.Ws} (ha : S.Sg w F 4 va L.length (L.flatMap clW)) (hb : S.Sg w G 4 vb L.length (L.flatMap clW)) (hl : L.length ≤ 10000000) : Calls Try.prog 31 #[va, vb] w fun e w' => e = .returned (.bool true) ∧ Still w w' := by
  have HA := Lib.hid ha
  have HB := Lib.hid hb
  obtain ⟨A, capa, rfl, hca⟩ := wr_form ha
  obtain ⟨B, capb, rfl, hcb⟩ := wr_form hb
  clear ha hb
  go_enter Try.func31, Try.ntmps31
  go_wp2
  go_loopw [5] (fun i wr => ∃ k : Nat, k ≤ L.length ∧ i = .int .i64 (k : Int) ∧ Hid (Still w wr)) (fun i _ => L.length - (intOf i).toNat)
  case atStart => exact ⟨0, Nat.zero_le _, rfl, Lib.hid (Still.refl _)⟩
  case round =>
    obtain ⟨k, hk, rfl, HW⟩ := hrel
    by_cases hlt : k < L.length
    · have hlt' : (k : Int) < (L.length : Int) := by omega
      have hk0 : (0 : Int) ≤ (k : Int) := by omega
      obtain ⟨a, _, ea, _, _, x⟩ := wr_nth HA.out k hlt
      obtain ⟨b, _, eb, _, _, y⟩ := wr_nth HB.out k hlt
      cases ea
      cases eb
      obtain ⟨x0, x1, x2, x3⟩ := four_same HW.out.cell x
      obtain ⟨y0, y1, y2, y3⟩ := four_same HW.out.cell y
      clear x y
      have Q := neqW_self L[k].1 L[k].2
      generalize L[k].1 = u at *
      generalize L[k].2 = s at *
      go_wp2_with fail
      go_quiet (fail)
      rename_i nq
      go_wp2_with fail
      go_roundw
      case rel => exact ⟨k + 1, by omega, by go_num, Lib.hid (HW.out.drewN nq)⟩
      case measure => simp [intOf]; omega
    · have hlt' : ¬ (k : Int) < (L.length : Int) := by omega
      go_wp2
      go_ret
      exact ⟨rfl, HW.out⟩

end Go.Proofs.Ytmlocdfjjgbnjaa
