/-
  Walks of the document's chain: Read.
  Walks of the document's chain: Write.
  Walks of the document's chain: Commit, Abort, Same.
  Walks of the document's chain: Same (of what is the same); versions held against themselves.
-/
import Derived.Test.YtmlocdfjjgbnjaaJR
namespace Go.Proofs.Ytmlocdfjjgbnjaa.Cn

theorem at_lt {c : Ch} {ts : Int} {k : Nat} (h : at? c ts = some k) : k < c.length := by
  unfold at? at h
  split at h
  · rename_i g
    have : lo c ts ≤ c.length := by unfold lo; exact (List.takeWhile_sublist _).length_le
    cases h
    omega
  · cases h
theorem getV_eq {c : Ch} {k : Nat} (hk : k < c.length) : getV c k = c[k] := by
  unfold getV
  simp [List.getD, hk]
theorem look_some {c : Ch} {ts : Int} {k : Nat} (h : at? c ts = some k) : look c ts = (k : Int) := by unfold look; rw [h]
theorem look_none {c : Ch} {ts : Int} (h : at? c ts = none) : look c ts = -1 := by unfold look; rw [h]
theorem read_some {c : Ch} {ts : Int} {k : Nat} (h : at? c ts = some k) (hk : k < c.length) : readC c ts = c.set k (touch c[k] ts) ∧ readV c ts = touch c[k] ts := by
  unfold readC readV
  rw [h]
  dsimp only
  rw [getV_eq hk]
  exact ⟨rfl, rfl⟩
end Go.Proofs.Ytmlocdfjjgbnjaa.Cn

namespace Go.Proofs.Ytmlocdfjjgbnjaa
open Go.RowKit

theorem results_t_bk {P : Program} {fn : Func} {r s : Tmp} {ty : TypeId} {d : TypeDesc} {w : World} {p : Nat} {vs : List Value} (hr : fn.results = #[.tmp s, .cell r ty]) (tmps : Array Value) (hp : tmps.getD r undef = .pointer (some ⟨p, 0, none⟩)) (h : Bk w p vs)
    (hu : P.underlying ty = some d) (hd : d.isRow = true) (hi : (P.info? ty).map (·.size) = some vs.length) : (results fn tmps).run P w = .ok (.tuple #[tmps.getD s undef, .agg vs.toArray]) w := by
  have hl := load_bk h hu hd hi
  have hp' : tmps[r]?.getD undef = .pointer (some ⟨p, 0, none⟩) := by simpa using hp
  simp [results, hr, hp', asAddr, hl]

theorem set4_far (w : World) {g : Nat} {a : Addr} (hg : g ≠ a.block) (u0 u1 u2 u3 : Value) : ((((w.setCell ⟨g, 0, none⟩ u0).setCell ⟨g, 1, none⟩ u1).setCell ⟨g, 2, none⟩ u2).setCell ⟨g, 3, none⟩ u3).cell? a = w.cell? a := by
  rw [World.cell?_setCell_far _ _ _ _ (by exact hg), World.cell?_setCell_far _ _ _ _ (by exact hg), World.cell?_setCell_far _ _ _ _ (by exact hg), World.cell?_setCell_far _ _ _ _ (by exact hg)]
theorem set4_other {w : World} {a : Addr} {v : Value} (h : w.cell? a = some v) {g : Nat} (hg : g ≠ a.block) (u0 u1 u2 u3 : Value) : ((((w.setCell ⟨g, 0, none⟩ u0).setCell ⟨g, 1, none⟩ u1).setCell ⟨g, 2, none⟩ u2).setCell ⟨g, 3, none⟩ u3).cell? a = some v := (set4_far w hg u0 u1 u2 u3).trans h
theorem four_same {w w1 : World} {p : Addr} {u0 u1 u2 u3 : Value} (hc : ∀ q : Addr, w1.cell? q = w.cell? q) (h : w.cell? p = some u0 ∧ w.cell? ⟨p.block, p.off + 1, none⟩ = some u1 ∧ w.cell? ⟨p.block, p.off + 2, none⟩ = some u2 ∧ w.cell? ⟨p.block, p.off + 3, none⟩ = some u3) :
    w1.cell? p = some u0 ∧ w1.cell? ⟨p.block, p.off + 1, none⟩ = some u1 ∧ w1.cell? ⟨p.block, p.off + 2, none⟩ = some u2 ∧ w1.cell? ⟨p.block, p.off + 3, none⟩ = some u3 :=
  ⟨(hc _).trans h.1, (hc _).trans h.2.1, (hc _).trans h.2.2.1, (hc _).trans h.2.2.2⟩
theorem four_keep {w w1 : World} {B : Nat} {p : Addr} {u0 u1 u2 u3 : Value} (hb : Below B w w1) (hp : p.block < B) (h : w.cell? p = some u0 ∧ w.cell? ⟨p.block, p.off + 1, none⟩ = some u1 ∧ w.cell? ⟨p.block, p.off + 2, none⟩ = some u2 ∧ w.cell? ⟨p.block, p.off + 3, none⟩ = some u3) :
    w1.cell? p = some u0 ∧ w1.cell? ⟨p.block, p.off + 1, none⟩ = some u1 ∧ w1.cell? ⟨p.block, p.off + 2, none⟩ = some u2 ∧ w1.cell? ⟨p.block, p.off + 3, none⟩ = some u3 :=
  ⟨(hb.cell hp).trans h.1, (hb.cell (p := ⟨p.block, p.off + 1, none⟩) hp).trans h.2.1, (hb.cell (p := ⟨p.block, p.off + 2, none⟩) hp).trans h.2.2.1, (hb.cell (p := ⟨p.block, p.off + 3, none⟩) hp).trans h.2.2.2⟩

end Go.Proofs.Ytmlocdfjjgbnjaa

namespace Go.Proofs.Ytmlocdfjjgbnjaa.Cn

theorem write_late {c : Ch} {ts : Int} {val : ByteArray} {k : Nat} (h : at? c ts = some k) (hk : k < c.length) (hl : lateV c[k] ts = true) : writeC c ts val = c ∧ writeE c ts = 8 := by
  unfold writeC writeE
  rw [h]
  dsimp only
  rw [getV_eq hk, hl, if_pos rfl, if_pos rfl]
  exact ⟨rfl, rfl⟩
theorem write_own {c : Ch} {ts : Int} {val : ByteArray} {k : Nat} (h : at? c ts = some k) (hk : k < c.length) (hl : lateV c[k] ts = false) (ho : c[k].ts = ts) : writeC c ts val = c.set k ⟨c[k].ts, c[k].rd, val, c[k].done⟩ ∧ writeE c ts = 0 := by
  unfold writeC writeE
  rw [h]
  dsimp only
  rw [getV_eq hk, hl, if_neg Bool.false_ne_true, if_neg Bool.false_ne_true, if_pos ho]
  exact ⟨rfl, rfl⟩
theorem write_new {c : Ch} {ts : Int} {val : ByteArray} {k : Nat} (h : at? c ts = some k) (hk : k < c.length) (hl : lateV c[k] ts = false) (ho : c[k].ts ≠ ts) : writeC c ts val = (c.take (k + 1) ++ [⟨ts, ts, val, false⟩]) ++ c.drop (k + 1) ∧ writeE c ts = 0 := by
  unfold writeC writeE
  rw [h]
  dsimp only
  rw [getV_eq hk, hl, if_neg Bool.false_ne_true, if_neg Bool.false_ne_true, if_neg ho]
  exact ⟨by simp, rfl⟩
end Go.Proofs.Ytmlocdfjjgbnjaa.Cn

namespace Go.Proofs.Ytmlocdfjjgbnjaa
open Go.RowKit

theorem sg_row4 (w : World) (e : TypeId) (X : Array Value) {k : Nat} (hX : X.size = k) : S.Sg (w.alloc (.cells X e)) (fun b => b = w.heap.size) k (.slice (some ⟨w.heap.size, 0, none⟩) 1 1) 1 X.toList :=
  ⟨by simp [hX], _, 1, rfl, Nat.le_refl _, fun _ => ⟨_, rfl, rfl, fun j x hj => by
    have hadd : (⟨w.heap.size, 0, none⟩ : Addr).add j = ⟨w.heap.size, j, none⟩ := by cases j <;> simp [Addr.add]
    rw [hadd]
    have hjl := (List.getElem?_eq_some_iff.1 hj).1
    have := (Bk.new w X.toList e rfl).cell j x (by simpa using hj)
    simpa using this⟩⟩
theorem own_slice {w : World} {base n k : Nat} {e : TypeId} {v : Value} {xs : List Value} (h : w.ownsRow base e k v n xs) : ∃ A cap, v = .slice A n cap := by
  obtain ⟨_, A, cap, e, _, _⟩ := S.Sg.of_own h
  exact ⟨A, cap, e⟩
theorem verV_parts (c : Cn.Ch) (m : Nat) (hm : m ≤ c.length) : verV c = verV (c.take m) ++ verV (c.drop m) ∧ (verV (c.take m)).length = m * 4 :=
  ⟨by rw [← verV_append, List.take_append_drop], by rw [verV_length, List.length_take, Nat.min_eq_left hm]⟩
theorem verV_take (c : Cn.Ch) (m : Nat) (hm : m ≤ c.length) : verV (c.take m) = (verV c).take (m * 4) := by
  obtain ⟨h, hl⟩ := verV_parts c m hm
  rw [h, ← hl, List.take_left]
theorem verV_drop (c : Cn.Ch) (m : Nat) (hm : m ≤ c.length) : verV (c.drop m) = (verV c).drop (m * 4) := by
  obtain ⟨h, hl⟩ := verV_parts c m hm
  rw [h, ← hl, List.drop_left]
theorem SlC.take {w : World} {F : Nat → Prop} {a : Addr} {cap : Nat} {c : Cn.Ch} (h : SlC w F (.slice (some a) c.length cap) c) {m : Nat} (hm : m ≤ c.length) (h0 : 0 < m) : S.Sg w F 4 (.slice (some a) m cap) m (verV (c.take m)) := by
  obtain ⟨hl, A, cap', e, hc, hx⟩ := h
  cases e
  obtain ⟨a', e', hF, hx⟩ := hx (by omega)
  cases e'
  refine ⟨by rw [verV_length, List.length_take]; congr 1; omega, _, cap, rfl, by omega, fun _ => ⟨_, rfl, hF, fun j u hj => hx j u ?_⟩⟩
  rw [verV_take c m hm] at hj
  rw [← hj, List.getElem?_take_of_lt (by have := (List.getElem?_eq_some_iff.1 hj).1; simp at this; omega)]
theorem SlC.drop {w : World} {F : Nat → Prop} {a : Addr} {cap : Nat} {c : Cn.Ch} (h : SlC w F (.slice (some a) c.length cap) c) {m : Nat} (hm : m ≤ c.length) (cap2 : Nat) (hc2 : c.length - m ≤ cap2) : S.Sg w F 4 (.slice (some (a.add (m * 4))) (c.length - m) cap2) (c.length - m) (verV (c.drop m)) := by
  obtain ⟨hl, A, cap', e, hc, hx⟩ := h
  cases e
  refine ⟨by rw [verV_length, List.length_drop], _, cap2, rfl, hc2, fun hn => ?_⟩
  obtain ⟨a', e', hF, hx⟩ := hx (by omega)
  cases e'
  refine ⟨_, rfl, by rw [S.add_block]; exact hF, fun j u hj => ?_⟩
  rw [S.add_add]
  refine hx _ u ?_
  rw [verV_drop c m hm, List.getElem?_drop] at hj
  exact hj

end Go.Proofs.Ytmlocdfjjgbnjaa

namespace Go.Proofs.Ytmlocdfjjgbnjaa.Cn

def comV (b : Bool) (ts : Int) (v : Vr) : Vr := if b = true then doneV ts v else v
def keepB (b : Bool) (ts : Int) (v : Vr) : Bool := !b || !goneB ts v
theorem commit_eq (c : Ch) (ts : Int) : commitC c ts = c.map (comV (mayB c) ts) := by
  unfold commitC comV
  cases mayB c with
  | true => rw [if_pos rfl]; congr 1
  | false =>
    rw [if_neg Bool.false_ne_true]
    simp
theorem abort_eq (c : Ch) (ts : Int) : abortC c ts = c.filter (keepB (mayB c) ts) := by
  unfold abortC keepB
  cases mayB c with
  | true => rw [if_pos rfl]; congr 1
  | false =>
    rw [if_neg Bool.false_ne_true]
    exact (List.filter_eq_self.2 (fun x _ => by simp)).symm
theorem comV_done {b : Bool} {ts : Int} {v : Vr} (h : v.done = true) : comV b ts v = ⟨v.ts, v.rd, v.val, true⟩ := by
  obtain ⟨a, r, s, d⟩ := v
  cases h
  unfold comV doneV
  cases b with
  | true =>
    rw [if_pos rfl]
    by_cases e : a = ts
    · rw [if_pos e]
    · rw [if_neg e]
  | false => rw [if_neg Bool.false_ne_true]
theorem take_map {f : Vr → Vr} {c : Ch} {k : Nat} (hk : k < c.length) : (c.take (k + 1)).map f = (c.take k).map f ++ [f c[k]] := by
  rw [List.take_succ_eq_append_getElem hk, List.map_append]
  rfl
theorem take_filter {p : Vr → Bool} {c : Ch} {k : Nat} (hk : k < c.length) : (c.take (k + 1)).filter p = (c.take k).filter p ++ (if p c[k] = true then [c[k]] else []) := by
  rw [List.take_succ_eq_append_getElem hk, List.filter_append]
  congr 1
  by_cases h : p c[k] = true
  · rw [if_pos h]; simp [h]
  · rw [if_neg h]; simp [h]
end Go.Proofs.Ytmlocdfjjgbnjaa.Cn

namespace Go.Proofs.Ytmlocdfjjgbnjaa
open Go.RowKit

theorem sg_row4g (w : World) (e : TypeId) (X : Array Value) {k g : Nat} (hX : X.size = k) (hg : g = w.heap.size) : S.Sg (w.alloc (.cells X e)) (fun b => b = g) k (.slice (some ⟨g, 0, none⟩) 1 1) 1 X.toList := by
  subst hg
  exact sg_row4 w e X hX
theorem verV_snoc (L : Cn.Ch) (x : Cn.Vr) : verV (L ++ [x]) = verV L ++ verC x := by
  rw [verV_append]
  congr 1
theorem four_one (a b : Int) (s : ByteArray) (d : Bool) : ∀ x ∈ [Value.int .i64 a, .int .i64 b, .string s, .bool d], x.oneCell' = true := verC_one (⟨a, b, s, d⟩ : Cn.Vr)

end Go.Proofs.Ytmlocdfjjgbnjaa

namespace Go.Proofs.Ytmlocdfjjgbnjaa
open Go.RowKit

theorem run_part10 {P : Program} {t : TypeId} {d : TypeDesc} (h : P.underlying t = some d) (hd : (match d with | .struct _ | .array _ _ => true | _ => false) = false) {xs : Array Value} {off : Nat} {v : Value} (hv : xs[off]? = some v) (w : World) :
    (part t xs off).run P w = .ok v w := by
  have ha : (isAgg t).run P w = .ok false w := by
    simp only [isAgg, Sem.run_bind, run_underlying h, Result.andThen_ok]
    cases d <;> first | rfl | simp at hd
  simp only [part, Sem.run_bind, ha, Result.andThen_ok, Bool.false_eq_true, if_false, hv]
  rfl

theorem undRv : Try.prog.underlying 38 = some (.struct (Try.prog.fieldsOf 38)) := by kernel_rfl
theorem heldRv : Try.prog.stoodInHeld 38 = false := by kernel_rfl
theorem undCv : Try.prog.underlying 40 = some (.struct (Try.prog.fieldsOf 40)) := by kernel_rfl
theorem heldCv : Try.prog.stoodInHeld 40 = false := by kernel_rfl

theorem equalIn_self {T : TypeId} (hu : Try.prog.underlying T = some (.struct (Try.prog.fieldsOf T))) (hh : Try.prog.stoodInHeld T = false)
    (hf : ∃ f0 f1 f2 f3 : Field, (Try.prog.fieldsOf T).toList = [f0, f1, f2, f3] ∧ (f0.name, f0.type, f0.offset) = ("Ts", 2, 0) ∧ (f1.name, f1.type, f1.offset) = ("Read", 2, 1) ∧ (f2.name, f2.type, f2.offset) = ("Val", 9, 2) ∧ (f3.name, f3.type, f3.offset) = ("Done", 4, 3))
    (d : Nat) (a b : Int) (s : ByteArray) (q : Bool) (w : World) :
    (Op.equalIn (d + 2) T (.agg #[.int .i64 a, .int .i64 b, .string s, .bool q]) (.agg #[.int .i64 a, .int .i64 b, .string s, .bool q])).run Try.prog w = .ok true w := by
  rw [run_equalIn_agg w (d + 1) _ _ _ hu hh]
  obtain ⟨f0, f1, f2, f3, hf, h0, h1, h2, h3⟩ := hf
  rw [hf]
  simp only [Prod.mk.injEq] at h0 h1 h2 h3
  have p0 := fun (w : World) => run_part10 (P := Try.prog) (t := 2) Try.underlying2 rfl (xs := #[.int .i64 a, .int .i64 b, .string s, .bool q]) (off := 0) (v := .int .i64 a) rfl w
  have p1 := fun (w : World) => run_part10 (P := Try.prog) (t := 2) Try.underlying2 rfl (xs := #[.int .i64 a, .int .i64 b, .string s, .bool q]) (off := 1) (v := .int .i64 b) rfl w
  have p2 := fun (w : World) => run_part10 (P := Try.prog) (t := 9) Try.underlying9 rfl (xs := #[.int .i64 a, .int .i64 b, .string s, .bool q]) (off := 2) (v := .string s) rfl w
  have p3 := fun (w : World) => run_part10 (P := Try.prog) (t := 4) Try.underlying4 rfl (xs := #[.int .i64 a, .int .i64 b, .string s, .bool q]) (off := 3) (v := .bool q) rfl w
  have e0 := fun (x : Int) (w : World) => run_equalIn_int (P := Try.prog) w d 2 .i64 .i64 x x Try.underlying2
  have e2 := fun (x : ByteArray) (w : World) => run_equalIn_string (P := Try.prog) w d 9 x x Try.underlying9
  have e3 := fun (x : Bool) (w : World) => run_equalIn_bool' (P := Try.prog) w d 4 x x Try.underlying4
  have n0 : "Ts" ≠ "_" := by decide
  have n1 : "Read" ≠ "_" := by decide
  have n2 : "Val" ≠ "_" := by decide
  have n3 : "Done" ≠ "_" := by decide
  simp only [Op.eqFields, h0, h1, h2, h3, if_pos n0, if_pos n1, if_pos n2, if_pos n3, Sem.run_bind, p0, p1, p2, p3, Result.andThen_ok, e0, e2, e3, beq_self_eq_true, Bool.not_true, Bool.false_eq_true, if_false, Sem.run_pure]

set_option maxRecDepth 100000 in
theorem neqR_self (a b : Int) (s : ByteArray) (q : Bool) (w : World) : (binOp .neq 38 (.agg #[.int .i64 a, .int .i64 b, .string s, .bool q]) (.agg #[.int .i64 a, .int .i64 b, .string s, .bool q])).run Try.prog w = .ok (.bool false) w := by
  rw [run_neq_struct, equalIn_self undRv heldRv ⟨_, _, _, _, rfl, rfl, rfl, rfl, rfl⟩ 9998]; rfl
set_option maxRecDepth 100000 in
theorem neqC_self (a b : Int) (s : ByteArray) (q : Bool) (w : World) : (binOp .neq 40 (.agg #[.int .i64 a, .int .i64 b, .string s, .bool q]) (.agg #[.int .i64 a, .int .i64 b, .string s, .bool q])).run Try.prog w = .ok (.bool false) w := by
  rw [run_neq_struct, equalIn_self undCv heldCv ⟨_, _, _, _, rfl, rfl, rfl, rfl, rfl⟩ 9998]; rfl

set_option maxRecDepth 100000 in
set_option maxHeartbeats 4000000 in
theorem rsame10_any {w : World} {F G : Nat → Prop} {va vb : Value} {c : Cn.Ch} (ha : SlC w F va c) (hb : SlC w G vb c) (hl : c.length ≤ 1000000) : Calls Try.prog 14 #[va, vb] w fun e w' => e = .returned (.bool true) ∧ Still w w' := by
  have HA := Lib.hid ha
  have HB := Lib.hid hb
  obtain ⟨A, capa, rfl, hca⟩ := SlC.form ha
  obtain ⟨B, capb, rfl, hcb⟩ := SlC.form hb
  clear ha hb
  go_enter Try.func14, Try.ntmps14
  go_wp2
  go_loopw [5] (fun i wr => ∃ k : Nat, k ≤ c.length ∧ i = .int .i64 (k : Int) ∧ Hid (Still w wr)) (fun i _ => c.length - (intOf i).toNat)
  case atStart => exact ⟨0, Nat.zero_le _, rfl, Lib.hid (Still.refl _)⟩
  case round =>
    obtain ⟨k, hk, rfl, HW⟩ := hrel
    by_cases hlt : k < c.length
    · have hlt' : (k : Int) < (c.length : Int) := by omega
      have hk0 : (0 : Int) ≤ (k : Int) := by omega
      obtain ⟨a, _, ea, _, _, x⟩ := HA.out.nth k hlt
      obtain ⟨b, _, eb, _, _, y⟩ := HB.out.nth k hlt
      cases ea
      cases eb
      obtain ⟨x0, x1, x2, x3⟩ := four_same HW.out.cell x
      obtain ⟨y0, y1, y2, y3⟩ := four_same HW.out.cell y
      clear x y
      have Q := neqR_self c[k].ts c[k].rd c[k].val c[k].done
      generalize c[k] = u at *
      go_wp2_with fail
      go_quiet (fail)
      rename_i nq
      go_wp2_with fail
      go_roundw
      case rel => exact ⟨k + 1, by omega, by go_num, Lib.hid (HW.out.drewN nq)⟩
      case measure => simp [intOf]; omega
    · have hlt' : ¬ (k : Int) < (c.length : Int) := by omega
      go_wp2
      go_ret
      exact ⟨rfl, HW.out⟩

end Go.Proofs.Ytmlocdfjjgbnjaa
