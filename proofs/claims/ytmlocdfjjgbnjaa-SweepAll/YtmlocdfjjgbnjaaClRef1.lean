/-
  Cells as the document has them, in memory (a slice of keys and chains, four cells each); keys compared; walks of the document's Less, Chain.
-/
import Derived.Test.YtmlocdfjjgbnjaaJQ
import Derived.Test.YtmlocdfjjgbnjaaJD
namespace Go.Proofs.Ytmlocdfjjgbnjaa
open Go.RowKit

def keyA (k : Cl.Ky) : Value := .agg #[.int .i64 k.kind, .int .i64 k.a, .int .i64 k.b]

theorem undKy : Try.prog.underlying 50 = some (.struct (Try.prog.fieldsOf 50)) := by kernel_rfl
theorem heldKy : Try.prog.stoodInHeld 50 = false := by kernel_rfl
set_option maxRecDepth 100000 in
theorem equalIn_key (d : Nat) (x y : Cl.Ky) (w : World) : (Op.equalIn (d + 2) 50 (.agg #[.int .i64 x.kind, .int .i64 x.a, .int .i64 x.b]) (.agg #[.int .i64 y.kind, .int .i64 y.a, .int .i64 y.b])).run Try.prog w = .ok (Cl.same x y) w := by
  rw [run_equalIn_agg w (d + 1) _ _ _ undKy heldKy]
  obtain ⟨f0, f1, f2, hf, h0, h1, h2⟩ : ∃ f0 f1 f2 : Field, (Try.prog.fieldsOf 50).toList = [f0, f1, f2] ∧ (f0.name, f0.type, f0.offset) = ("Kind", 3, 0) ∧ (f1.name, f1.type, f1.offset) = ("A", 3, 1) ∧ (f2.name, f2.type, f2.offset) = ("B", 3, 2) :=
    ⟨_, _, _, rfl, rfl, rfl, rfl⟩
  rw [hf]
  simp only [Prod.mk.injEq] at h0 h1 h2
  have p0 := fun (x y z : Int) (w : World) => run_part10 (P := Try.prog) (t := 3) Try.underlying3 rfl (xs := #[.int .i64 x, .int .i64 y, .int .i64 z]) (off := 0) (v := .int .i64 x) rfl w
  have p1 := fun (x y z : Int) (w : World) => run_part10 (P := Try.prog) (t := 3) Try.underlying3 rfl (xs := #[.int .i64 x, .int .i64 y, .int .i64 z]) (off := 1) (v := .int .i64 y) rfl w
  have p2 := fun (x y z : Int) (w : World) => run_part10 (P := Try.prog) (t := 3) Try.underlying3 rfl (xs := #[.int .i64 x, .int .i64 y, .int .i64 z]) (off := 2) (v := .int .i64 z) rfl w
  have e0 := fun (x y : Int) (w : World) => run_equalIn_int (P := Try.prog) w d 3 .i64 .i64 x y Try.underlying3
  have n0 : "Kind" ≠ "_" := by decide
  have n1 : "A" ≠ "_" := by decide
  have n2 : "B" ≠ "_" := by decide
  have hs : Cl.same x y = ((x.kind == y.kind) && ((x.a == y.a) && (x.b == y.b))) := rfl
  rw [hs]
  cases g1 : (x.kind == y.kind) <;> cases g2 : (x.a == y.a) <;> cases g3 : (x.b == y.b) <;>
    simp only [Op.eqFields, h0, h1, h2, if_pos n0, if_pos n1, if_pos n2, Sem.run_bind, p0, p1, p2, Result.andThen_ok, e0, g1, g2, g3, Bool.not_true, Bool.not_false, Bool.false_eq_true, if_true, if_false, Sem.run_pure, Bool.and_true, Bool.and_false]
set_option maxRecDepth 100000 in
theorem eqlK (x y : Cl.Ky) (w : World) : (binOp .eql 50 (.agg #[.int .i64 x.kind, .int .i64 x.a, .int .i64 x.b]) (.agg #[.int .i64 y.kind, .int .i64 y.a, .int .i64 y.b])).run Try.prog w = .ok (.bool (Cl.same x y)) w := by
  rw [run_eql_struct, equalIn_key 9998]; rfl
set_option maxRecDepth 100000 in
theorem neqK (x y : Cl.Ky) (w : World) : (binOp .neq 50 (.agg #[.int .i64 x.kind, .int .i64 x.a, .int .i64 x.b]) (.agg #[.int .i64 y.kind, .int .i64 y.a, .int .i64 y.b])).run Try.prog w = .ok (.bool (!Cl.same x y)) w := by
  rw [run_neq_struct, equalIn_key 9998]; rfl

set_option maxRecDepth 100000 in
theorem rless11_any (x y : Cl.Ky) (w : World) : Calls Try.prog 28 #[keyA x, keyA y] w fun e w' => e = .returned (.bool (Cl.less x y)) ∧ Below w.heap.size w w' := by
  have hb : Below w.heap.size w ((w.alloc (.cells #[.int .i64 x.kind, .int .i64 x.a, .int .i64 x.b] 50)).alloc (.cells #[.int .i64 y.kind, .int .i64 y.a, .int .i64 y.b] 50)) := ((Below.refl _ _).alloc (Nat.le_refl _) _).alloc (by simp) _
  have X := (Bk.new w [.int .i64 x.kind, .int .i64 x.a, .int .i64 x.b] 50 rfl).alloc (.cells #[.int .i64 y.kind, .int .i64 y.a, .int .i64 y.b] 50)
  have x0 := X.cell 0 _ rfl
  have x1 := X.cell 1 _ rfl
  have x2 := X.cell 2 _ rfl
  clear X
  unfold keyA
  by_cases h1 : x.kind = y.kind
  · have g1 : (x.kind != y.kind) = false := by simpa using h1
    by_cases h2 : x.a = y.a
    · have g2 : (x.a != y.a) = false := by simpa using h2
      have HV : Hid (Cl.less x y = decide (x.b < y.b)) := Lib.hid (by unfold Cl.less; rw [if_pos h1, if_pos h2])
      clear h1 h2
      go_enter Try.func28, Try.ntmps28
      go_wp2
      go_ret
      exact ⟨ret_v (by rw [HV.out]; rfl), hb⟩
    · have g2 : (x.a != y.a) = true := by simpa using h2
      have HV : Hid (Cl.less x y = decide (x.a < y.a)) := Lib.hid (by unfold Cl.less; rw [if_pos h1, if_neg h2])
      clear h1 h2
      go_enter Try.func28, Try.ntmps28
      go_wp2
      go_ret
      exact ⟨ret_v (by rw [HV.out]; rfl), hb⟩
  · have g1 : (x.kind != y.kind) = true := by simpa using h1
    have HV : Hid (Cl.less x y = decide (x.kind < y.kind)) := Lib.hid (by unfold Cl.less; rw [if_neg h1])
    clear h1
    go_enter Try.func28, Try.ntmps28
    go_wp2
    go_ret
    exact ⟨ret_v (by rw [HV.out]; rfl), hb⟩

/-- the slice v holds the keys and chains X, in blocks of which F holds -/
def Cls (w : World) (F : Nat → Prop) (v : Value) (X : Cl.Cs) : Prop :=
  ∃ A cap, v = .slice A X.length cap ∧ X.length ≤ cap ∧ (∀ p ∈ X, p.2.length ≤ 1000) ∧ (X ≠ [] → ∃ a, A = some a ∧ F a.block ∧
    ∀ i (h : i < X.length), ∃ vc, w.cell? (a.add (i * 4)) = some (.int .i64 X[i].1.kind) ∧ w.cell? (a.add (i * 4 + 1)) = some (.int .i64 X[i].1.a) ∧ w.cell? (a.add (i * 4 + 2)) = some (.int .i64 X[i].1.b) ∧ w.cell? (a.add (i * 4 + 3)) = some vc ∧ SlC w F vc X[i].2)

section
variable {w w' : World} {F G : Nat → Prop} {B : Nat} {v : Value} {X : Cl.Cs}
theorem Cls.keep (h : Cls w F v X) (hk : ∀ p : Addr, F p.block → w'.cell? p = w.cell? p) : Cls w' F v X := by
  obtain ⟨A, cap, e, hc, hl, hx⟩ := h
  refine ⟨A, cap, e, hc, hl, fun hn => ?_⟩
  obtain ⟨a, e2, hg, hx⟩ := hx hn
  refine ⟨a, e2, hg, fun i hi => ?_⟩
  obtain ⟨vc, h0, h1, h2, h3, hv⟩ := hx i hi
  have hb : ∀ j, w'.cell? (a.add j) = w.cell? (a.add j) := fun j => hk _ (by rw [S.add_block]; exact hg)
  exact ⟨vc, (hb _).trans h0, (hb _).trans h1, (hb _).trans h2, (hb _).trans h3, hv.keep hk⟩
theorem Cls.below (h : Cls w F v X) (hb : Below B w w') (hF : ∀ b, F b → b < B) : Cls w' F v X := h.keep fun _ hp => hb.cell (hF _ hp)
theorem Cls.wider (h : Cls w F v X) (hF : ∀ b, F b → G b) : Cls w G v X := by
  obtain ⟨A, cap, e, hc, hl, hx⟩ := h
  refine ⟨A, cap, e, hc, hl, fun hn => ?_⟩
  obtain ⟨a, e2, hg, hx⟩ := hx hn
  refine ⟨a, e2, hF _ hg, fun i hi => ?_⟩
  obtain ⟨vc, h0, h1, h2, h3, hv⟩ := hx i hi
  exact ⟨vc, h0, h1, h2, h3, hv.wider hF⟩
theorem Cls.form (h : Cls w F v X) : ∃ A cap, v = .slice A X.length cap ∧ X.length ≤ cap := by
  obtain ⟨A, cap, e, hc, _⟩ := h
  exact ⟨A, cap, e, hc⟩
theorem Cls.nil (w : World) (F : Nat → Prop) (A : Option Addr) (cap : Nat) : Cls w F (.slice A 0 cap) [] := ⟨A, cap, rfl, Nat.zero_le _, (fun p hp => by cases hp), fun h => absurd rfl h⟩
theorem Cls.len (h : Cls w F v X) {i : Nat} (hi : i < X.length) : X[i].2.length ≤ 1000 := by
  obtain ⟨A, cap, e, hc, hl, _⟩ := h
  exact hl _ (List.getElem_mem hi)
theorem Cls.nth (h : Cls w F v X) (i : Nat) (hi : i < X.length) : ∃ a cap A c, v = .slice (some a) X.length cap ∧ X.length ≤ cap ∧ F a.block ∧
    w.cell? (a.add (i * 4)) = some (.int .i64 X[i].1.kind) ∧ w.cell? ⟨(a.add (i * 4)).block, (a.add (i * 4)).off + 1, none⟩ = some (.int .i64 X[i].1.a) ∧ w.cell? ⟨(a.add (i * 4)).block, (a.add (i * 4)).off + 2, none⟩ = some (.int .i64 X[i].1.b) ∧
    w.cell? ⟨(a.add (i * 4)).block, (a.add (i * 4)).off + 3, none⟩ = some (.slice A X[i].2.length c) ∧ SlC w F (.slice A X[i].2.length c) X[i].2 := by
  obtain ⟨A, cap, e, hc, hl, hx⟩ := h
  obtain ⟨a, rfl, hF, hx⟩ := hx (fun e => by subst e; simp at hi)
  obtain ⟨vc, h0, h1, h2, h3, hv⟩ := hx i hi
  obtain ⟨A', c', rfl, _⟩ := SlC.form hv
  have e1 : ∀ (p : Addr) (j : Nat), (⟨p.block, p.off + (j + 1), none⟩ : Addr) = p.add (j + 1) := fun p j => by simp [Addr.add]
  refine ⟨a, cap, A', c', e, hc, hF, h0, ?_, ?_, ?_, hv⟩
  · rw [e1 _ 0, S.add_add]; exact h1
  · rw [e1 _ 1, S.add_add]; exact h2
  · rw [e1 _ 2, S.add_add]; exact h3
end

theorem chain_at {X : Cl.Cs} {k : Cl.Ky} {i : Nat} (hi : i < X.length) (h : ∀ j (hj : j < X.length), j < i → X[j].1 ≠ k) (he : X[i].1 = k) : Cl.chain X k = X[i].2 := by
  have e : X = X.take i ++ X[i] :: X.drop (i + 1) := by rw [← List.drop_eq_getElem_cons hi, List.take_append_drop]
  have h2 : Cl.chain (X.take i ++ X[i] :: X.drop (i + 1)) k = X[i].2 := by
    rw [Cl.chain_append _ _ _ (fun p hp => ?_)]
    · show (if X[i].1 = k then X[i].2 else _) = _
      rw [if_pos he]
    · obtain ⟨j, hj, rfl⟩ := List.getElem_of_mem hp
      have hj' : j < i := by simp at hj; omega
      rw [List.getElem_take]
      exact h j (by omega) hj'
  rw [← e] at h2
  exact h2

end Go.Proofs.Ytmlocdfjjgbnjaa
