/-
  Walks of the document's cells: Writes (of what is the same); writes held against themselves.
-/
import Derived.Test.YtpppjipelcfnkaaClRef7
namespace Go.Proofs.Ytpppjipelcfnkaa
open Go.RowKit

theorem undWr : Try.prog.underlying 64 = some (.struct (Try.prog.fieldsOf 64)) := by kernel_rfl
theorem heldWr : Try.prog.stoodInHeld 64 = false := by kernel_rfl
set_option maxRecDepth 100000 in
theorem run_partK (a b c : Int) (s : ByteArray) (w : World) : (part 31 #[.int .i64 a, .int .i64 b, .int .i64 c, .string s] 0).run Try.prog w = .ok (.agg #[.int .i64 a, .int .i64 b, .int .i64 c]) w := by
  have ha : (isAgg 31).run Try.prog w = .ok true w := by
    simp only [isAgg, Sem.run_bind, run_underlying undKy, Result.andThen_ok]
    rfl
  obtain ⟨i0, hi, _, hs, _⟩ := info_parts (show (Try.prog.info? 31).map (fun i => (i.zero, i.size, i.bytes)) = some (some (.agg #[.int .i64 0, .int .i64 0, .int .i64 0]), 3, 24) by kernel_rfl)
  have hz : (sizeOf 31).run Try.prog w = .ok 3 w := by
    have := run_sizeOf w hi
    rw [this]
    congr 1
  simp only [part, Sem.run_bind, ha, Result.andThen_ok, if_true, hz]
  rfl
set_option maxRecDepth 100000 in
theorem neqW_self (x : Cl.Ky) (s : ByteArray) (w : World) : (binOp .neq 64 (.agg #[.int .i64 x.kind, .int .i64 x.a, .int .i64 x.b, .string s]) (.agg #[.int .i64 x.kind, .int .i64 x.a, .int .i64 x.b, .string s])).run Try.prog w = .ok (.bool false) w := by
  have e : (Op.equalIn 10000 64 (.agg #[.int .i64 x.kind, .int .i64 x.a, .int .i64 x.b, .string s]) (.agg #[.int .i64 x.kind, .int .i64 x.a, .int .i64 x.b, .string s])).run Try.prog w = .ok true w := by
    rw [run_equalIn_agg w 9999 _ _ _ undWr heldWr]
    obtain ⟨f0, f1, hf, h0, h1⟩ : ∃ f0 f1 : Field, (Try.prog.fieldsOf 64).toList = [f0, f1] ∧ (f0.name, f0.type, f0.offset) = ("K", 31, 0) ∧ (f1.name, f1.type, f1.offset) = ("V", 9, 3) := ⟨_, _, rfl, rfl, rfl⟩
    rw [hf]
    simp only [Prod.mk.injEq] at h0 h1
    have p0 := fun (w : World) => run_partK x.kind x.a x.b s w
    have p1 := fun (w : World) => run_part10 (P := Try.prog) (t := 9) Try.underlying9 rfl (xs := #[.int .i64 x.kind, .int .i64 x.a, .int .i64 x.b, .string s]) (off := 3) (v := .string s) rfl w
    have e0 := fun (w : World) => equalIn_key 9997 x x w
    have e1 := fun (w : World) => run_equalIn_string (P := Try.prog) w 9998 9 s s Try.underlying9
    have n0 : "K" ≠ "_" := by decide
    have n1 : "V" ≠ "_" := by decide
    simp only [Op.eqFields, h0, h1, if_pos n0, if_pos n1, Sem.run_bind, p0, p1, Result.andThen_ok, e0, e1, Cl.same_self, beq_self_eq_true, Bool.not_true, Bool.false_eq_true, if_false, Sem.run_pure]
  rw [run_neq_struct, e]; rfl

/-- one write of a row -/
theorem wr_nth {w : World} {F : Nat → Prop} {v : Value} {L : Cl.Ws} (h : S.Sg w F 4 v L.length (L.flatMap clW)) (i : Nat) (hi : i < L.length) : ∃ a cap, v = .slice (some a) L.length cap ∧ L.length ≤ cap ∧ F a.block ∧
    w.cell? (a.add (i * 4)) = some (.int .i64 L[i].1.kind) ∧ w.cell? ⟨(a.add (i * 4)).block, (a.add (i * 4)).off + 1, none⟩ = some (.int .i64 L[i].1.a) ∧ w.cell? ⟨(a.add (i * 4)).block, (a.add (i * 4)).off + 2, none⟩ = some (.int .i64 L[i].1.b) ∧ w.cell? ⟨(a.add (i * 4)).block, (a.add (i * 4)).off + 3, none⟩ = some (.string L[i].2) := by
  obtain ⟨hl0, A, cap, e, hc, hx⟩ := h
  obtain ⟨a, rfl, hF, hx⟩ := hx (by intro e; rw [e] at hi; simp at hi)
  have q (j : Nat) (hj : j < 4) : w.cell? (a.add (i * 4 + j)) = (clW L[i])[j]? := by
    have := V.flat_at (f := clW) (m := 4) L (fun _ _ => rfl) i hi j hj
    rw [← this]
    have hl : i * 4 + j < (L.flatMap clW).length := by rw [hl0]; omega
    rw [hx (i * 4 + j) _ (List.getElem?_eq_getElem hl)]
    exact (List.getElem?_eq_getElem hl).symm
  have e1 : ∀ (p : Addr) (j : Nat), (⟨p.block, p.off + (j + 1), none⟩ : Addr) = p.add (j + 1) := fun p j => by simp [Addr.add]
  refine ⟨a, cap, e, hc, hF, q 0 (by decide), ?_, ?_, ?_⟩
  · rw [e1 _ 0, S.add_add]; exact q 1 (by decide)
  · rw [e1 _ 1, S.add_add]; exact q 2 (by decide)
  · rw [e1 _ 2, S.add_add]; exact q 3 (by decide)
theorem wr_form {w : World} {F : Nat → Prop} {v : Value} {L : Cl.Ws} (h : S.Sg w F 4 v L.length (L.flatMap clW)) : ∃ A cap, v = .slice A L.length cap ∧ L.length ≤ cap := by
  obtain ⟨_, A, cap, e, hc, _⟩ := h
  exact ⟨A, cap, e, hc⟩

set_option maxRecDepth 100000 in
set_option maxHeartbeats 4000000 in
theorem rwrites11_any {w : World} {F G : Nat → Prop} {va vb : Value} {L : Cl.Ws} (ha : S.Sg w F 4 va L.length (L.flatMap clW)) (hb : S.Sg w G 4 vb L.length (L.flatMap clW)) (hl : L.length ≤ 10000000) : Calls Try.prog 14 #[va, vb] w fun e w' => e = .returned (.bool true) ∧ Still w w' := by
  have HA := Lib.hid ha
  have HB := Lib.hid hb
  obtain ⟨A, capa, rfl, hca⟩ := wr_form ha
  obtain ⟨B, capb, rfl, hcb⟩ := wr_form hb
  clear ha hb
  go_enter Try.func14, Try.ntmps14
  go_wp2
  go_loopw [5] (fun i wr => ∃ k : Nat, k ≤ L.length ∧ i = .int .i64 (k : Int) ∧ Hid (Still w wr)) (fun i _ => L.length - (intOf i).toNat)
  case atStart => exact ⟨0, Nat.zero_le _, rfl, Lib.hid (Still.refl _)⟩
  case round =>
    obtain ⟨k, hk, rfl, HW⟩ := hrel
    by_cases hlt : k < L.length
    · have hlt' : (k : Int) < (L.length : Int) := by omega
      have hk0 : (0 : Int) ≤ (k : Int) := by omega
      obtain ⟨a, _, ea, _, _, x⟩ := wr_nth HA.out k hlt
      obtain ⟨b, _, eb, _, _, y⟩ := wr_nth HB.out k hlt
      cases ea
      cases eb
      obtain ⟨x0, x1, x2, x3⟩ := four_same HW.out.cell x
      obtain ⟨y0, y1, y2, y3⟩ := four_same HW.out.cell y
      clear x y
      have Q := neqW_self L[k].1 L[k].2
      generalize L[k].1 = u at *
      generalize L[k].2 = s at *
      go_wp2_with fail
      go_quiet (fail)
      rename_i nq
      go_wp2_with fail
      go_roundw
      case rel => exact ⟨k + 1, by omega, by go_num, Lib.hid (HW.out.drewN nq)⟩
      case measure => simp [intOf]; omega
    · have hlt' : ¬ (k : Int) < (L.length : Int) := by omega
      go_wp2
      go_ret
      exact ⟨rfl, HW.out⟩

end Go.Proofs.Ytpppjipelcfnkaa
