/-
  The program's disk: where a sector's newest bytes lie.
-/
import Derived.Test.YtbjbnjpdackloaaVrDisk
namespace Go.Proofs.Ytbjbnjpdackloaa
open Go.RowKit

theorem wr_at {w : World} {b o : Nat} {x : Nat × D.Sec} (h : w.rangeAt b o (wrV x)) : w.cell? ⟨b, o, none⟩ = some (.int .i64 (x.1 : Int)) := h 0 _ rfl
theorem wr_to {w : World} {b o : Nat} {x : Nat × D.Sec} (h : w.rangeAt b o (wrV x)) : w.rangeAt b (o + 1) (bytesV x.2) := fun j u hj => by
  have := h (j + 1) u (by rw [wrV, List.getElem?_cons_succ]; exact hj)
  rwa [show o + (j + 1) = o + 1 + j by omega] at this

set_option maxRecDepth 100000 in
set_option maxHeartbeats 1000000 in
theorem newest_any {w : World} {F : Nat → Prop} {v : Value} {d : D.Dk} (h : Hd w F v d) (k : Nat) (hk : k < d.secs.length) :
    Calls Try.prog 44 #[v, .int .i64 k] w fun e w' => ∃ b o, e = .returned (.pointer (some ⟨b, o, none⟩)) ∧ w.rangeAt b o (bytesV (d.read k)) ∧ w' = w := by
  obtain ⟨p, vs, vr, rfl, h⟩ := h
  have HD := Lib.hid h
  obtain ⟨gs, cs, rfl, _, _, hcs⟩ := h.sform
  obtain ⟨A, cr, rfl, hcr⟩ := h.rform
  have c0 := h.blk.c0
  have c1 := h.blk.c1
  have r1 := h.r1
  have n2 := h.n2
  clear h
  go_enter Try.func44, Try.ntmps44
  go_wp2_with fail
  go_loop [5] (fun x => ∃ m : Nat, m ≤ d.row.length ∧ x = .int .i64 ((m : Int) - 1) ∧ Hid (∀ j (hj : j < d.row.length), m ≤ j → d.row[j].1 ≠ k)) (fun x => (intOf x + 1).toNat)
  case atStart => exact ⟨d.row.length, Nat.le_refl _, by go_num, Lib.hid (fun j hj hm => by omega)⟩
  case round =>
    obtain ⟨m, hm, rfl, HN⟩ := hrel
    cases m with
    | zero =>
      have HQ : Hid (d.read k = d.secs[k]) := Lib.hid (by
        rw [D.Dk.read, D.lastOf_none (fun x hx => by
          obtain ⟨j, hj, rfl⟩ := List.getElem_of_mem hx
          exact HN.out j hj (Nat.zero_le _)), List.getD_eq_getElem?_getD, List.getElem?_eq_getElem hk]; rfl)
      have HR := Lib.hid (V.own_range HD.out.secs (secV_len HD.out.fit) k hk)
      go_wp2
      go_ret
      exact ⟨_, _, rfl, by rw [HQ.out]; exact HR.out, rfl⟩
    | succ m =>
      have hm' : m < d.row.length := by omega
      obtain ⟨g, cr', e, _⟩ := HD.out.rform' (by omega)
      cases e
      have HR := Lib.hid (V.own_range HD.out.row (wrV_len HD.out.fit) m hm')
      have hat := wr_at HR.out
      have hcast : ((m + 1 : Nat) : Int) - 1 = (m : Int) := by omega
      rw [hcast]
      by_cases he : d.row[m].1 = k
      · have HQ : Hid (d.read k = d.row[m].2) := Lib.hid (D.lastOf_back d.row k _ m hm' he (fun j hj hmj => HN.out j hj (by omega)))
        have hbq : ((d.row[m].1 : Int) == (k : Int)) = true := by rw [he]; simp
        have HT := Lib.hid (wr_to HR.out)
        rw [← HQ.out] at HT
        obtain ⟨x1, hx1⟩ : ∃ x1, x1 = d.row[m].1 := ⟨_, rfl⟩
        rw [← hx1] at hat hbq
        clear hx1 he HR
        go_wp2
        go_ret
        exact ⟨_, _, rfl, HT.out, rfl⟩
      · have HN2 : Hid (∀ j (hj : j < d.row.length), m ≤ j → d.row[j].1 ≠ k) := Lib.hid (fun j hj hmj => by
          by_cases hjm : j = m
          · subst hjm; exact he
          · exact HN.out j hj (by omega))
        have hbq : ((d.row[m].1 : Int) == (k : Int)) = false := by rw [beq_eq_false_iff_ne]; omega
        obtain ⟨x1, hx1⟩ : ∃ x1, x1 = d.row[m].1 := ⟨_, rfl⟩
        rw [← hx1] at hat hbq
        clear hx1 he HR
        go_wp2
        go_round
        case rel => exact ⟨m, by omega, by go_num, HN2⟩
        case measure => simp [intOf]

end Go.Proofs.Ytbjbnjpdackloaa
