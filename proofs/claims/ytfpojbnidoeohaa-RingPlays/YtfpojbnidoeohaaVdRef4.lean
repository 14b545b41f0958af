/-
  Walks of the document's disk: a sector read.
-/
import Derived.Test.YtfpojbnidoeohaaVdRef3
namespace Go.Proofs.Ytfpojbnidoeohaa
open Go.RowKit

theorem Sg_at {w : World} {F : Nat → Prop} {n : Nat} {v : Value} {cs : List Value} (h : S.Sg w F 1 v n cs) (k : Nat) (hk : k < n) : ∃ a cap, v = .slice (some a) n cap ∧ n ≤ cap ∧ F a.block ∧ w.cell? (a.add k) = cs[k]? := by
  obtain ⟨hl, A, cap, e, hc, hx⟩ := h
  obtain ⟨a, rfl, hb, hx⟩ := hx (by omega)
  have hk' : k < cs.length := by omega
  exact ⟨a, cap, e, hc, hb, by rw [hx k _ (List.getElem?_eq_getElem hk'), List.getElem?_eq_getElem hk']⟩

/-- what a read tells -/
def rdV (d : D.Dk) (i : Int) : Value := if d.there i then .tuple #[.string ⟨(d.read i.toNat).toArray⟩, .int .i64 0] else .tuple #[.string ⟨#[]⟩, .int .i64 11]

set_option maxRecDepth 100000 in
set_option maxHeartbeats 1000000 in
theorem rread_any (v : Value) (d : D.Dk) (i : Int) (w : World) (F : Nat → Prop) (hF : ∀ b, F b → b < w.heap.size) (h : Rd w F v d) (hr : d.row.length ≤ 1000000) (_hn : d.secs.length ≤ 1000000) :
    Calls Try.prog 21 #[v, .int .i64 i] w fun e w' => e = .returned (rdV d i) ∧ Below w.heap.size w w' := by
  obtain ⟨a, b, c, rfl, h1, h2, h3⟩ := h
  have h2 : S.Sg w F 1 b (d.row.map (·.1)).length (intV (d.row.map (·.1))) := h2
  have h3 : S.Sg w F 1 c (d.row.map (·.2)).length (strV (d.row.map (·.2))) := h3
  rw [List.length_map] at h2 h3
  obtain ⟨A1, cap1, rfl, hc1⟩ := Sg_form h1
  obtain ⟨A2, cap2, rfl, hc2⟩ := Sg_form h2
  obtain ⟨A3, cap3, rfl, hc3⟩ := Sg_form h3
  have H1 := Lib.hid h1
  have H2 := Lib.hid h2
  have H3 := Lib.hid h3
  clear h1 h2 h3
  have hb1 : Below w.heap.size w (w.alloc (.cells #[.slice A1 d.secs.length cap1, .slice A2 d.row.length cap2, .slice A3 d.row.length cap3] 36)) := (Below.refl _ _).alloc (Nat.le_refl _) _
  have hP := B3.new w (.slice A1 d.secs.length cap1) (.slice A2 d.row.length cap2) (.slice A3 d.row.length cap3) 36 rfl
  by_cases ht : d.there i
  · obtain ⟨k, rfl⟩ := Int.eq_ofNat_of_zero_le ht.1
    have hi := ht.2
    have hi' : k < d.secs.length := by omega
    rw [rdV, if_pos ht, Int.toNat_natCast]
    clear ht
    go_enter Try.func21, Try.ntmps21
    go_wp2_with fail
    generalize w.alloc (.cells #[.slice A1 d.secs.length cap1, .slice A2 d.row.length cap2, .slice A3 d.row.length cap3] 36) = w1 at hb1 hP
    generalize w.heap.size = p at hP
    obtain ⟨_, p0, p1, p2, _⟩ := hP
    go_loop [6] (fun x => ∃ m : Nat, m ≤ d.row.length ∧ x = .int .i64 ((m : Int) - 1) ∧ Hid (∀ j (hj : j < d.row.length), m ≤ j → d.row[j].1 ≠ k)) (fun x => (intOf x + 1).toNat)
    case atStart => exact ⟨d.row.length, Nat.le_refl _, by go_num, Lib.hid (fun j hj hm => by omega)⟩
    case round =>
      obtain ⟨m, hm, rfl, HN⟩ := hrel
      cases m with
      | zero =>
        obtain ⟨a1, cap1', e1, _, hab, hcell⟩ := Sg_at H1.out k hi'
        cases e1
        have hc : w1.cell? (a1.add k) = some (.string ⟨d.secs[k].toArray⟩) := by
          rw [hb1.cell (by rw [S.add_block]; exact hF _ hab), hcell, strV_at _ _ hi']
        clear hcell
        have HQ : Hid (d.read k = d.secs[k]) := Lib.hid (by
          rw [D.Dk.read, D.lastOf_none (fun x hx => by
            obtain ⟨j, hj, rfl⟩ := List.getElem_of_mem hx
            exact HN.out j hj (Nat.zero_le _)), List.getD_eq_getElem?_getD, List.getElem?_eq_getElem hi']; rfl)
        obtain ⟨sec, hsec⟩ : ∃ sec, sec = d.secs[k] := ⟨_, rfl⟩
        rw [← hsec] at hc HQ
        clear hsec
        go_wp2
        go_ret2
        exact ⟨ret_v (by rw [HQ.out]; rfl), hb1⟩
      | succ m =>
        obtain ⟨a2, cap2', e2, _, hab2, hcell2⟩ := Sg_at H2.out m (by omega)
        obtain ⟨a3, cap3', e3, _, hab3, hcell3⟩ := Sg_at H3.out m (by omega)
        cases e2
        cases e3
        have hm' : m < d.row.length := by omega
        have hc2' : w1.cell? (a2.add m) = some (.int .i64 (d.row[m].1 : Int)) := by
          rw [hb1.cell (by rw [S.add_block]; exact hF _ hab2), hcell2, intV_at _ _ (by simp; omega), List.getElem_map]
        have hc3' : w1.cell? (a3.add m) = some (.string ⟨d.row[m].2.toArray⟩) := by
          rw [hb1.cell (by rw [S.add_block]; exact hF _ hab3), hcell3, strV_at _ _ (by simp; omega), List.getElem_map]
        clear hcell2 hcell3
        have hcast : ((m + 1 : Nat) : Int) - 1 = (m : Int) := by omega
        rw [hcast]
        by_cases he : d.row[m].1 = k
        · have HQ : Hid (d.read k = d.row[m].2) := Lib.hid (D.lastOf_back d.row k _ m hm' he (fun j hj hmj => HN.out j hj (by omega)))
          have hbq : ((d.row[m].1 : Int) == (k : Int)) = true := by rw [he]; simp
          obtain ⟨x1, hx1⟩ : ∃ x1, x1 = d.row[m].1 := ⟨_, rfl⟩
          obtain ⟨x2, hx2⟩ : ∃ x2, x2 = d.row[m].2 := ⟨_, rfl⟩
          rw [← hx1] at hc2' hbq
          rw [← hx2] at hc3' HQ
          clear hx1 hx2 he
          go_wp2
          go_ret2
          exact ⟨ret_v (by rw [HQ.out]; rfl), hb1⟩
        · have HN2 : Hid (∀ j (hj : j < d.row.length), m ≤ j → d.row[j].1 ≠ k) := Lib.hid (fun j hj hmj => by
            by_cases hjm : j = m
            · subst hjm; exact he
            · exact HN.out j hj (by omega))
          have hbq : ((d.row[m].1 : Int) == (k : Int)) = false := by rw [beq_eq_false_iff_ne]; omega
          obtain ⟨x1, hx1⟩ : ∃ x1, x1 = d.row[m].1 := ⟨_, rfl⟩
          rw [← hx1] at hc2' hbq
          clear hx1 he hc3'
          go_wp2
          go_round
          case rel => exact ⟨m, by omega, by go_num, HN2⟩
          case measure => simp [intOf]
  · rw [rdV, if_neg ht]
    by_cases h0 : i < 0
    · go_enter Try.func21, Try.ntmps21
      go_wp2
      go_ret2
      exact ⟨rfl, hb1⟩
    · have h1 : (d.secs.length : Int) ≤ i := by
        have : ¬ i < d.secs.length := fun g => ht ⟨by omega, g⟩
        omega
      go_enter Try.func21, Try.ntmps21
      go_wp2
      go_ret2
      exact ⟨rfl, hb1⟩

end Go.Proofs.Ytfpojbnidoeohaa
