/-
  Walks of layer scan's laws: begins: records that were found are a begin of those that are kept.
-/
import Derived.Test.YtnjhbmjhldfdpaaScRunM
namespace Go.Proofs.Ytnjhbmjhldfdpaa
open Go.RowKit

set_option maxRecDepth 100000 in
set_option maxHeartbeats 4000000 in
theorem begins7_any {w : World} {Fl Fs : Nat → Prop} {vl vs ve : Value} {da va : Addr} {kept : List (Nat × List UInt8)} {syn j : Nat} (hl : Recs w Fl vl ((kept.take j).map Q.told)) (hFl : ∀ b, Fl b → b < w.heap.size) (hs : SlR w Fs vs kept) (he : SlE w Fs ve kept) (hFs : ∀ b, Fs b → b < w.heap.size) (hj : j ≤ kept.length) (hk : kept.length ≤ 1000) :
    Calls Try.prog 20 #[vl, .agg #[.pointer (some da), .pointer (some va), vs, ve, .int .i64 (syn : Int)]] w fun e w' => e = .returned (.bool true) ∧ Below w.heap.size w w' := by
  have hlen : ((kept.take j).map Q.told).length = j := by simp; omega
  have HLL := Lib.hid hlen
  have HL := Lib.hid hl
  have HS := Lib.hid hs
  have HE := Lib.hid he
  obtain ⟨A0, c0, e0, hc0⟩ := hl.form
  rw [hlen] at e0 hc0
  subst e0
  obtain ⟨A1, c1, rfl, hc1⟩ := Sg_form hs
  obtain ⟨A2, c2, rfl, hc2⟩ := Sg_form he
  clear hl hs he hlen
  have P0 := Bk.new w [.pointer (some da), .pointer (some va), .slice A1 kept.length c1, .slice A2 kept.length c2, .int .i64 (syn : Int)] 55 rfl
  have hb0 : Below w.heap.size w (w.alloc (.cells #[.pointer (some da), .pointer (some va), .slice A1 kept.length c1, .slice A2 kept.length c2, .int .i64 (syn : Int)] 55)) := (Below.refl _ _).alloc (Nat.le_refl _) _
  have hjn : ¬ (kept.length : Int) < (j : Int) := by omega
  go_enter Try.func20, Try.ntmps20
  go_wp2_with fail
  generalize w.alloc (.cells #[.pointer (some da), .pointer (some va), .slice A1 kept.length c1, .slice A2 kept.length c2, .int .i64 (syn : Int)] 55) = w0 at *
  go_loopw [5] (fun i wr => ∃ k : Nat, k ≤ j ∧ i = .int .i64 (k : Int) ∧ Below w0.heap.size w0 wr) (fun i _ => j - (intOf i).toNat)
  case atStart => exact ⟨0, Nat.zero_le _, rfl, Below.refl _ _⟩
  case round =>
    obtain ⟨k, hkj, rfl, hb⟩ := hrel
    have hbw : Below w.heap.size w wr := hb0.trans (hb.mono hb0.size)
    by_cases hlt : k < j
    · have hlt' : (k : Int) < (j : Int) := by omega
      have hkk : k < kept.length := by omega
      have hkk' : (k : Int) < (kept.length : Int) := by omega
      obtain ⟨a, cap, vb, e, _, _, y0, y1, hsb⟩ := (HL.out.below hbw hFl).nth k (by rw [HLL.out]; exact hlt)
      rw [HLL.out] at e
      cases e
      obtain ⟨a1, cap1, e1, _, _, z1⟩ := Sg_at (HS.out.below hbw hFs) k hkk
      cases e1
      obtain ⟨a2, cap2, e2, _, _, z2⟩ := Sg_at (HE.out.below hbw hFs) k hkk
      cases e2
      rw [recV_at kept k hkk] at z1
      rw [endV_at kept k hkk] at z2
      have hx : ((kept.take j).map Q.told)[k]'(by rw [HLL.out]; exact hlt) = (kept[k].1 + R.many kept[k].2.length, kept[k].2) := by simp [Q.told]
      rw [hx] at y0 hsb
      have hcv := conv_sg hsb
      obtain ⟨Ab, capb, rfl, hcb⟩ := Sg_form hsb
      obtain ⟨n, hn⟩ : ∃ n, n = kept[k].1 + R.many kept[k].2.length := ⟨_, rfl⟩
      obtain ⟨t, ht⟩ : ∃ t, t = kept[k].2 := ⟨_, rfl⟩
      simp only at y0 y1 hsb hcv hcb
      rw [← hn] at y0 z2
      rw [← ht] at z1 y1 hcv hcb
      have P1 := P0.step hb
      have p2 : wr.cell? ⟨w.heap.size, 2, none⟩ = some (.slice (some a1) kept.length c1) := P1.cell 2 _ rfl
      have p3 : wr.cell? ⟨w.heap.size, 3, none⟩ = some (.slice (some a2) kept.length c2) := P1.cell 3 _ rfl
      have hk2 : k * 2 < 9223372036854775807 := by omega
      have hcv' := conv_sg (hsb.drew)
      rw [← ht] at hcv'
      have HS0 : Hid (wr.drew.cell? (a.add (k * 2)) = some (.int .u32 (n : Int)) ∧ wr.drew.cell? ⟨(a.add (k * 2)).block, (a.add (k * 2)).off + 1, none⟩ = some (.slice Ab t.length capb) ∧ wr.drew.cell? ⟨w.heap.size, 2, none⟩ = some (.slice (some a1) kept.length c1) ∧ wr.drew.cell? ⟨w.heap.size, 3, none⟩ = some (.slice (some a2) kept.length c2) ∧ wr.drew.cell? (a1.add k) = some (.string ⟨t.toArray⟩) ∧ wr.drew.cell? (a2.add k) = some (.int .u32 (n : Int)) ∧ (convert 36 9 (.slice Ab t.length capb)).run Try.prog wr.drew = .ok (.string ⟨t.toArray⟩) wr.drew) := Lib.hid ⟨y0, y1, p2, p3, z1, z2, hcv'⟩
      clear hn ht hsb P1 hx y0 y1 p2 p3 z1 z2 hcv hcv'
      go_wp2_with fail
      go_region_held3 (fun w' => (w'.cell? (a.add (k * 2)) = some (.int .u32 (n : Int)) ∧ w'.cell? ⟨(a.add (k * 2)).block, (a.add (k * 2)).off + 1, none⟩ = some (.slice Ab t.length capb) ∧ w'.cell? ⟨w.heap.size, 2, none⟩ = some (.slice (some a1) kept.length c1) ∧ w'.cell? ⟨w.heap.size, 3, none⟩ = some (.slice (some a2) kept.length c2) ∧ w'.cell? (a1.add k) = some (.string ⟨t.toArray⟩) ∧ w'.cell? (a2.add k) = some (.int .u32 (n : Int)) ∧ (convert 36 9 (.slice Ab t.length capb)).run Try.prog w' = .ok (.string ⟨t.toArray⟩) w'))
        (first | with_reducible exact HS0.out | with_reducible assumption)
        (fail)
      go_wp2_with fail
      go_roundw
      case rel => exact ⟨k + 1, by omega, by go_num, hb.drew⟩
      case measure => simp [intOf]; omega
    · obtain rfl : k = j := by omega
      have hlt' : ¬ (k : Int) < (k : Int) := by omega
      go_wp2
      go_ret
      exact ⟨rfl, hbw⟩

end Go.Proofs.Ytnjhbmjhldfdpaa
