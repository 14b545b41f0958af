/-
  The law VdiskStays, walked: what was synced stays, whatever is written to other sectors, and crashes.
-/
import Derived.Test.YtbnoocjhlofnoaaVdLaw9
namespace Go.Proofs.Ytbnoocjhlofnoaa
open Go.RowKit

/-- the cells of an array of bytes -/
def arr (l : List UInt8) : Array Value := (bytesV l).toArray
theorem arr_size (l : List UInt8) : (arr l).size = l.length := by simp [arr, bytesV_length]
theorem arr_at (l : List UInt8) (j : Nat) (h : j < l.length) : (arr l)[j]? = some (.int .u8 (l[j].toNat : Int)) := by
  simp only [arr, List.getElem?_toArray]; exact bytesV_at l j h

/-- an array's bytes, all of them, as a slice -/
theorem sl_arr {w : World} {g n : Nat} {l : List UInt8} {t : TypeId} (h : w.heap[g]? = some (.cells (arr l) t (0, 0))) (hl : l.length = n) : SlB w (fun b => b = g) (.slice (some ⟨g, 0, none⟩) n n) l := by
  refine ⟨by rw [bytesV_length, Nat.mul_one], _, n, by rw [hl], by omega, fun _ => ⟨_, rfl, rfl, fun j u hj => ?_⟩⟩
  have hjl := (List.getElem?_eq_some_iff.1 hj).1
  rw [bytesV_length] at hjl
  rw [Addr.add_lit, Nat.zero_add, cell_of_row w g j _ _ _ h, arr_at l j hjl, ← hj, bytesV_at l j hjl]

theorem write_row (d : D.Dk) (i : Int) (b : List UInt8) : (d.write i b).row.length ≤ d.row.length + 1 := by
  unfold D.Dk.write; split <;> simp
theorem crash_row (d : D.Dk) (k : List Bool) : (d.crash k).row.length = 0 := rfl

/-- an argument's cell stays behind a turn of the law's own blocks -/
theorem Turn.arg {F : Nat → Prop} {w wr w2 : World} (ht : Turn F wr w2) (hF : ∀ b, F b → w.heap.size ≤ b) (hb : Below w.heap.size w wr) {p : Addr} (hp : p.block < w.heap.size) : w2.cell? p = wr.cell? p :=
  ht.cell (Nat.lt_of_lt_of_le hp hb.size) (fun g => by have := hF _ g; omega)

section
variable {H : World → (Nat → Prop) → Value → D.Dk → Prop}

/-- one disk, made by the law; what was there has not turned -/
structure One (H : World → (Nat → Prop) → Value → D.Dk → Prop) (w : World) (v : Value) (d : D.Dk) (F : Nat → Prop) (wr : World) : Prop where
  real : H wr F v d
  new : ∀ b, F b → w.heap.size ≤ b
  bel : Below w.heap.size w wr

theorem One.turn {w wr w2 : World} {v : Value} {d d' : D.Dk} {F : Nat → Prop} (h : One H w v d F wr) (h2 : H w2 (More F wr w2) v d') (ht : Turn F wr w2) : One H w v d' (More F wr w2) w2 :=
  ⟨h2, fun b g => g.elim (h.new b) (fun g => Nat.le_trans h.bel.size g.1), h.bel.trans (ht.below h.bel.size h.new)⟩
theorem One.below (K : DiskOk H) {w wr w2 : World} {v : Value} {d : D.Dk} {F : Nat → Prop} (h : One H w v d F wr) (hb : Below wr.heap.size wr w2) : One H w v d F w2 :=
  ⟨K.below h.real hb, h.new, below_two h.bel hb⟩

theorem bad_ok {d : D.Dk} {i : Nat} {l : List UInt8} (hi : i < d.secs.length) (hl : l.length ≤ 64) : d.bad (i : Int) l = 0 := by
  rw [D.Dk.bad, if_pos ⟨by omega, by omega⟩, if_pos hl]

set_option maxRecDepth 100000 in
set_option maxHeartbeats 4000000 in
theorem stays_yes (K : DiskOk H) (v v' : Value) (l more : List Deed) (lb : List UInt8) (w : World) (G : Nat → Prop) (hd : Deeds w G v l) (hd' : Deeds w G v' more) (hG : ∀ b, G b → b < w.heap.size) (hf : fewM l = true) (hf' : fewM more = true) (hlb : lb.length = 9) :
    Calls Try.prog 4 #[v, v', .agg (arr lb)] w fun e w' => e = .returned (.bool true) ∧ Below w.heap.size w w' := by
  have hmore := few_of hf'
  have HM := Lib.hid hmore.2
  have hm60 := hmore.1
  have hl60 := (few_of hf).1
  have HD := Lib.hid hd
  have HD' := Lib.hid hd'
  obtain ⟨A, cap, rfl, hc, _⟩ := hd
  obtain ⟨A', cap', rfl, hc', _⟩ := hd'
  clear hmore
  have hsz := arr_size lb
  have hba : Below w.heap.size w (w.alloc (.cells (arr lb) 45)) := (Below.refl _ _).alloc (Nat.le_refl _) _
  have hh0 : (w.alloc (.cells (arr lb) 45)).heap[w.heap.size]? = some (.cells (arr lb) 45 (0, 0)) := heap_alloc_new w _
  have hz0 : (w.alloc (.cells (arr lb) 45)).heap.size = w.heap.size + 1 := by simp
  go_enter Try.func4, Try.ntmps4
  go_wp2_with fail
  refine (vawake_any K _).mono ?_
  rintro e w1 ⟨rfl, hb1⟩
  have hb1' := below_two hba hb1
  have HF1 := Lib.hid (by have := few_any (.slice A l.length cap) l w1 G (HD.out.below hb1' hG) (by omega); rw [hf] at this; exact this)
  have HF2 := Lib.hid (by have := few_any (.slice A' more.length cap') more w1 G (HD'.out.below hb1' hG) (by omega); rw [hf'] at this; exact this)
  go_wp2_with fail
  refine HF1.out.mono ?_
  rintro e w1' ⟨rfl, rfl⟩
  go_wp2_with fail
  refine HF2.out.mono ?_
  rintro e w1' ⟨rfl, rfl⟩
  have HR := Lib.hid (run_any K (.slice A l.length cap) l w1 G (HD.out.below hb1' hG) (fun b h => Nat.lt_of_lt_of_le (hG b h) hb1'.size) hf)
  clear HF1 HF2
  go_wp2_with fail
  refine HR.out.mono ?_
  rintro e w2 ⟨p, F2, rfl, hH2, hF2, hb2⟩
  obtain ⟨pa, rfl⟩ := K.ptr hH2
  have hh2 : w2.heap[w.heap.size]? = some (.cells (arr lb) 45 (0, 0)) := (hb2.block _ (by have := hb1.size; omega)).trans ((hb1.block _ (by omega)).trans hh0)
  have hO2 : One H w (.pointer (some pa)) (steps (newD 8) l) F2 w2 := ⟨hH2, fun b g => Nat.le_trans hb1'.size (hF2 b g), below_two hb1' hb2⟩
  have hlt2 : w.heap.size < w2.heap.size := by have := hb1.size; have := hb2.size; omega
  have nF2 : ¬ F2 w.heap.size := fun g => by have := hF2 _ g; have := hb1.size; omega
  have hdl : (steps (newD 8) l).secs.length = 8 := by rw [steps_len]; rfl
  have hdr : (steps (newD 8) l).row.length ≤ 60 := by have := steps_row l (newD 8); simp [newD] at this ⊢; omega
  have HW := Lib.hid (by have := K.write (fun b => b = w.heap.size) (.slice (some ⟨w.heap.size, 0, none⟩) 9 9) lb 3 hH2 (sl_arr hh2 hlb) (fun b h => by omega) (by omega) (by omega) (by omega) (by omega); rw [show (3 : Int) = ((3 : Nat) : Int) from rfl, bad_ok (by omega) (by omega)] at this; exact this)
  clear HR hH2 hF2 hb2 hb1 hba hh0 hz0 hb1'
  go_wp2_with fail
  refine HW.out.mono ?_
  rintro e w3 ⟨rfl, hH3, ht3⟩
  have hO3 := hO2.turn hH3 ht3
  have hh3 := (ht3.block _ hlt2 nF2).trans hh2
  have hlt3 := Nat.lt_of_lt_of_le hlt2 ht3.size
  have nF3 : ¬ More F2 w2 w3 w.heap.size := fun g => g.elim nF2 (fun g => by have := g.1; omega)
  have HS := Lib.hid (K.sync hO3.real)
  clear HW hH3 ht3 hO2 hh2 nF2 hlt2
  generalize More F2 w2 w3 = F3 at *
  go_wp2_with fail
  refine HS.out.mono ?_
  rintro e w4 ⟨rfl, hH4, ht4⟩
  have hO4 := hO3.turn hH4 ht4
  have hh4 := (ht4.block _ hlt3 nF3).trans hh3
  have hlt4 := Nat.lt_of_lt_of_le hlt3 ht4.size
  have nF4 : ¬ More F3 w3 w4 w.heap.size := fun g => g.elim nF3 (fun g => by have := g.1; omega)
  have hK4 := D.Keeps.start (steps (newD 8) l) 3 lb (by omega) (by omega)
  have hdl4 : (((steps (newD 8) l).write ((3 : Nat) : Int) lb).sync).secs.length = 8 := by rw [D.sync_len, D.write_len]; exact hdl
  have hdr4 : (((steps (newD 8) l).write ((3 : Nat) : Int) lb).sync).row.length ≤ 0 := by simp [D.Dk.sync]
  clear HS hH4 ht4 hO3 hh3 nF3 hlt3 hdl hdr
  generalize More F3 w3 w4 = F4 at *
  generalize ((steps (newD 8) l).write ((3 : Nat) : Int) lb).sync = d4 at *
  go_wp2_with fail
  go_loopw [10] (fun i wr => ∃ (k : Nat) (d : D.Dk) (F : Nat → Prop), k ≤ more.length ∧ i = .int .i64 k ∧ One H w (.pointer (some pa)) d F wr ∧ D.Keeps d 3 (D.full lb) ∧ d.secs.length = 8 ∧ d.row.length ≤ k ∧ wr.heap[w.heap.size]? = some (.cells (arr lb) 45 (0, 0)) ∧ w.heap.size < wr.heap.size ∧ ¬ F w.heap.size) (fun i _ => more.length - (intOf i).toNat)
  case atStart => exact ⟨0, d4, F4, Nat.zero_le _, rfl, hO4, hK4, hdl4, hdr4, hh4, hlt4, nF4⟩
  case round =>
    clear hO4 hK4 hdl4 hdr4 hh4 hlt4 nF4
    obtain ⟨k, d, F, hk, rfl, hO, hKp, hdl, hdr, hh, hlt0, nF⟩ := hrel
    by_cases hlt : k < more.length
    · obtain ⟨a, cap2, c0, c1, c2, c3, e1, _, hga, d0, d1, d2, d3, hv, hok⟩ := deed_at (HD'.out.below hO.bel hG) k hlt
      cases e1
      have hmb := HM.out more[k] (List.getElem_mem hlt)
      generalize more[k] = X at *
      obtain ⟨rfl, rfl, hv2, hv3⟩ := hv
      obtain ⟨Ab, capb, rfl, hcb⟩ := Sg_form hv2
      obtain ⟨Ak, capk, rfl, hck⟩ := Sg_form hv3
      have hgl : (a.add (k * 4)).block < w.heap.size := by rw [S.add_block]; exact hG _ hga
      have hGr : ∀ b, G b → b < wr.heap.size := fun b h => Nat.lt_of_lt_of_le (hG b h) hO.bel.size
      have hGF : ∀ b, G b → ¬ F b := fun b h g => by have := hG b h; have := hO.new b g; omega
      have i2 : (0 : Int) ≤ (k : Int) := by omega
      have i3 : (k : Int) < (more.length : Int) := by omega
      by_cases k1 : X.kind = 1
      · have kb : (X.kind == 1) = true := by rw [k1]; rfl
        have kb3 : (X.kind == 3) = false := by rw [k1]; rfl
        by_cases a3 : X.at_ = 3
        · have ab : (X.at_ != 3) = false := by rw [a3]; rfl
          go_wp2_with fail
          go_roundw
          case rel => exact ⟨k + 1, d, F, by omega, by go_num, hO, hKp, hdl, by omega, hh, hlt0, nF⟩
          case measure => simp [intOf]; omega
        · have ab : (X.at_ != 3) = true := by rw [bne_iff_ne]; exact a3
          have HW := Lib.hid (K.write G (.slice Ab X.b.length capb) X.b X.at_ (K.keep hO.real (w' := wr.drew) (fun _ _ => rfl) (Nat.le_refl _)) hv2 hGr (by omega) (by omega) hok.a0 hok.a1)
          have HT5 : Hid (∀ w5, H w5 (More F wr.drew w5) (.pointer (some pa)) (d.write X.at_ X.b) → Turn F wr.drew w5 → One H w (.pointer (some pa)) (d.write X.at_ X.b) (More F wr w5) w5 ∧ w5.cell? ⟨(a.add (k * 4)).block, (a.add (k * 4)).off + 1, none⟩ = some (.int .i64 X.at_) ∧ w5.cell? ⟨(a.add (k * 4)).block, (a.add (k * 4)).off + 2, none⟩ = some (.slice Ab X.b.length capb) ∧ w5.cell? (a.add (k * 4)) = some (.int .i64 X.kind) ∧ w5.heap[w.heap.size]? = some (.cells (arr lb) 45 (0, 0)) ∧ w.heap.size < w5.heap.size ∧ ¬ More F wr w5 w.heap.size) := Lib.hid (fun w5 hH5 ht5 => by
            have ht5' : Turn F wr w5 := ⟨ht5.os, ht5.tape, ht5.output, ht5.size, ht5.block⟩
            refine ⟨hO.turn hH5 ht5', (ht5'.arg (p := ⟨(a.add (k * 4)).block, _, none⟩) hO.new hO.bel hgl).trans d1, (ht5'.arg (p := ⟨(a.add (k * 4)).block, _, none⟩) hO.new hO.bel hgl).trans d2, (ht5'.arg hO.new hO.bel hgl).trans d0, (ht5'.block _ hlt0 nF).trans hh, Nat.lt_of_lt_of_le hlt0 ht5'.size, fun g => g.elim nF (fun g => by have := g.1; omega)⟩)
          go_wp2_with fail
          go_region_held3 (fun w' => w'.cell? ⟨(a.add (k * 4)).block, (a.add (k * 4)).off + 1, none⟩ = some (.int .i64 X.at_) ∧ w'.cell? ⟨(a.add (k * 4)).block, (a.add (k * 4)).off + 2, none⟩ = some (.slice Ab X.b.length capb))
            (first | assumption | go_keep)
            (first
              | (go_at_call 19
                 (with_reducible refine HW.out.mono ?_)
                 rintro e w5 ⟨rfl, hH5, ht5⟩
                 obtain ⟨hO5, hA1, hA2, d0', hh5, hlt5, nF5⟩ := HT5.out w5 hH5 ht5
                 have hA := And.intro hA1 hA2))
          all_goals (try go_wp2)
          all_goals go_roundw
          case rel => exact ⟨k + 1, d.write X.at_ X.b, More F wr w5, by omega, by go_num, hO5, hKp.write X.at_ X.b (by simpa using a3), by rw [D.write_len]; exact hdl, by have := write_row d X.at_ X.b; omega, hh5, hlt5, nF5⟩
          case measure => simp [intOf]; omega
      · have kb : (X.kind == 1) = false := by rw [beq_eq_false_iff_ne]; exact k1
        by_cases k3 : X.kind = 3
        · have kb3 : (X.kind == 3) = true := by rw [k3]; rfl
          have HW := Lib.hid (K.crash G (.slice Ak X.keep.length capk) X.keep hO.real hv3 hGr hGF)
          go_wp2_with fail
          refine HW.out.mono ?_
          rintro e w5 ⟨rfl, hH5, ht5⟩
          have hO5 := hO.turn hH5 ht5
          have hh5 := (ht5.block _ hlt0 nF).trans hh
          have hlt5 := Nat.lt_of_lt_of_le hlt0 ht5.size
          have nF5 : ¬ More F wr w5 w.heap.size := fun g => g.elim nF (fun g => by have := g.1; omega)
          go_wp2_with fail
          go_roundw
          case rel => exact ⟨k + 1, d.crash X.keep, More F wr w5, by omega, by go_num, hO5, hKp.crash X.keep, by rw [D.crash_len]; exact hdl, by rw [crash_row]; omega, hh5, hlt5, nF5⟩
          case measure => simp [intOf]; omega
        · have kb3 : (X.kind == 3) = false := by rw [beq_eq_false_iff_ne]; exact k3
          go_wp2_with fail
          go_roundw
          case rel => exact ⟨k + 1, d, F, by omega, by go_num, hO, hKp, hdl, by omega, hh, hlt0, nF⟩
          case measure => simp [intOf]; omega
    · have HR := Lib.hid (by have := K.read_at 3 hO.real (by omega); rw [hKp.read] at this; exact this)
      go_wp2_with fail
      refine HR.out.mono ?_
      rintro e w5 ⟨a5, cap5, rfl, hcap5, hlen5, hs5, hb5⟩
      have hb5' := below_two hO.bel hb5
      have hh5 := (hb5.block _ hlt0).trans hh
      have hcv := conv_sg hs5
      rw [hlen5] at hcv
      have HF := Lib.hid (full_any (.slice (some ⟨w.heap.size, 0, none⟩) 9 9) lb w5.drew (fun b => b = w.heap.size) (fun b h => by have := hb5.size; show b < w5.heap.size; omega) (sl_arr hh5 hlb) (by omega))
      obtain ⟨fl, hfl⟩ : ∃ fl, fl = D.full lb := ⟨_, rfl⟩
      rw [← hfl] at hcv HF
      have hcvd : (convert 34 9 (.slice (some a5) 64 cap5)).run Try.prog w5.drew = .ok (.string ⟨fl.toArray⟩) w5.drew := by
        have := conv_sg hs5.drew
        rw [hlen5, ← hfl] at this
        exact this
      have HC2 : Hid (∀ w6, Below w5.heap.size w5.drew w6 → (convert 34 9 (.slice (some a5) 64 cap5)).run Try.prog w6 = .ok (.string ⟨fl.toArray⟩) w6) := Lib.hid (fun w6 hb6 => by
        have := conv_sg (hs5.drew.below hb6 (fun b h => h.2))
        rw [hlen5, ← hfl] at this
        exact this)
      clear HR hs5
      go_wp2_with fail
      go_region_held3 (fun w' => (convert 34 9 (.slice (some a5) 64 cap5)).run Try.prog w' = .ok (.string ⟨fl.toArray⟩) w')
        (first | assumption | go_keep)
        (first
        | (go_at_call 22
           (with_reducible refine HF.out.mono ?_)
           rintro e w6 ⟨rfl, hb6⟩
           have hcv6 := HC2.out w6 hb6
           have hbf : Below w.heap.size w w6 := hb5'.trans ((Below.refl _ _).drew.trans (hb6.mono hb5'.size))))
      all_goals (try go_wp2)
      all_goals go_ret
      all_goals exact ⟨rfl, hbf⟩
end

end Go.Proofs.Ytbnoocjhlofnoaa
