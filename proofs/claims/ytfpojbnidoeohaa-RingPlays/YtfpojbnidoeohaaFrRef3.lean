/-
  Walks of the document's frames: a record's frames.
-/
import Derived.Test.YtfpojbnidoeohaaFrRef2
import Derived.Test.YtfpojbnidoeohaaVrCells
namespace Go.Proofs.Ytfpojbnidoeohaa
open Go.RowKit

theorem elRf : S.El Try.prog 70 102 4 32 := by
  obtain ⟨i0, hi, hz0, hz1, hz2⟩ := info_parts (show (Try.prog.info? 102).map (fun i => (i.zero, i.size, i.bytes)) = some (some (.agg #[.int .u32 0, .int .u32 0, .int .u8 0, .string ⟨#[]⟩]), 4, 32) by kernel_rfl)
  exact ⟨Try.underlying70, ⟨i0, _, hi, hz0, hz1, hz2, rfl⟩, by decide⟩

theorem sg_row1 (w : World) (e : TypeId) (X : Array Value) {k : Nat} (hX : X.size = k) : S.Sg (w.alloc (.cells X e)) (fun b => b = w.heap.size) k (.slice (some ⟨w.heap.size, 0, none⟩) 1 1) 1 X.toList :=
  ⟨by simp [hX], _, 1, rfl, Nat.le_refl _, fun _ => ⟨_, rfl, rfl, fun j x hj => by
    rw [Addr.add_mid]
    rw [cell_of_row _ _ _ X e (0, 0) (heap_alloc_new w _), Nat.zero_add]
    simpa using hj⟩⟩

theorem frC_one (f : R.Fr) : ∀ u ∈ frC f, u.oneCell' = true := by
  intro u hu
  simp only [frC, List.mem_cons, List.not_mem_nil, or_false] at hu
  rcases hu with rfl | rfl | rfl | rfl <;> rfl

/-- frames before the flags are laid -/
def raw (e s : Nat) (rec : List UInt8) (i : Nat) : R.Fr := ⟨e, (s + i) % 4294967296, 0, (rec.drop (50 * i)).take 50⟩
def raws (e s : Nat) (rec : List UInt8) (k : Nat) : List R.Fr := (List.range k).map (raw e s rec)
theorem raws_succ (e s : Nat) (rec : List UInt8) (k : Nat) : raws e s rec (k + 1) = raws e s rec k ++ [raw e s rec k] := by simp [raws, List.range_succ]
theorem raws_len (e s : Nat) (rec : List UInt8) (k : Nat) : (raws e s rec k).length = k := by simp [raws]

def bump (f : R.Fr) : R.Fr := ⟨f.epoch, f.seq, f.flag + 1, f.body⟩

/-- the first one's flag laid, they are what the document says -/
theorem cut_of_raws (e s : Nat) (rec : List UInt8) (k : Nat) (hk : k + 1 = R.many rec.length) : (raws e s rec k ++ [(⟨e, (s + k) % 4294967296, 2, rec.drop (50 * k)⟩ : R.Fr)]).modify 0 bump = R.cut e s rec := by
  have hlast : rec.drop (50 * k) = (rec.drop (50 * k)).take 50 := by
    rw [List.take_of_length_le]
    rw [List.length_drop]
    unfold R.many at hk
    split at hk <;> omega
  apply List.ext_getElem?
  intro j
  rw [R.cut, ← hk, List.getElem?_map, List.getElem?_modify]
  by_cases hj : j < k
  · rw [List.getElem?_append_left (by rw [raws_len]; exact hj)]
    simp only [raws, List.getElem?_map, List.getElem?_range hj, List.getElem?_range (show j < k + 1 by omega), Option.map_some]
    by_cases h0 : 0 = j
    · subst h0
      simp [bump, raw, R.frameOf, R.flagOf, ← hk]
      omega
    · have h1 : ¬ j = 0 := by omega
      have h2 : ¬ j = k := by omega
      simp [h0, raw, R.frameOf, R.flagOf, ← hk, h1, h2]
  · by_cases hjk : j = k
    · subst hjk
      rw [List.getElem?_append_right (by rw [raws_len]; omega), raws_len]
      simp only [Nat.sub_self, List.getElem?_cons_zero, List.getElem?_range (show j < j + 1 by omega), Option.map_some]
      by_cases h0 : 0 = j
      · subst h0; simp [bump, R.frameOf, R.flagOf, ← hk]
        simpa using hlast
      · simp [h0, R.frameOf, R.flagOf, ← hk, show ¬ j = 0 by omega]
        exact hlast
    · rw [List.getElem?_eq_none (by simp [raws_len]; omega), List.getElem?_eq_none (l := List.range (k + 1)) (by simp; omega)]
      rfl

theorem ba_take (l : List UInt8) (n : Nat) : (⟨l.toArray⟩ : ByteArray).extract 0 n = ⟨(l.take n).toArray⟩ := by
  apply ByteArray.ext
  apply Array.toList_inj.1
  simp
theorem ba_drop (l : List UInt8) (n : Nat) : (⟨l.toArray⟩ : ByteArray).extract n l.length = ⟨(l.drop n).toArray⟩ := by
  apply ByteArray.ext
  apply Array.toList_inj.1
  simp
  rw [List.take_of_length_le (by simp)]
theorem own_frs {w : World} {base : Nat} {v : Value} {a : List R.Fr} {f : R.Fr} (h : w.ownsRow base 102 4 v (a.length + 1) (a.flatMap frC ++ frC f)) : w.ownsRow base 102 4 v (a ++ [f]).length ((a ++ [f]).flatMap frC) := by
  rw [List.flatMap_append, List.length_append]
  simpa using h

theorem u8_succ (c : UInt8) : IntKind.u8.wrap ((c.toNat : Int) + 1) = ((c + 1).toNat : Int) := by
  rw [IntKind.wrap_u8, UInt8.toNat_add]
  simp

/-- the first one's flag, one more -/
theorem bump_own {w : World} {base : Nat} {v : Value} {L : List R.Fr} (h : w.ownsRow base 102 4 v L.length (L.flatMap frC)) (hn : 0 < L.length) : ∃ g cap f rs, v = .slice (some ⟨g, 0, none⟩) L.length cap ∧ base ≤ g ∧ L = f :: rs ∧ w.cell? ⟨g, 2, none⟩ = some (.int .u8 (f.flag.toNat : Int)) ∧ w.frozen? ⟨g, 2, none⟩ = false ∧
    (w.setCell ⟨g, 2, none⟩ (.int .u8 ((f.flag + 1).toNat : Int))).ownsRow base 102 4 (.slice (some ⟨g, 0, none⟩) L.length cap) L.length ((L.modify 0 bump).flatMap frC) := by
  obtain ⟨g, cap, _, rfl, _⟩ := V.own_form h hn
  have hg := (World.ownsRow.lt h g rfl).1
  match L, h, hn with
  | f :: rs, h, _ =>
    refine ⟨g, cap, f, rs, rfl, hg, rfl, V.own_cell h (j := 2) rfl, V.own_frozen h 2, ?_⟩
    have := (V.own_stored Try.prog h 2 [.int .u8 ((f.flag + 1).toNat : Int)] (by simp; omega) (by simp [Value.oneCell'])).1
    exact this

set_option maxRecDepth 100000 in
set_option maxHeartbeats 2000000 in
theorem rcut_any (e s : Nat) (rec : List UInt8) (w : World) (_he : e < 4294967296) (hs : s < 4294967296) (hl : rec.length ≤ 1000000) :
    Calls Try.prog 29 #[.int .u32 e, .int .u32 s, .string ⟨rec.toArray⟩] w fun r w' => ∃ v, r = .returned v ∧ w'.ownsRow w.heap.size 102 4 v (R.cut e s rec).length ((R.cut e s rec).flatMap frC) ∧ Below w.heap.size w w' := by
  go_enter Try.func29, Try.ntmps29
  go_wp2_with fail
  go_loopw [1, 2, 7] (fun q x v wr => ∃ k : Nat, 50 * k ≤ rec.length ∧ (k ≠ 0 → 50 * k < rec.length) ∧ q = .int .u32 (((s + k) % 4294967296 : Nat) : Int) ∧ x = .string ⟨(rec.drop (50 * k)).toArray⟩ ∧ wr.ownsRow w.heap.size 102 4 v (raws e s rec k).length ((raws e s rec k).flatMap frC) ∧ Below w.heap.size w wr) (fun _ x _ _ => match x with | .string s => s.size | _ => 0)
  case atStart => exact ⟨0, by omega, fun h => absurd rfl h, by rw [Nat.add_zero, Nat.mod_eq_of_lt hs], by simp, S.own_nil _ _ _ _, Below.refl _ _⟩
  case round =>
    obtain ⟨k, hk, hk0, rfl, rfl, hown, hb⟩ := hrel
    obtain ⟨T, hT⟩ : ∃ T, T = rec.drop (50 * k) := ⟨_, rfl⟩
    have lT : T.length = rec.length - 50 * k := by rw [hT, List.length_drop]
    have HT := Lib.hid hT
    rw [← hT]
    clear hT
    obtain ⟨q, hq⟩ : ∃ q, q = (s + k) % 4294967296 := ⟨_, rfl⟩
    have hql : q < 4294967296 := by omega
    have HQ := Lib.hid hq
    rw [← hq]
    clear hq
    obtain ⟨A, cap, rfl, hc⟩ : ∃ A cap, u7 = .slice A (raws e s rec k).length cap ∧ (raws e s rec k).length ≤ cap := by
      obtain ⟨_, A, cap, e, hc, _⟩ := S.Sg.of_own hown
      exact ⟨A, cap, e, hc⟩
    have lr := raws_len e s rec k
    have HR := Lib.hid lr
    have HL := Lib.hid lT
    by_cases hlt : 50 < T.length
    · have hlt' : (50 : Int) < (T.length : Int) := by omega
      have h50 : (50 : Int) ≤ (T.length : Int) := by omega
      have HX : Hid ([.int .u32 (e : Int), .int .u32 (q : Int), .int .u8 0, .string ((⟨T.toArray⟩ : ByteArray).extract 0 50)] = frC (raw e s rec k)) := Lib.hid (by
        rw [frC, raw, ← HQ.out, ← HT.out, ba_take]; rfl)
      clear lr lT
      go_wp2_with (at_builtin; refine S.wpList_append_sg elRf rfl _ _ rfl (base := w.heap.size) (xs := (raws e s rec k).flatMap frC) (cs := [.int .u32 (e : Int), .int .u32 (q : Int), .int .u8 0, .string ((⟨T.toArray⟩ : ByteArray).extract 0 50)]) rfl rfl (hown.alloc _) (sg_row1 wr 102 #[.int .u32 (e : Int), .int .u32 (q : Int), .int .u8 0, .string ((⟨T.toArray⟩ : ByteArray).extract 0 50)] rfl) (by rw [HX.out]; exact frC_one _) (by rw [HR.out]; omega) (by rw [HR.out]; omega) (by have := hb.size; simp; omega) ?_)
      intro v2 w2 hown2 hgrow2 _
      have HB := Lib.hid (S.below_app (hb.alloc hb.size _) (Nat.le_refl _) (hown.alloc _) hgrow2)
      rw [HX.out] at hown2
      have HO := own_frs hown2
      rw [← raws_succ] at HO
      have HO := Lib.hid HO
      clear hown2 hgrow2 hown hb
      go_wp2
      go_roundw
      case rel => exact ⟨k + 1, by have := HL.out; omega, fun _ => by have := HL.out; omega, by rw [show ((q : Int) + 1) % 4294967296 = (((s + (k + 1)) % 4294967296 : Nat) : Int) by have := HQ.out; omega], by rw [ba_drop, HT.out, List.drop_drop, show 50 * k + 50 = 50 * (k + 1) by omega], HO.out, HB.out⟩
      case measure => simp [ByteArray.size]; omega
    · have hlt' : ¬ (50 : Int) < (T.length : Int) := by omega
      have hmany : k + 1 = R.many rec.length := by
        have := HL.out
        unfold R.many
        split <;> omega
      have HX : Hid ([.int .u32 (e : Int), .int .u32 (q : Int), .int .u8 2, .string ⟨T.toArray⟩] = frC ⟨e, (s + k) % 4294967296, 2, rec.drop (50 * k)⟩) := Lib.hid (by
        rw [frC, ← HQ.out, ← HT.out]; rfl)
      have HF := Lib.hid (cut_of_raws e s rec k hmany)
      clear lr lT
      go_wp2_with (at_builtin; refine S.wpList_append_sg elRf rfl _ _ rfl (base := w.heap.size) (xs := (raws e s rec k).flatMap frC) (cs := [.int .u32 (e : Int), .int .u32 (q : Int), .int .u8 2, .string ⟨T.toArray⟩]) rfl rfl (hown.alloc _) (sg_row1 wr 102 #[.int .u32 (e : Int), .int .u32 (q : Int), .int .u8 2, .string ⟨T.toArray⟩] rfl) (by rw [HX.out]; exact frC_one _) (by rw [HR.out]; omega) (by rw [HR.out]; omega) (by have := hb.size; simp; omega) ?_)
      intro v2 w2 hown2 hgrow2 _
      have hb2 := S.below_app (hb.alloc hb.size _) (Nat.le_refl _) (hown.alloc _) hgrow2
      rw [HX.out] at hown2
      have HO := own_frs hown2
      have hlen : (raws e s rec k ++ [(⟨e, (s + k) % 4294967296, 2, rec.drop (50 * k)⟩ : R.Fr)]).length = k + 1 := by simp [HR.out]
      clear hown2 hgrow2 hown hb
      obtain ⟨g, cap2, f0, rs, rfl, hgb, hL, c2, z2, HE⟩ := bump_own HO (by omega)
      rw [HF.out] at HE
      have hcl : (R.cut e s rec).length = k + 1 := by rw [R.cut_len, hmany]
      obtain ⟨d, hd⟩ : ∃ d, d = f0.flag + 1 := ⟨_, rfl⟩
      have h8 : ((f0.flag.toNat : Int) + 1) % 256 = (d.toNat : Int) := by rw [hd]; have := u8_succ f0.flag; rwa [IntKind.wrap_u8] at this
      rw [← hd, hlen] at HE
      have HE2 : Hid ((w2.setCell ⟨g, 2, none⟩ (.int .u8 (d.toNat : Int))).ownsRow w.heap.size 102 4 (.slice (some ⟨g, 0, none⟩) (k + 1) cap2) (R.cut e s rec).length ((R.cut e s rec).flatMap frC)) := Lib.hid (by rw [hcl]; exact HE)
      have HB := Lib.hid (hb2.setCell (p := ⟨g, 2, none⟩) hgb (.int .u8 (d.toNat : Int)))
      rw [hlen]
      obtain ⟨c, hc⟩ : ∃ c, c = f0.flag := ⟨_, rfl⟩
      rw [← hc] at c2 h8
      clear HO HE hb2 hL hd hc hlen hcl HF
      go_wp2
      go_ret
      exact ⟨_, rfl, HE2.out, HB.out⟩

end Go.Proofs.Ytfpojbnidoeohaa
