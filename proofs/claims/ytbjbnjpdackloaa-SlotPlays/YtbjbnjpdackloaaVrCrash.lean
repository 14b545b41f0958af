/-
  The program's disk: a crash.
-/
import Derived.Test.YtbjbnjpdackloaaVrSync
namespace Go.Proofs.Ytbjbnjpdackloaa
open Go.RowKit

theorem kept_cut (row : List (Nat × D.Sec)) : ∀ keep : List Bool, D.kept (row.take keep.length) keep = D.kept row keep := by
  induction row with
  | nil => intro keep; simp
  | cons x r ih =>
    intro keep
    cases keep with
    | nil => simp [D.kept]
    | cons b k => simp only [List.length_cons, List.take_succ_cons, D.kept, ih k]

theorem crash_nil (w : World) : Calls Try.prog 22 #[.pointer none, .slice none 0 0] w fun e w' => e = .returned (.tuple #[]) ∧ w' = w := by
  go_enter Try.func22, Try.ntmps22
  go_wp2
  refine bodyPost_ret (results_none rfl _ _ _) rfl ?_
  exact ⟨rfl, rfl⟩

set_option linter.unusedSimpArgs false in
set_option maxRecDepth 100000 in
set_option maxHeartbeats 2000000 in
theorem crash_any {w : World} {F : Nat → Prop} {v : Value} {d : D.Dk} (G : Nat → Prop) (vk : Value) (keep : List Bool) (h : Hd w F v d) (hkeep : SlT w G vk keep) (hG : ∀ b, G b → b < w.heap.size) (hGF : ∀ b, G b → ¬ F b) :
    Calls Try.prog 22 #[v, vk] w fun e w' => e = .returned (.tuple #[]) ∧ Hd w' (More F w w') v (d.crash keep) ∧ Turn F w w' := by
  obtain ⟨p, vs, vr, rfl, h⟩ := h
  have HD := Lib.hid h
  obtain ⟨gs, cs, rfl, hFgs, hgp, hcs⟩ := h.sform
  obtain ⟨A, cr, rfl, hcr⟩ := h.rform
  obtain ⟨Ak, capk, rfl, hck⟩ := Sg_form hkeep
  have HK := Lib.hid hkeep
  have c1 := h.blk.c1
  have r1 := h.r1
  have n2 := h.n2
  have hgl := h.lt _ hFgs
  have hpl := h.lt _ h.fp
  have hfit := Lib.hid h.fit
  clear h hkeep
  go_enter Try.func22, Try.ntmps22
  go_wp2_with fail
  case inl =>
    have hle : d.row.length ≤ keep.length := by omega
    have HM : Hid (D.kept (d.row.take (d.row.length)) keep = D.kept d.row keep) := Lib.hid (by rw [List.take_length])
    go_loopw [15] (fun i wr => ∃ k : Nat, k ≤ d.row.length ∧ i = .int .i64 k ∧ Hid (Dw wr F p (.slice (some ⟨gs, 0, none⟩) d.secs.length cs) (.slice A d.row.length cr) ⟨D.done d.secs (D.kept (d.row.take k) keep), d.row⟩) ∧ Hid (Turn F w wr)) (fun i _ => d.row.length - (intOf i).toNat)
    case atStart => exact ⟨0, Nat.zero_le _, rfl, HD, Lib.hid (Turn.of_below (Below.refl _ _))⟩
    case round =>
      clear c1
      obtain ⟨k, hk, rfl, HW, HT⟩ := hrel
      by_cases hlt : k < d.row.length
      · have hkr : k < d.row.length := by omega
        have hkk : k < keep.length := by omega
        obtain ⟨ak, capk', ek, _, habk, hcellk⟩ := Sg_at HK.out k hkk
        cases ek
        have hck' : wr.cell? (ak.add k) = some (.bool keep[k]) := by
          rw [HT.out.cell (by rw [S.add_block]; exact hG _ habk) (by rw [S.add_block]; exact hGF _ habk), hcellk, boolV_at _ _ hkk]
        clear hcellk
        obtain ⟨g, cr', e, hFg, hgp', hgs, _⟩ := HW.out.rform' (by show 0 < d.row.length; omega)
        cases e
        have i2 : (0 : Int) ≤ (k : Int) := by omega
        have i3 : (k : Int) < (d.row.length : Int) := by omega
        have i4 : (k : Int) < (keep.length : Int) := by omega
        cases hkb : keep[k]
        · have HN := Lib.hid (kept_skip hkr (fun e => by rw [List.getElem?_eq_getElem hkk, hkb] at e; cases e))
          rw [hkb] at hck'
          go_wp2
          go_roundw
          case rel => exact ⟨k + 1, by omega, by go_num, by rw [HN.out]; exact HW, HT⟩
          case measure => simp [intOf]; omega
        · have HN := Lib.hid (kept_step hkr (by rw [List.getElem?_eq_getElem hkk, hkb]))
          rw [hkb] at hck'
          have hrg := V.own_range HW.out.row (wrV_len HW.out.fit) k hkr
          simp only at hrg
          obtain ⟨x, hx⟩ : ∃ x, x = d.row[k] := ⟨_, rfl⟩
          have hxr := hfit.out.row x (hx ▸ List.getElem_mem hkr)
          rw [← hx] at hrg
          have HN2 : Hid (D.done d.secs (D.kept (d.row.take (k + 1)) keep) = (D.done d.secs (D.kept (d.row.take k) keep)).set x.1 x.2) := Lib.hid (by
            rw [HN.out, D.done_snoc, ← hx])
          have HW2 := HW.out.drew.stored x.1 (by show _ < (D.done d.secs _).length; rw [D.done_len]; exact hxr.1) x.2 hxr.2
          have c0 := HW.out.blk.c0
          have c1 := HW.out.blk.c1
          have hsec := HW.out.secs
          rw [show (⟨D.done d.secs (D.kept (d.row.take k) keep), d.row⟩ : D.Dk).secs.length = d.secs.length from D.done_len _ _] at hsec
          have hth := V.own_there hsec (x.1 * 64) 64 (by have := hxr.1; omega)
          have hat := wr_at hrg
          have hto : wr.rangeAt g (k * 65 + 1) (bytesV x.2) := wr_to hrg
          have c0' := HW2.1.blk.c0
          have c1' := HW2.1.blk.c1
          rw [← HN2.out] at HW2
          have HE := Lib.hid (And.intro HW2.1 (HT.out.vdrew.trans HW2.2))
          have hggs : g ≠ gs := fun e => hgs (by rw [e]; rfl)
          obtain ⟨x1, x2⟩ := x
          obtain ⟨T, hT⟩ : ∃ T, T = bytesV x2 := ⟨_, rfl⟩
          have hTl : T.length = 64 := by rw [hT, bytesV_length, hxr.2]
          have hT1 : ∀ v ∈ T, v.oneCell' = true := by rw [hT]; exact bytesV_one _
          have hxl := hxr.1
          simp only at hat hto hth HE c0' c1' hxl
          rw [← hT] at hto HE c0' c1'
          have hTs : (Try.prog.info? 92).map (·.size) = some T.length := by rw [sizeSec, hTl]
          have hat' : (wr.drew.setCells gs (x1 * 64) T).cell? ⟨g, k * 65, none⟩ = some (.int .i64 (x1 : Int)) := (World.cell?_setCells_out gs T _ _ _ (fun e => absurd e hggs)).trans hat
          have hS' := And.intro c0' (And.intro c1' (And.intro hat' (And.intro (World.rangeAt_setCells_apart (w := wr.drew) hto gs (x1 * 64) T (Or.inl hggs)) (World.there_setCells (w := wr.drew) hth gs (x1 * 64) T))))
          have hS0 : wr.drew.cell? ⟨p, 0, none⟩ = some (.slice (some ⟨gs, 0, none⟩) d.secs.length cs) ∧ wr.drew.cell? ⟨p, 1, none⟩ = some (.slice (some ⟨g, 0, none⟩) d.row.length cr) ∧ wr.drew.cell? ⟨g, k * 65, none⟩ = some (.int .i64 (x1 : Int)) ∧ wr.drew.rangeAt g (k * 65 + 1) T ∧ wr.drew.there gs (x1 * 64) 64 := ⟨c0, c1, hat, hto, hth⟩
          have HS0 := Lib.hid hS0
          have HS' := Lib.hid hS'
          have hu := Try.underlying92
          clear hrg HW2 HN HN2 hxr hat' c0' c1' hT HD hsec hx hS0 hS' hto hth hat c0 c1 HM
          have i0 : (0 : Int) ≤ (x1 : Int) := by omega
          have i1 : (x1 : Int) < (d.secs.length : Int) := by omega
          go_wp2_with fail
          go_region_held3 (fun w' => w'.cell? ⟨p, 0, none⟩ = some (.slice (some ⟨gs, 0, none⟩) d.secs.length cs) ∧ w'.cell? ⟨p, 1, none⟩ = some (.slice (some ⟨g, 0, none⟩) d.row.length cr) ∧ w'.cell? ⟨g, k * 65, none⟩ = some (.int .i64 (x1 : Int)) ∧ w'.rangeAt g (k * 65 + 1) T ∧ w'.there gs (x1 * 64) 64)
            (first | exact HS'.out | exact HS0.out)
            (fail)
          all_goals (try go_wp2)
          all_goals go_roundw
          case rel => exact ⟨k + 1, by omega, by go_num, Lib.hid HE.out.1, Lib.hid HE.out.2⟩
          case measure => simp [intOf]; omega
      · obtain rfl : k = d.row.length := by omega
        have HW2 := HW.out.emptied
        have c1 := HW.out.blk.c1
        have f1 := HW.out.blk.f1
        have HE := Lib.hid (And.intro HW2.1 (HT.out.trans HW2.2))
        rw [HM.out] at HE
        clear HW2
        go_wp2
        go_end0
        exact ⟨rfl, Hd.wide ⟨p, _, _, rfl, HE.out.1⟩, HE.out.2⟩
  case inr =>
    have hle : keep.length ≤ d.row.length := by omega
    have HM : Hid (D.kept (d.row.take (keep.length)) keep = D.kept d.row keep) := Lib.hid (by exact kept_cut _ _)
    go_loopw [15] (fun i wr => ∃ k : Nat, k ≤ keep.length ∧ i = .int .i64 k ∧ Hid (Dw wr F p (.slice (some ⟨gs, 0, none⟩) d.secs.length cs) (.slice A d.row.length cr) ⟨D.done d.secs (D.kept (d.row.take k) keep), d.row⟩) ∧ Hid (Turn F w wr)) (fun i _ => keep.length - (intOf i).toNat)
    case atStart => exact ⟨0, Nat.zero_le _, rfl, HD, Lib.hid (Turn.of_below (Below.refl _ _))⟩
    case round =>
      clear c1
      obtain ⟨k, hk, rfl, HW, HT⟩ := hrel
      by_cases hlt : k < keep.length
      · have hkr : k < d.row.length := by omega
        have hkk : k < keep.length := by omega
        obtain ⟨ak, capk', ek, _, habk, hcellk⟩ := Sg_at HK.out k hkk
        cases ek
        have hck' : wr.cell? (ak.add k) = some (.bool keep[k]) := by
          rw [HT.out.cell (by rw [S.add_block]; exact hG _ habk) (by rw [S.add_block]; exact hGF _ habk), hcellk, boolV_at _ _ hkk]
        clear hcellk
        obtain ⟨g, cr', e, hFg, hgp', hgs, _⟩ := HW.out.rform' (by show 0 < d.row.length; omega)
        cases e
        have i2 : (0 : Int) ≤ (k : Int) := by omega
        have i3 : (k : Int) < (d.row.length : Int) := by omega
        have i4 : (k : Int) < (keep.length : Int) := by omega
        cases hkb : keep[k]
        · have HN := Lib.hid (kept_skip hkr (fun e => by rw [List.getElem?_eq_getElem hkk, hkb] at e; cases e))
          rw [hkb] at hck'
          go_wp2
          go_roundw
          case rel => exact ⟨k + 1, by omega, by go_num, by rw [HN.out]; exact HW, HT⟩
          case measure => simp [intOf]; omega
        · have HN := Lib.hid (kept_step hkr (by rw [List.getElem?_eq_getElem hkk, hkb]))
          rw [hkb] at hck'
          have hrg := V.own_range HW.out.row (wrV_len HW.out.fit) k hkr
          simp only at hrg
          obtain ⟨x, hx⟩ : ∃ x, x = d.row[k] := ⟨_, rfl⟩
          have hxr := hfit.out.row x (hx ▸ List.getElem_mem hkr)
          rw [← hx] at hrg
          have HN2 : Hid (D.done d.secs (D.kept (d.row.take (k + 1)) keep) = (D.done d.secs (D.kept (d.row.take k) keep)).set x.1 x.2) := Lib.hid (by
            rw [HN.out, D.done_snoc, ← hx])
          have HW2 := HW.out.drew.stored x.1 (by show _ < (D.done d.secs _).length; rw [D.done_len]; exact hxr.1) x.2 hxr.2
          have c0 := HW.out.blk.c0
          have c1 := HW.out.blk.c1
          have hsec := HW.out.secs
          rw [show (⟨D.done d.secs (D.kept (d.row.take k) keep), d.row⟩ : D.Dk).secs.length = d.secs.length from D.done_len _ _] at hsec
          have hth := V.own_there hsec (x.1 * 64) 64 (by have := hxr.1; omega)
          have hat := wr_at hrg
          have hto : wr.rangeAt g (k * 65 + 1) (bytesV x.2) := wr_to hrg
          have c0' := HW2.1.blk.c0
          have c1' := HW2.1.blk.c1
          rw [← HN2.out] at HW2
          have HE := Lib.hid (And.intro HW2.1 (HT.out.vdrew.trans HW2.2))
          have hggs : g ≠ gs := fun e => hgs (by rw [e]; rfl)
          obtain ⟨x1, x2⟩ := x
          obtain ⟨T, hT⟩ : ∃ T, T = bytesV x2 := ⟨_, rfl⟩
          have hTl : T.length = 64 := by rw [hT, bytesV_length, hxr.2]
          have hT1 : ∀ v ∈ T, v.oneCell' = true := by rw [hT]; exact bytesV_one _
          have hxl := hxr.1
          simp only at hat hto hth HE c0' c1' hxl
          rw [← hT] at hto HE c0' c1'
          have hTs : (Try.prog.info? 92).map (·.size) = some T.length := by rw [sizeSec, hTl]
          have hat' : (wr.drew.setCells gs (x1 * 64) T).cell? ⟨g, k * 65, none⟩ = some (.int .i64 (x1 : Int)) := (World.cell?_setCells_out gs T _ _ _ (fun e => absurd e hggs)).trans hat
          have hS' := And.intro c0' (And.intro c1' (And.intro hat' (And.intro (World.rangeAt_setCells_apart (w := wr.drew) hto gs (x1 * 64) T (Or.inl hggs)) (World.there_setCells (w := wr.drew) hth gs (x1 * 64) T))))
          have hS0 : wr.drew.cell? ⟨p, 0, none⟩ = some (.slice (some ⟨gs, 0, none⟩) d.secs.length cs) ∧ wr.drew.cell? ⟨p, 1, none⟩ = some (.slice (some ⟨g, 0, none⟩) d.row.length cr) ∧ wr.drew.cell? ⟨g, k * 65, none⟩ = some (.int .i64 (x1 : Int)) ∧ wr.drew.rangeAt g (k * 65 + 1) T ∧ wr.drew.there gs (x1 * 64) 64 := ⟨c0, c1, hat, hto, hth⟩
          have HS0 := Lib.hid hS0
          have HS' := Lib.hid hS'
          have hu := Try.underlying92
          clear hrg HW2 HN HN2 hxr hat' c0' c1' hT HD hsec hx hS0 hS' hto hth hat c0 c1 HM
          have i0 : (0 : Int) ≤ (x1 : Int) := by omega
          have i1 : (x1 : Int) < (d.secs.length : Int) := by omega
          go_wp2_with fail
          go_region_held3 (fun w' => w'.cell? ⟨p, 0, none⟩ = some (.slice (some ⟨gs, 0, none⟩) d.secs.length cs) ∧ w'.cell? ⟨p, 1, none⟩ = some (.slice (some ⟨g, 0, none⟩) d.row.length cr) ∧ w'.cell? ⟨g, k * 65, none⟩ = some (.int .i64 (x1 : Int)) ∧ w'.rangeAt g (k * 65 + 1) T ∧ w'.there gs (x1 * 64) 64)
            (first | exact HS'.out | exact HS0.out)
            (fail)
          all_goals (try go_wp2)
          all_goals go_roundw
          case rel => exact ⟨k + 1, by omega, by go_num, Lib.hid HE.out.1, Lib.hid HE.out.2⟩
          case measure => simp [intOf]; omega
      · obtain rfl : k = keep.length := by omega
        have HW2 := HW.out.emptied
        have c1 := HW.out.blk.c1
        have f1 := HW.out.blk.f1
        have HE := Lib.hid (And.intro HW2.1 (HT.out.trans HW2.2))
        rw [HM.out] at HE
        clear HW2
        go_wp2
        go_end0
        exact ⟨rfl, Hd.wide ⟨p, _, _, rfl, HE.out.1⟩, HE.out.2⟩

end Go.Proofs.Ytbjbnjpdackloaa
