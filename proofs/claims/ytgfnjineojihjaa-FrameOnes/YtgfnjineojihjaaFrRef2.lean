/-
  Walks of the document's frames: the frame of a sector.
-/
import Derived.Test.YtgfnjineojihjaaFrRef1
namespace Go.Proofs.Ytgfnjineojihjaa
open Go.RowKit

def fr0 : R.Fr := ⟨0, 0, 0, []⟩
abbrev fr0C : List Value := [.int .u32 0, .int .u32 0, .int .u8 0, .string ⟨#[]⟩]

/-- what Parse tells -/
def psV (l : List UInt8) : Value := match R.parse l with
  | some f => .tuple #[frA f, .int .i64 0]
  | none => .tuple #[.agg #[.int .u32 0, .int .u32 0, .int .u8 0, .string ⟨#[]⟩], .int .i64 2]

theorem undRf : ∃ fs, Try.prog.underlying 33 = some (.struct fs) := ⟨_, Try.underlying33⟩
theorem infoRf : (Try.prog.info? 33).map (·.size) = some 4 := by kernel_rfl

theorem getD_byte (s : ByteArray) (k : Nat) (h : k < s.size) : s.data.toList.getD k 0 = s[k] := by
  rw [List.getD_eq_getElem?_getD, List.getElem?_eq_getElem (by simpa using h)]
  simp [ByteArray.getElem_eq_getElem_data]

abbrev zeroRf : Value := .tuple #[.agg #[.int .u32 0, .int .u32 0, .int .u8 0, .string ⟨#[]⟩], .int .i64 2]

set_option maxRecDepth 100000 in
theorem rparse_len (s : ByteArray) (w : World) (h : s.size ≠ 64) (_hl : s.size ≤ 1000000) : Calls Try.prog 14 #[.string s] w fun e w' => e = .returned zeroRf ∧ Below w.heap.size w w' := by
  have h' : ((s.size : Int) != 64) = true := by simp; omega
  have hP := Bk.new w fr0C 33 rfl
  have hb0 : Below w.heap.size w (w.alloc (.cells #[.int .u32 0, .int .u32 0, .int .u8 0, .string ⟨#[]⟩] 33)) := (Below.refl _ _).alloc (Nat.le_refl _) _
  go_enter Try.func14, Try.ntmps14
  go_wp2
  refine bodyPost_ret (results_bk_1 rfl _ rfl hP Try.underlying33 rfl infoRf) rfl ⟨rfl, hb0⟩

set_option maxRecDepth 100000 in
theorem rparse_nine (s : ByteArray) (w : World) (h : s.size = 64) (h9 : 50 < (s[9]'(by omega)).toNat) : Calls Try.prog 14 #[.string s] w fun e w' => e = .returned zeroRf ∧ Below w.heap.size w w' := by
  have h' : ((s.size : Int) != 64) = false := by simp; omega
  obtain ⟨c, hc⟩ : ∃ c, c = s[9]'(by omega) := ⟨_, rfl⟩
  have h9' : (50 : Int) < (c.toNat : Int) := by rw [hc]; omega
  have hP := Bk.new w fr0C 33 rfl
  have hb0 : Below w.heap.size w (w.alloc (.cells #[.int .u32 0, .int .u32 0, .int .u8 0, .string ⟨#[]⟩] 33)) := (Below.refl _ _).alloc (Nat.le_refl _) _
  have hlt : 9 < s.size := by omega
  rw [hc] at h9'
  clear hc
  go_enter Try.func14, Try.ntmps14
  go_wp2
  refine bodyPost_ret (results_bk_1 rfl _ rfl hP Try.underlying33 rfl infoRf) rfl ⟨rfl, hb0⟩

set_option maxRecDepth 100000 in
set_option linter.unusedSimpArgs false in
set_option maxHeartbeats 2000000 in
theorem rparse_more (s : ByteArray) (w : World) (h : s.size = 64) (h9 : (s[9]'(by omega)).toNat ≤ 50) : Calls Try.prog 14 #[.string s] w fun e w' => e = .returned (if R.sector (R.cand s.data.toList) = s.data.toList then .tuple #[frA (R.cand s.data.toList), .int .i64 0] else zeroRf) ∧ Below w.heap.size w w' := by
  obtain ⟨V, hV⟩ : ∃ V, V = (if R.sector (R.cand s.data.toList) = s.data.toList then Value.tuple #[frA (R.cand s.data.toList), .int .i64 0] else zeroRf) := ⟨_, rfl⟩
  rw [← hV]
  have HV := Lib.hid hV
  clear hV
  have h' : ((s.size : Int) != 64) = false := by simp; omega
  have hlt : 9 < s.size := by omega
  have hlt8 : 8 < s.size := by omega
  obtain ⟨c, hc⟩ : ∃ c, s[9]'hlt = c := ⟨_, rfl⟩
  obtain ⟨d, hd⟩ : ∃ d, s[8]'hlt8 = d := ⟨_, rfl⟩
  have h9' : (c.toNat : Int) ≤ 50 := by rw [← hc]; omega
  have hz2 : (s.extract 4 64).size = 60 := by simp [h]
  obtain ⟨e, he⟩ : ∃ e, e = M.num (s.data.toList.take 4) := ⟨_, rfl⟩
  obtain ⟨n, hn⟩ : ∃ n, n = M.num ((s.extract 4 64).data.toList.take 4) := ⟨_, rfl⟩
  have HT1 := Lib.hid (fun w => by have := rtakeNum_any s w (by unfold maxLen; omega); rw [tnV_yes (by omega), ← he] at this; exact this)
  have HT2 := Lib.hid (fun w => by have := rtakeNum_any (s.extract 4 64) w (by unfold maxLen; omega); rw [tnV_yes (by omega), ← hn] at this; exact this)
  have HC : Hid (R.cand s.data.toList = ⟨e, n, d, (s.data.toList.drop 10).take c.toNat⟩) := Lib.hid (by
    have e4 : (s.extract 4 64).data.toList.take 4 = (s.data.toList.drop 4).take 4 := by simp [List.take_take]
    rw [R.cand, ← he, hn, e4, getD_byte s 8 hlt8, getD_byte s 9 hlt, hc, hd])
  have hel : e < 4294967296 := by rw [he]; exact R.num4_lt _
  have hnl : n < 4294967296 := by rw [hn]; exact R.num4_lt _
  clear he hn h9
  have hP := Lib.hid (Bk.new w fr0C 33 rfl)
  have hw0 : w.heap.size < (w.alloc (.cells #[.int .u32 0, .int .u32 0, .int .u8 0, .string ⟨#[]⟩] 33)).heap.size := by simp
  have hb0 : Below w.heap.size w (w.alloc (.cells #[.int .u32 0, .int .u32 0, .int .u8 0, .string ⟨#[]⟩] 33)) := (Below.refl _ _).alloc (Nat.le_refl _) _
  obtain ⟨q, hq⟩ : ∃ q : Nat, q = 10 + c.toNat := ⟨_, rfl⟩
  have hw1 : IntKind.i64.wrap (c.toNat : Int) = (c.toNat : Int) := by rw [IntKind.wrap_i64]; omega
  have hw2 : IntKind.i64.wrap (10 + (c.toNat : Int)) = (q : Int) := by rw [IntKind.wrap_i64]; omega
  have q0 : (0 : Int) ≤ (q : Int) := by omega
  have q1 : (q : Int) ≤ 64 := by omega
  have q2 : (10 : Int) ≤ (q : Int) := by omega
  have HQ := Lib.hid hq
  have HB : Hid (s.extract 10 q = ⟨((s.data.toList.drop 10).take c.toNat).toArray⟩) := Lib.hid (by
    apply ByteArray.ext
    apply Array.toList_inj.1
    rw [hq]
    simp)
  obtain ⟨Z, hZ⟩ : ∃ Z : ByteArray, Z = ⟨(R.sector ⟨e, n, d, (s.data.toList.drop 10).take c.toNat⟩).toArray⟩ := ⟨_, rfl⟩
  have HK := Lib.hid (fun w => by
    have := rpack_fits ⟨e, n, d, (s.data.toList.drop 10).take c.toNat⟩ w ⟨hel, hnl⟩ (by simp only [List.length_take]; omega)
    rw [← hZ, show frA ⟨e, n, d, (s.data.toList.drop 10).take c.toNat⟩ = .agg #[.int .u32 (e : Int), .int .u32 (n : Int), .int .u8 (d.toNat : Int), .string (s.extract 10 q)] by rw [HB.out]] at this
    exact this)
  have HZ := Lib.hid hZ
  clear hq hZ
  go_enter Try.func14, Try.ntmps14
  go_wp2_with fail
  refine (HT1.out _).mono ?_
  rintro r w1 ⟨rfl, hb1⟩
  go_wp2_with fail
  refine (HT2.out _).mono ?_
  rintro r w2 ⟨rfl, hb2⟩
  go_wp2_with fail
  refine wp_region_held_drew (S := fun _ => True) (by kernel_rfl) trivial (fun hHeld => ?_)
  refine takeH (i := 0) (v := ?_) (some 35) rfl (by rfl) (by kernel_rfl) (by kernel_rfl) (by kernel_rfl) (fun _ _ _ h => h) (Or.inl ⟨by rfl, fun w hSw => ?_⟩) (by assumption) ?_
  rotate_left
  · go_simp
    try with_reducible rfl
  try simp only [Act.put, List.setIfInBounds_toArray, List.set_cons_zero, List.set_cons_succ]
  refine takeH (i := 1) (v := ?_) (some 36) rfl (by rfl) (by kernel_rfl) (by kernel_rfl) (by kernel_rfl) (fun _ _ _ h => h) (Or.inl ⟨by rfl, fun w hSw => ?_⟩) (by assumption) ?_
  rotate_left
  · go_simp
    try with_reducible rfl
  try simp only [Act.put, List.setIfInBounds_toArray, List.set_cons_zero, List.set_cons_succ]
  refine takeH (i := 2) (v := ?_) (some 37) rfl (by rfl) (by kernel_rfl) (by kernel_rfl) (by kernel_rfl) (fun _ _ _ h => h) (Or.inl ⟨by rfl, fun w hSw => ?_⟩) (by assumption) ?_
  rotate_left
  · go_simp
    try with_reducible rfl
  try simp only [Act.put, List.setIfInBounds_toArray, List.set_cons_zero, List.set_cons_succ]
  refine takeH (i := 3) (v := ?_) (some 38) rfl (by rfl) (by kernel_rfl) (by kernel_rfl) (by kernel_rfl) (fun _ _ _ h => h) (Or.inl ⟨by rfl, fun w hSw => ?_⟩) (by assumption) ?_
  rotate_left
  · go_simp
    try with_reducible rfl
  try simp only [Act.put, List.setIfInBounds_toArray, List.set_cons_zero, List.set_cons_succ]
  refine takeH (i := 4) (v := ?_) (some 39) rfl (by rfl) (by kernel_rfl) (by kernel_rfl) (by kernel_rfl) (fun _ _ _ h => h) (Or.inl ⟨by rfl, fun w hSw => ?_⟩) (by assumption) ?_
  rotate_left
  · go_simp
    try with_reducible rfl
  try simp only [Act.put, List.setIfInBounds_toArray, List.set_cons_zero, List.set_cons_succ]
  refine takeH (i := 5) (v := ?_) (some 40) rfl (by rfl) (by kernel_rfl) (by kernel_rfl) (by kernel_rfl) (fun _ _ _ h => h) (Or.inl ⟨by rfl, fun w hSw => ?_⟩) (by assumption) ?_
  rotate_left
  · go_simp
    try with_reducible rfl
  try simp only [Act.put, List.setIfInBounds_toArray, List.set_cons_zero, List.set_cons_succ]
  refine takeH (i := 6) (v := ?_) (some 41) rfl (by rfl) (by kernel_rfl) (by kernel_rfl) (by kernel_rfl) (fun _ _ _ h => h) (Or.inl ⟨by rfl, fun w hSw => ?_⟩) (by assumption) ?_
  rotate_left
  · go_simp
    try with_reducible rfl
  try simp only [Act.put, List.setIfInBounds_toArray, List.set_cons_zero, List.set_cons_succ]
  refine takeH (i := 7) (v := ?_) (some 42) rfl (by rfl) (by kernel_rfl) (by kernel_rfl) (by kernel_rfl) (fun _ _ _ h => h) (Or.inl ⟨by rfl, fun w hSw => ?_⟩) (by assumption) ?_
  rotate_left
  · go_simp
    try with_reducible rfl
  try simp only [Act.put, List.setIfInBounds_toArray, List.set_cons_zero, List.set_cons_succ]
  refine takeH (i := 8) (v := ?_) (some 43) rfl (by rfl) (by kernel_rfl) (by kernel_rfl) (by kernel_rfl) (fun _ _ _ h => h) (Or.inl ⟨by rfl, fun w hSw => ?_⟩) (by assumption) ?_
  rotate_left
  · go_simp
    try with_reducible rfl
  try simp only [Act.put, List.setIfInBounds_toArray, List.set_cons_zero, List.set_cons_succ]
  refine takeH (i := 9) (v := ?_) (some 44) rfl (by rfl) (by kernel_rfl) (by kernel_rfl) (by kernel_rfl) (fun _ _ _ h => h) (Or.inl ⟨by rfl, fun w hSw => ?_⟩) (by assumption) ?_
  rotate_left
  · go_simp
    try with_reducible rfl
  try simp only [Act.put, List.setIfInBounds_toArray, List.set_cons_zero, List.set_cons_succ]
  refine takeH (i := 10) (v := ?_) (some 45) rfl (by rfl) (by kernel_rfl) (by kernel_rfl) (by kernel_rfl) (fun _ _ _ h => h) (Or.inl ⟨by rfl, fun w hSw => ?_⟩) (by assumption) ?_
  rotate_left
  · go_simp
    try with_reducible rfl
  try simp only [Act.put, List.setIfInBounds_toArray, List.set_cons_zero, List.set_cons_succ]
  refine wpAnyH_ready (rs := [11]) (by kernel_rfl) (by simp) ?_
  refine AllReadyH.cons rfl (fun K hK => ?_) AllReadyH.nil
  go_simp
  refine hK.out _ _ (trivial) (fun hHeld => ?_)
  clear hK K
  try simp only [Act.put, List.setIfInBounds_toArray, List.set_cons_zero, List.set_cons_succ]
  refine wpAnyH_ready (rs := [12]) (by kernel_rfl) (by simp) ?_
  refine AllReadyH.cons rfl (fun K hK => ?_) AllReadyH.nil
  go_simp
  refine hK.out _ _ (trivial) (fun hHeld => ?_)
  clear hK K
  try simp only [Act.put, List.setIfInBounds_toArray, List.set_cons_zero, List.set_cons_succ]
  refine wpAnyH_done (by kernel_rfl) ?_ _
  go_wp2_with fail
  refine (HK.out _).mono ?_
  rintro r w3 ⟨rfl, hb3⟩
  have hb3' : Below (w2.alloc (.cells #[.int .u32 (e : Int), .int .u32 (n : Int), .int .u8 (d.toNat : Int), .string (s.extract 10 q)] 33)).heap.size (w2.alloc (.cells #[.int .u32 (e : Int), .int .u32 (n : Int), .int .u8 (d.toNat : Int), .string (s.extract 10 q)] 33)) w3 := below_src hb3
  have P3 := ((hP.out.step (below_two hb1 hb2)).alloc (.cells #[.int .u32 (e : Int), .int .u32 (n : Int), .int .u8 (d.toNat : Int), .string (s.extract 10 q)] 33)).step hb3'
  have G3 := (Bk.new w2 [.int .u32 (e : Int), .int .u32 (n : Int), .int .u8 (d.toNat : Int), .string (s.extract 10 q)] 33 rfl).step hb3'
  have hb9 : Below w.heap.size w w3 := below_two (below_two hb0 (below_two hb1 hb2)) (below_two ((Below.refl _ _).alloc (Nat.le_refl _) _) hb3')
  have hpg : w.heap.size < w2.heap.size := Nat.lt_of_lt_of_le hw0 (below_two hb1 hb2).size
  clear hb0 hb1 hb2 hb3 hb3' hP HK HT1 HT2 hw0
  generalize w2.heap.size = g at *
  generalize hpp : w.heap.size = p at P3 hpg ⊢
  have HI : Hid (R.sector (R.cand s.data.toList) = s.data.toList ↔ Z = s) := Lib.hid (by
    rw [HC.out]
    constructor
    · intro g; rw [HZ.out, g]
    · intro g
      have := HZ.out
      rw [g] at this
      conv => rhs; rw [this])
  by_cases hzs : Z = s
  · have HV2 := Lib.hid (HV.out.trans (if_pos (HI.out.2 hzs)))
    rw [HC.out] at HV2
    have g0 := G3.cell 0 _ rfl
    have g1 := G3.cell 1 _ rfl
    have g2 := G3.cell 2 _ rfl
    have g3 := G3.cell 3 _ rfl
    have p0 := P3.cell 0 _ rfl
    have p1 := P3.cell 1 _ rfl
    have p2 := P3.cell 2 _ rfl
    have p3 := P3.cell 3 _ rfl
    have f0 := P3.fz 0 (by simp)
    have f1 := P3.fz 1 (by simp)
    have f2 := P3.fz 2 (by simp)
    have f3 := P3.fz 3 (by simp)
    have P4 := Lib.hid (P3.all4 (.int .u32 (e : Int)) (.int .u32 (n : Int)) (.int .u8 (d.toNat : Int)) (.string (s.extract 10 q)))
    have hb10 := (((hb9.setCell (p := ⟨p, 0, none⟩) (by show _ ≤ p; omega) (.int .u32 (e : Int))).setCell (p := ⟨p, 1, none⟩) (by show _ ≤ p; omega) (.int .u32 (n : Int))).setCell (p := ⟨p, 2, none⟩) (by show _ ≤ p; omega) (.int .u8 (d.toNat : Int))).setCell (p := ⟨p, 3, none⟩) (by show _ ≤ p; omega) (.string (s.extract 10 q))
    clear P3 G3
    subst hzs
    go_wp2
    refine bodyPost_ret (results_bk_1 rfl _ rfl P4.out Try.underlying33 rfl infoRf) rfl ⟨?_, hb10⟩
    rw [HV2.out, HB.out]
    rfl
  · have HV2 := Lib.hid (HV.out.trans (if_neg (fun g => hzs (HI.out.1 g))))
    have hz1 : ¬ Z.toList = s.toList := fun g => hzs (by
      rw [ByteArray.toList_eq, ByteArray.toList_eq] at g
      exact ByteArray.ext (Array.toList_inj.1 g))
    have hz2 : (Z.toList == s.toList) = false := beq_eq_false_iff_ne.2 hz1
    have hz3 : (Z.toList != s.toList) = true := by rw [bne, hz2]; rfl
    have p0 := P3.cell 0 _ rfl
    have p1 := P3.cell 1 _ rfl
    have p2 := P3.cell 2 _ rfl
    have p3 := P3.cell 3 _ rfl
    have f0 := P3.fz 0 (by simp)
    have f1 := P3.fz 1 (by simp)
    have f2 := P3.fz 2 (by simp)
    have f3 := P3.fz 3 (by simp)
    have P4 := Lib.hid (P3.all4 (.int .u32 0) (.int .u32 0) (.int .u8 0) (.string ⟨#[]⟩))
    have hb10 := (((hb9.setCell (p := ⟨p, 0, none⟩) (by show _ ≤ p; omega) (.int .u32 0)).setCell (p := ⟨p, 1, none⟩) (by show _ ≤ p; omega) (.int .u32 0)).setCell (p := ⟨p, 2, none⟩) (by show _ ≤ p; omega) (.int .u8 0)).setCell (p := ⟨p, 3, none⟩) (by show _ ≤ p; omega) (.string ⟨#[]⟩)
    clear P3 G3
    go_wp2
    refine bodyPost_ret (results_bk_1 rfl _ rfl P4.out Try.underlying33 rfl infoRf) rfl ⟨?_, hb10⟩
    rw [HV2.out]
    rfl

theorem rparse_any (s : ByteArray) (w : World) (hl : s.size ≤ 1000000) : Calls Try.prog 14 #[.string s] w fun e w' => e = .returned (psV s.data.toList) ∧ Below w.heap.size w w' := by
  by_cases h : s.size = 64
  · have hlt : 9 < s.size := by omega
    have e9 := getD_byte s 9 hlt
    have hsz : s.data.toList.length = 64 := by simpa using h
    by_cases h9 : (s[9]'hlt).toNat ≤ 50
    · refine (rparse_more s w h h9).mono ?_
      rintro e w' ⟨rfl, hb⟩
      refine ⟨?_, hb⟩
      rw [psV, R.parse]
      by_cases hc : R.sector (R.cand s.data.toList) = s.data.toList
      · rw [if_pos hc, if_pos ⟨hsz, by rw [e9]; exact h9, hc⟩]
      · rw [if_neg hc, if_neg (fun g => hc g.2.2)]
    · refine (rparse_nine s w h (by omega)).mono ?_
      rintro e w' ⟨rfl, hb⟩
      refine ⟨?_, hb⟩
      rw [psV, R.parse, if_neg (fun g => h9 (by have := g.2.1; rw [e9] at this; exact this))]
  · refine (rparse_len s w h hl).mono ?_
    rintro e w' ⟨rfl, hb⟩
    refine ⟨?_, hb⟩
    rw [psV, R.parse_len (by simpa using h)]

end Go.Proofs.Ytgfnjineojihjaa
