/-
  Walks of the document's frames: a frame's sector.
  Walks of the document's frames: the frame of a sector.
  Rows of elements of many cells: one of them read, one of them written; a struct of two fields in a block. No program's function stands here.
  Walks of the document's frames: a record's frames.
  What the laws of layer frame ask of the program's calls: each call's contract. And how the laws turn a frame into the document's.
-/
import Derived.Test.YtbjbnjpdackloaaJA
import Derived.Deep.RegionHeld3
import Derived.Deep.MidRow
import Derived.Laws.CopyOwn
namespace Go.Proofs.Ytbjbnjpdackloaa
open Go.RowKit

/-- a frame as the document has it -/
abbrev frC (f : R.Fr) : List Value := [.int .u32 (f.epoch : Int), .int .u32 (f.seq : Int), .int .u8 (f.flag.toNat : Int), .string ⟨f.body.toArray⟩]
abbrev frA (f : R.Fr) : Value := .agg #[.int .u32 (f.epoch : Int), .int .u32 (f.seq : Int), .int .u8 (f.flag.toNat : Int), .string ⟨f.body.toArray⟩]

/-- what Pack tells -/
def pkV (f : R.Fr) : Value := if f.body.length ≤ 50 then .tuple #[.string ⟨(R.sector f).toArray⟩, .int .i64 0] else .tuple #[.string ⟨#[]⟩, .int .i64 3]

theorem conv_two (W : World) (b : Nat) (c d : UInt8) (h0 : W.cell? ⟨b, 0, none⟩ = some (.int .u8 (c.toNat : Int))) (h1 : W.cell? ⟨b, 1, none⟩ = some (.int .u8 (d.toNat : Int))) :
    (convert 37 9 (.slice (some ⟨b, 0, none⟩) 2 2)).run Try.prog W = .ok (.string ⟨#[c, d]⟩) W := by
  refine run_convert_bytes_back (P := Try.prog) W 37 9 5 ⟨b, 0, none⟩ 2 [c, d] Try.underlying37 Try.underlying5 Try.underlying9 fun j hj => ?_
  match j, hj with
  | 0, _ => simpa [Addr.add] using h0
  | 1, _ => simpa [Addr.add] using h1

/-- an operation that yields in every world at hand, taken first; its slot given -/
theorem takeH {P : Program} {md : Region.Mode} {ops : Array Oper} {Q : Exit → Act → World → Prop} {S : World → Prop} {i : Nat} {oi : Oper} {v : Value} {fuel : Nat} {listed : Array Bool} {a : Act} {w : World} (dst : Option Tmp) (hi : ops[i]? = some oi) (hd : oi.dst = dst)
    (hs : Region.noSelect ops = true) (hf : Region.free md ops listed i = true) (hr : (Region.ready md ops listed).contains i = true)
    (hQ : ∀ c a w, Q (.panic c) (a.put oi.dst v) w → Q (.panic c) a w) (hy : YieldsIf P ops S oi v a) (hS : S w)
    (h : wpAnyH P md ops Q S fuel (listed.setIfInBounds i true) (a.put dst v) w) : wpAnyH P md ops Q S (fuel + 1) listed a w :=
  wpAnyH_take hi hs hf hr hQ hy hS (by rw [hd]; exact h)

theorem below_src {B : Nat} {w w' : World} (h : Below B w.drew w') : Below B w w' := ⟨h.os, h.tape, h.output, h.size, h.block⟩

theorem rpack_long (f : R.Fr) (w : World) (h : 50 < f.body.length) : Calls Try.prog 46 #[frA f] w fun e w' => e = .returned (.tuple #[.string ⟨#[]⟩, .int .i64 3]) ∧ Below w.heap.size w w' := by
  have h' : (50 : Int) < (f.body.length : Int) := by omega
  go_enter Try.func46, Try.ntmps46
  go_wp2
  go_ret2
  exact ⟨rfl, (Below.refl _ _).alloc (Nat.le_refl _) _⟩

set_option linter.unusedSimpArgs false in
set_option maxRecDepth 100000 in
set_option maxHeartbeats 8000000 in
theorem rpack_fits (f : R.Fr) (w : World) (hn : f.Num) (h : f.body.length ≤ 50) : Calls Try.prog 46 #[frA f] w fun e w' => e = .returned (.tuple #[.string ⟨(R.sector f).toArray⟩, .int .i64 0]) ∧ Below w.heap.size w w' := by
  obtain ⟨e, s, fl, b⟩ := f
  simp only at h
  have he := hn.e
  have hs := hn.s
  simp only at he hs
  have hP := Bk.new w [.int .u32 (e : Int), .int .u32 (s : Int), .int .u8 (fl.toNat : Int), .string ⟨b.toArray⟩] 84 rfl
  obtain ⟨E, hE⟩ : ∃ E, E = M.hiB 4 e := ⟨_, rfl⟩
  obtain ⟨S, hS⟩ : ∃ S, S = M.hiB 4 s := ⟨_, rfl⟩
  obtain ⟨L, hL⟩ : ∃ L, L = UInt8.ofNat b.length := ⟨_, rfl⟩
  have HE := Lib.hid hE
  have HS := Lib.hid hS
  have HL := Lib.hid hL
  have lE : E.length = 4 := by rw [hE]; exact M.hiB_len 4 e
  have lS : S.length = 4 := by rw [hS]; exact M.hiB_len 4 s
  have hLn : IntKind.u8.wrap (b.length : Int) = (L.toNat : Int) := by rw [IntKind.wrap_u8, hL]; simp
  have HC1 := Lib.hid (fun w => by have := rnum_any e w he; rw [← hE] at this; exact this)
  have HC2 := Lib.hid (fun w => by have := rnum_any s w hs; rw [← hS] at this; exact this)
  clear hE hS hL
  have hcv := fun W b => conv_two W b fl L
  have hb0 : Below w.heap.size w (w.alloc (.cells #[.int .u32 (e : Int), .int .u32 (s : Int), .int .u8 (fl.toNat : Int), .string ⟨b.toArray⟩] 84)) := (Below.refl _ _).alloc (Nat.le_refl _) _
  have hw0 : w.heap.size < (w.alloc (.cells #[.int .u32 (e : Int), .int .u32 (s : Int), .int .u8 (fl.toNat : Int), .string ⟨b.toArray⟩] 84)).heap.size := by simp
  go_enter Try.func46, Try.ntmps46
  go_wp2_with fail
  generalize w.alloc (.cells #[.int .u32 (e : Int), .int .u32 (s : Int), .int .u8 (fl.toNat : Int), .string ⟨b.toArray⟩] 84) = w0 at *
  have HP := Lib.hid hP
  generalize hpq : w.heap.size = p at HP hw0
  have HK : Hid (∀ w', Below w0.heap.size w0 w' → w'.cell? ⟨p, 0, none⟩ = some (.int .u32 (e : Int)) ∧ w'.cell? ⟨p, 1, none⟩ = some (.int .u32 (s : Int)) ∧ w'.cell? ⟨p, 2, none⟩ = some (.int .u8 (fl.toNat : Int)) ∧ w'.cell? ⟨p, 3, none⟩ = some (.string ⟨b.toArray⟩) ∧ Below w0.heap.size w0 w') :=
    Lib.hid fun w' hb => ⟨(HP.out.step hb).cell 0 _ rfl, (HP.out.step hb).cell 1 _ rfl, (HP.out.step hb).cell 2 _ rfl, (HP.out.step hb).cell 3 _ rfl, hb⟩
  have HA : Hid (∀ (w' : World) (o : Obj), (w'.cell? ⟨p, 0, none⟩ = some (.int .u32 (e : Int)) ∧ w'.cell? ⟨p, 1, none⟩ = some (.int .u32 (s : Int)) ∧ w'.cell? ⟨p, 2, none⟩ = some (.int .u8 (fl.toNat : Int)) ∧ w'.cell? ⟨p, 3, none⟩ = some (.string ⟨b.toArray⟩) ∧ Below w0.heap.size w0 w') → (w'.alloc o).cell? ⟨p, 0, none⟩ = some (.int .u32 (e : Int)) ∧ (w'.alloc o).cell? ⟨p, 1, none⟩ = some (.int .u32 (s : Int)) ∧ (w'.alloc o).cell? ⟨p, 2, none⟩ = some (.int .u8 (fl.toNat : Int)) ∧ (w'.alloc o).cell? ⟨p, 3, none⟩ = some (.string ⟨b.toArray⟩) ∧ Below w0.heap.size w0 (w'.alloc o)) := Lib.hid fun w' o hS => HK.out _ (hS.2.2.2.2.alloc hS.2.2.2.2.size o)
  have HD1 : Hid (∀ w', (w'.cell? ⟨p, 0, none⟩ = some (.int .u32 (e : Int)) ∧ w'.cell? ⟨p, 1, none⟩ = some (.int .u32 (s : Int)) ∧ w'.cell? ⟨p, 2, none⟩ = some (.int .u8 (fl.toNat : Int)) ∧ w'.cell? ⟨p, 3, none⟩ = some (.string ⟨b.toArray⟩) ∧ Below w0.heap.size w0 w') → Calls Try.prog 54 #[.int .u32 e] w' fun r w'' => r = .returned (.string ⟨E.toArray⟩) ∧ (w''.cell? ⟨p, 0, none⟩ = some (.int .u32 (e : Int)) ∧ w''.cell? ⟨p, 1, none⟩ = some (.int .u32 (s : Int)) ∧ w''.cell? ⟨p, 2, none⟩ = some (.int .u8 (fl.toNat : Int)) ∧ w''.cell? ⟨p, 3, none⟩ = some (.string ⟨b.toArray⟩) ∧ Below w0.heap.size w0 w'') ∧ Below w'.heap.size w' w'') :=
    Lib.hid fun w' hS => (HC1.out w').mono (fun r w'' ⟨hr, hb⟩ => ⟨hr, HK.out _ (hS.2.2.2.2.trans (hb.mono hS.2.2.2.2.size)), hb⟩)
  have HD2 : Hid (∀ w', (w'.cell? ⟨p, 0, none⟩ = some (.int .u32 (e : Int)) ∧ w'.cell? ⟨p, 1, none⟩ = some (.int .u32 (s : Int)) ∧ w'.cell? ⟨p, 2, none⟩ = some (.int .u8 (fl.toNat : Int)) ∧ w'.cell? ⟨p, 3, none⟩ = some (.string ⟨b.toArray⟩) ∧ Below w0.heap.size w0 w') → Calls Try.prog 54 #[.int .u32 s] w' fun r w'' => r = .returned (.string ⟨S.toArray⟩) ∧ (w''.cell? ⟨p, 0, none⟩ = some (.int .u32 (e : Int)) ∧ w''.cell? ⟨p, 1, none⟩ = some (.int .u32 (s : Int)) ∧ w''.cell? ⟨p, 2, none⟩ = some (.int .u8 (fl.toNat : Int)) ∧ w''.cell? ⟨p, 3, none⟩ = some (.string ⟨b.toArray⟩) ∧ Below w0.heap.size w0 w'') ∧ Below w'.heap.size w' w'') :=
    Lib.hid fun w' hS => (HC2.out w').mono (fun r w'' ⟨hr, hb⟩ => ⟨hr, HK.out _ (hS.2.2.2.2.trans (hb.mono hS.2.2.2.2.size)), hb⟩)
  have hbd : Below w0.heap.size w0 w0.drew := (Below.refl _ _).drew
  clear HC1 HC2 hP
  have HV : Hid (∀ (X w' : World), Below (X.heap.size + 1) (X.alloc (.cells #[.int .u8 (fl.toNat : Int), .int .u8 (L.toNat : Int)] 5)) w' → (convert 37 9 (.slice (some ⟨X.heap.size, 0, none⟩) 2 2)).run Try.prog w' = .ok (.string ⟨#[fl, L]⟩) w') :=
    Lib.hid fun X w' hb => conv_two w' X.heap.size fl L ((hb.cell (p := ⟨X.heap.size, 0, none⟩) (Nat.lt_succ_self _)).trans (by simp)) ((hb.cell (p := ⟨X.heap.size, 1, none⟩) (Nat.lt_succ_self _)).trans (by simp))
  have a3 : ¬ 9223372036854775807 < 10 + b.length := by omega
  obtain ⟨H, hH⟩ : ∃ H, H = E ++ (S ++ ([fl, L] ++ b)) := ⟨_, rfl⟩
  have lH : H.length = 10 + b.length := by rw [hH]; simp [lE, lS]; omega
  have HH := Lib.hid hH
  have hw0' := hb0.size
  clear hcv hH
  refine wp_region_held_drew (S := fun w' => w'.cell? ⟨p, 0, none⟩ = some (.int .u32 (e : Int)) ∧ w'.cell? ⟨p, 1, none⟩ = some (.int .u32 (s : Int)) ∧ w'.cell? ⟨p, 2, none⟩ = some (.int .u8 (fl.toNat : Int)) ∧ w'.cell? ⟨p, 3, none⟩ = some (.string ⟨b.toArray⟩) ∧ Below w0.heap.size w0 w') (by kernel_rfl) (HK.out _ hbd) (fun hHeld => ?_)
  refine takeH (i := 0) (v := ?_) (some 9) rfl (by rfl) (by kernel_rfl) (by kernel_rfl) (by kernel_rfl) (fun _ _ _ h => h) (Or.inl ⟨by rfl, fun w hSw => ?_⟩) (by assumption) ?_
  rotate_left
  · go_simp
    try with_reducible rfl
  try simp only [Act.put, List.setIfInBounds_toArray, List.set_cons_zero, List.set_cons_succ]
  refine takeH (i := 1) (v := ?_) (some 10) rfl (by rfl) (by kernel_rfl) (by kernel_rfl) (by kernel_rfl) (fun _ _ _ h => h) (Or.inl ⟨by rfl, fun w hSw => ?_⟩) (by assumption) ?_
  rotate_left
  · go_simp
    try with_reducible rfl
  try simp only [Act.put, List.setIfInBounds_toArray, List.set_cons_zero, List.set_cons_succ]
  refine takeH (i := 3) (v := ?_) (some 12) rfl (by rfl) (by kernel_rfl) (by kernel_rfl) (by kernel_rfl) (fun _ _ _ h => h) (Or.inl ⟨by rfl, fun w hSw => ?_⟩) (by assumption) ?_
  rotate_left
  · go_simp
    try with_reducible rfl
  try simp only [Act.put, List.setIfInBounds_toArray, List.set_cons_zero, List.set_cons_succ]
  refine takeH (i := 4) (v := ?_) (some 13) rfl (by rfl) (by kernel_rfl) (by kernel_rfl) (by kernel_rfl) (fun _ _ _ h => h) (Or.inl ⟨by rfl, fun w hSw => ?_⟩) (by assumption) ?_
  rotate_left
  · go_simp
    try with_reducible rfl
  try simp only [Act.put, List.setIfInBounds_toArray, List.set_cons_zero, List.set_cons_succ]
  refine takeH (i := 7) (v := ?_) (some 16) rfl (by rfl) (by kernel_rfl) (by kernel_rfl) (by kernel_rfl) (fun _ _ _ h => h) (Or.inl ⟨by rfl, fun w hSw => ?_⟩) (by assumption) ?_
  rotate_left
  · go_simp
    try with_reducible rfl
  try simp only [Act.put, List.setIfInBounds_toArray, List.set_cons_zero, List.set_cons_succ]
  refine takeH (i := 8) (v := ?_) (some 17) rfl (by rfl) (by kernel_rfl) (by kernel_rfl) (by kernel_rfl) (fun _ _ _ h => h) (Or.inl ⟨by rfl, fun w hSw => ?_⟩) (by assumption) ?_
  rotate_left
  · go_simp
    try with_reducible rfl
  try simp only [Act.put, List.setIfInBounds_toArray, List.set_cons_zero, List.set_cons_succ]
  refine takeH (i := 9) (v := ?_) (some 18) rfl (by rfl) (by kernel_rfl) (by kernel_rfl) (by kernel_rfl) (fun _ _ _ h => h) (Or.inl ⟨by rfl, fun w hSw => ?_⟩) (by assumption) ?_
  rotate_left
  · go_simp
    try with_reducible rfl
  try simp only [Act.put, List.setIfInBounds_toArray, List.set_cons_zero, List.set_cons_succ]
  refine takeH (i := 10) (v := ?_) (some 19) rfl (by rfl) (by kernel_rfl) (by kernel_rfl) (by kernel_rfl) (fun _ _ _ h => h) (Or.inl ⟨by rfl, fun w hSw => ?_⟩) (by assumption) ?_
  rotate_left
  · go_simp
    try with_reducible rfl
  try simp only [Act.put, List.setIfInBounds_toArray, List.set_cons_zero, List.set_cons_succ]
  refine takeH (i := 11) (v := ?_) (some 20) rfl (by rfl) (by kernel_rfl) (by kernel_rfl) (by kernel_rfl) (fun _ _ _ h => h) (Or.inl ⟨by rfl, fun w hSw => ?_⟩) (by assumption) ?_
  rotate_left
  · go_simp
    try with_reducible rfl
  try simp only [Act.put, List.setIfInBounds_toArray, List.set_cons_zero, List.set_cons_succ]
  refine takeH (i := 12) (v := ?_) (some 21) rfl (by rfl) (by kernel_rfl) (by kernel_rfl) (by kernel_rfl) (fun _ _ _ h => h) (Or.inl ⟨by rfl, fun w hSw => ?_⟩) (by assumption) ?_
  rotate_left
  · go_simp
    try with_reducible rfl
  try simp only [Act.put, List.setIfInBounds_toArray, List.set_cons_zero, List.set_cons_succ]
  refine takeH (i := 16) (v := ?_) (some 25) rfl (by rfl) (by kernel_rfl) (by kernel_rfl) (by kernel_rfl) (fun _ _ _ h => h) (Or.inl ⟨by rfl, fun w hSw => ?_⟩) (by assumption) ?_
  rotate_left
  · go_simp
    try with_reducible rfl
  try simp only [Act.put, List.setIfInBounds_toArray, List.set_cons_zero, List.set_cons_succ]
  refine takeH (i := 17) (v := ?_) (some 26) rfl (by rfl) (by kernel_rfl) (by kernel_rfl) (by kernel_rfl) (fun _ _ _ h => h) (Or.inl ⟨by rfl, fun w hSw => ?_⟩) (by assumption) ?_
  rotate_left
  · go_simp
    try with_reducible rfl
  try simp only [Act.put, List.setIfInBounds_toArray, List.set_cons_zero, List.set_cons_succ]
  refine wpAnyH_ready (rs := [2, 13]) (by kernel_rfl) (by simp) ?_
  refine (AllReadyH.cons rfl (fun K hK => ?_) (AllReadyH.cons rfl (fun K hK => ?_) AllReadyH.nil))
  · go_simp
    refine (HD1.out _ (by assumption)).mono ?_
    rintro r w1 ⟨rfl, hS1, hb1⟩
    go_wp2_with fail
    refine hK.out _ _ (hS1) (fun hHeld => ?_)
    clear hK K
    try simp only [Act.put, List.setIfInBounds_toArray, List.set_cons_zero, List.set_cons_succ]
    refine wpAnyH_ready (rs := [5, 13]) (by kernel_rfl) (by simp) ?_
    refine (AllReadyH.cons rfl (fun K hK => ?_) (AllReadyH.cons rfl (fun K hK => ?_) AllReadyH.nil))
    · go_simp
      refine (HD2.out _ (by assumption)).mono ?_
      rintro r w2 ⟨rfl, hS2, hb2⟩
      go_wp2_with fail
      refine hK.out _ _ (hS2) (fun hHeld => ?_)
      clear hK K
      try simp only [Act.put, List.setIfInBounds_toArray, List.set_cons_zero, List.set_cons_succ]
      refine takeH (i := 6) (v := ?_) (some 15) rfl (by rfl) (by kernel_rfl) (by kernel_rfl) (by kernel_rfl) (fun _ _ _ h => h) (Or.inl ⟨by rfl, fun w hSw => ?_⟩) (by assumption) ?_
      rotate_left
      · go_simp
        try with_reducible rfl
      try simp only [Act.put, List.setIfInBounds_toArray, List.set_cons_zero, List.set_cons_succ]
      refine wpAnyH_ready (rs := [13]) (by kernel_rfl) (by simp) ?_
      refine (AllReadyH.cons rfl (fun K hK => ?_) AllReadyH.nil)
      · go_simp
        refine hK.out _ _ (HA.out _ _ (by assumption)) (fun hHeld => ?_)
        clear hK K
        try simp only [Act.put, List.setIfInBounds_toArray, List.set_cons_zero, List.set_cons_succ]
        refine wpAnyH_ready (rs := [14]) (by kernel_rfl) (by simp) ?_
        refine (AllReadyH.cons rfl (fun K hK => ?_) AllReadyH.nil)
        · have hcv := HV.out w2 (w2.alloc (.cells #[.int .u8 (fl.toNat : Int), .int .u8 (L.toNat : Int)] 5)) (Below.refl _ _)
          go_simp
          refine hK.out _ _ ((by assumption)) (fun hHeld => ?_)
          clear hK K
          try simp only [Act.put, List.setIfInBounds_toArray, List.set_cons_zero, List.set_cons_succ]
          refine takeH (i := 15) (v := ?_) (some 24) rfl (by rfl) (by kernel_rfl) (by kernel_rfl) (by kernel_rfl) (fun _ _ _ h => h) (Or.inl ⟨by rfl, fun w hSw => ?_⟩) (by assumption) ?_
          rotate_left
          · go_simp
            try with_reducible rfl
          try simp only [Act.put, List.setIfInBounds_toArray, List.set_cons_zero, List.set_cons_succ]
          refine takeH (i := 18) (v := ?_) (some 27) rfl (by rfl) (by kernel_rfl) (by kernel_rfl) (by kernel_rfl) (fun _ _ _ h => h) (Or.inl ⟨by rfl, fun w hSw => ?_⟩) (by assumption) ?_
          rotate_left
          · go_simp
            try with_reducible rfl
          try simp only [Act.put, List.setIfInBounds_toArray, List.set_cons_zero, List.set_cons_succ]
          refine takeH (i := 19) (v := ?_) (some 4) rfl (by rfl) (by kernel_rfl) (by kernel_rfl) (by kernel_rfl) (fun _ _ _ h => h) (Or.inl ⟨by rfl, fun w hSw => ?_⟩) (by assumption) ?_
          rotate_left
          · go_simp
            try with_reducible rfl
          try simp only [Act.put, List.setIfInBounds_toArray, List.set_cons_zero, List.set_cons_succ]
          refine wpAnyH_done (by kernel_rfl) ?_ _
          have hbW := And.right (And.right (And.right (And.right hHeld)))
          clear hHeld
          generalize (w2.alloc (.cells #[.int .u8 (fl.toNat : Int), .int .u8 (L.toNat : Int)] 5)) = wz at hbW ⊢
          have hb9 : Below w.heap.size w wz := hb0.trans (hbW.mono hw0')
          have hst : ({ data := E.toArray } ++ { data := S.toArray } ++ { data := #[fl, L] } ++ { data := b.toArray } : ByteArray) = ⟨(H ++ List.replicate 0 0).toArray⟩ := by
            rw [ba_append, show (⟨#[fl, L]⟩ : ByteArray) = ⟨[fl, L].toArray⟩ from rfl, ba_append, ba_append, HH.out]; simp
          rw [hst]
          clear hst
          go_wp2_with fail
          go_loop [4] (fun x => ∃ k : Nat, k ≤ 50 - b.length ∧ x = .string ⟨(H ++ List.replicate k 0).toArray⟩) (fun x => match x with | .string s => 60 - s.size | _ => 0)
          case atStart => exact ⟨0, Nat.zero_le _, rfl⟩
          case round =>
            obtain ⟨k, hk, rfl⟩ := hrel
            obtain ⟨T, hT⟩ : ∃ T, T = H ++ List.replicate k 0 := ⟨_, rfl⟩
            have lT : T.length = 10 + b.length + k := by rw [hT]; simp [lH]
            have HT := Lib.hid hT
            rw [← hT]
            clear hT
            by_cases hlt : k < 50 - b.length
            · have a5 : ¬ 9223372036854775807 < T.length + 1 := by omega
              have hlt' : (T.length : Int) < 60 := by omega
              go_wp2
              go_round
              case rel => exact ⟨k + 1, by omega, by rw [show (⟨T.toArray⟩ ++ ⟨#[0]⟩ : ByteArray) = ⟨(T ++ [0]).toArray⟩ from ba_append T [0], HT.out, List.append_assoc, ← List.replicate_succ']⟩
              case measure => simp [ByteArray.size, lT]; omega
            · have e60 : T.length = 60 := by omega
              have hlt' : ¬ (T.length : Int) < 60 := by omega
              have HT2 : Hid (T = R.sixty ⟨e, s, fl, b⟩) := Lib.hid (by rw [HT.out, show k = 50 - b.length by omega, HH.out, R.sixty, R.head, ← HE.out, ← HS.out, ← HL.out]; simp)
              obtain ⟨cp, wy, hcv, hsl, hby⟩ := conv_bytes wz T
              have HO := Lib.hid (refOf_any _ T wy _ hsl (by unfold maxLen; omega))
              obtain ⟨N, hN⟩ : ∃ N, N = C.sum T := ⟨_, rfl⟩
              have hNl : N < 4294967296 := by rw [hN]; exact C.sum_lt T
              rw [← hN] at HO
              have HN := Lib.hid hN
              have HR := Lib.hid (rnum_any N wy hNl)
              obtain ⟨NB, hNB⟩ : ∃ NB, NB = M.hiB 4 N := ⟨_, rfl⟩
              have lNB : NB.length = 4 := by rw [hNB]; exact M.hiB_len 4 N
              rw [← hNB] at HR
              have HNB := Lib.hid hNB
              have a6 : ¬ 9223372036854775807 < 60 + NB.length := by omega
              rw [e60] at hcv HO
              have a7 : ¬ (60 : Int) < 60 := by omega
              clear hN hNB hsl lT hlt'
              go_wp2_with fail
              refine HO.out.mono ?_
              rintro r wx ⟨rfl, rfl⟩
              go_wp2_with fail
              refine HR.out.mono ?_
              rintro r wv ⟨rfl, hbv⟩
              go_wp2
              go_ret2
              refine ⟨ret_v ?_, below_two hb9 (below_two hby hbv)⟩
              show Value.tuple #[.string (⟨T.toArray⟩ ++ ⟨NB.toArray⟩), .int .i64 0] = _
              rw [ba_append, HNB.out, HN.out, HT2.out]
              rfl
    · go_simp
      refine hK.out _ _ (HA.out _ _ (by assumption)) (fun hHeld => ?_)
      clear hK K
      try simp only [Act.put, List.setIfInBounds_toArray, List.set_cons_zero, List.set_cons_succ]
      refine wpAnyH_ready (rs := [5, 14]) (by kernel_rfl) (by simp) ?_
      refine (AllReadyH.cons rfl (fun K hK => ?_) (AllReadyH.cons rfl (fun K hK => ?_) AllReadyH.nil))
      · go_simp
        refine (HD2.out _ (by assumption)).mono ?_
        rintro r w3 ⟨rfl, hS3, hb3⟩
        go_wp2_with fail
        refine hK.out _ _ (hS3) (fun hHeld => ?_)
        clear hK K
        try simp only [Act.put, List.setIfInBounds_toArray, List.set_cons_zero, List.set_cons_succ]
        refine takeH (i := 6) (v := ?_) (some 15) rfl (by rfl) (by kernel_rfl) (by kernel_rfl) (by kernel_rfl) (fun _ _ _ h => h) (Or.inl ⟨by rfl, fun w hSw => ?_⟩) (by assumption) ?_
        rotate_left
        · go_simp
          try with_reducible rfl
        try simp only [Act.put, List.setIfInBounds_toArray, List.set_cons_zero, List.set_cons_succ]
        refine wpAnyH_ready (rs := [14]) (by kernel_rfl) (by simp) ?_
        refine (AllReadyH.cons rfl (fun K hK => ?_) AllReadyH.nil)
        · have hcv := HV.out w1 w3 (hb3.mono (by simp))
          go_simp
          refine hK.out _ _ ((by assumption)) (fun hHeld => ?_)
          clear hK K
          try simp only [Act.put, List.setIfInBounds_toArray, List.set_cons_zero, List.set_cons_succ]
          refine takeH (i := 15) (v := ?_) (some 24) rfl (by rfl) (by kernel_rfl) (by kernel_rfl) (by kernel_rfl) (fun _ _ _ h => h) (Or.inl ⟨by rfl, fun w hSw => ?_⟩) (by assumption) ?_
          rotate_left
          · go_simp
            try with_reducible rfl
          try simp only [Act.put, List.setIfInBounds_toArray, List.set_cons_zero, List.set_cons_succ]
          refine takeH (i := 18) (v := ?_) (some 27) rfl (by rfl) (by kernel_rfl) (by kernel_rfl) (by kernel_rfl) (fun _ _ _ h => h) (Or.inl ⟨by rfl, fun w hSw => ?_⟩) (by assumption) ?_
          rotate_left
          · go_simp
            try with_reducible rfl
          try simp only [Act.put, List.setIfInBounds_toArray, List.set_cons_zero, List.set_cons_succ]
          refine takeH (i := 19) (v := ?_) (some 4) rfl (by rfl) (by kernel_rfl) (by kernel_rfl) (by kernel_rfl) (fun _ _ _ h => h) (Or.inl ⟨by rfl, fun w hSw => ?_⟩) (by assumption) ?_
          rotate_left
          · go_simp
            try with_reducible rfl
          try simp only [Act.put, List.setIfInBounds_toArray, List.set_cons_zero, List.set_cons_succ]
          refine wpAnyH_done (by kernel_rfl) ?_ _
          have hbW := And.right (And.right (And.right (And.right hHeld)))
          clear hHeld
          generalize w3 = wz at *
          have hb9 : Below w.heap.size w wz := hb0.trans (hbW.mono hw0')
          have hst : ({ data := E.toArray } ++ { data := S.toArray } ++ { data := #[fl, L] } ++ { data := b.toArray } : ByteArray) = ⟨(H ++ List.replicate 0 0).toArray⟩ := by
            rw [ba_append, show (⟨#[fl, L]⟩ : ByteArray) = ⟨[fl, L].toArray⟩ from rfl, ba_append, ba_append, HH.out]; simp
          rw [hst]
          clear hst
          go_wp2_with fail
          go_loop [4] (fun x => ∃ k : Nat, k ≤ 50 - b.length ∧ x = .string ⟨(H ++ List.replicate k 0).toArray⟩) (fun x => match x with | .string s => 60 - s.size | _ => 0)
          case atStart => exact ⟨0, Nat.zero_le _, rfl⟩
          case round =>
            obtain ⟨k, hk, rfl⟩ := hrel
            obtain ⟨T, hT⟩ : ∃ T, T = H ++ List.replicate k 0 := ⟨_, rfl⟩
            have lT : T.length = 10 + b.length + k := by rw [hT]; simp [lH]
            have HT := Lib.hid hT
            rw [← hT]
            clear hT
            by_cases hlt : k < 50 - b.length
            · have a5 : ¬ 9223372036854775807 < T.length + 1 := by omega
              have hlt' : (T.length : Int) < 60 := by omega
              go_wp2
              go_round
              case rel => exact ⟨k + 1, by omega, by rw [show (⟨T.toArray⟩ ++ ⟨#[0]⟩ : ByteArray) = ⟨(T ++ [0]).toArray⟩ from ba_append T [0], HT.out, List.append_assoc, ← List.replicate_succ']⟩
              case measure => simp [ByteArray.size, lT]; omega
            · have e60 : T.length = 60 := by omega
              have hlt' : ¬ (T.length : Int) < 60 := by omega
              have HT2 : Hid (T = R.sixty ⟨e, s, fl, b⟩) := Lib.hid (by rw [HT.out, show k = 50 - b.length by omega, HH.out, R.sixty, R.head, ← HE.out, ← HS.out, ← HL.out]; simp)
              obtain ⟨cp, wy, hcv, hsl, hby⟩ := conv_bytes wz T
              have HO := Lib.hid (refOf_any _ T wy _ hsl (by unfold maxLen; omega))
              obtain ⟨N, hN⟩ : ∃ N, N = C.sum T := ⟨_, rfl⟩
              have hNl : N < 4294967296 := by rw [hN]; exact C.sum_lt T
              rw [← hN] at HO
              have HN := Lib.hid hN
              have HR := Lib.hid (rnum_any N wy hNl)
              obtain ⟨NB, hNB⟩ : ∃ NB, NB = M.hiB 4 N := ⟨_, rfl⟩
              have lNB : NB.length = 4 := by rw [hNB]; exact M.hiB_len 4 N
              rw [← hNB] at HR
              have HNB := Lib.hid hNB
              have a6 : ¬ 9223372036854775807 < 60 + NB.length := by omega
              rw [e60] at hcv HO
              have a7 : ¬ (60 : Int) < 60 := by omega
              clear hN hNB hsl lT hlt'
              go_wp2_with fail
              refine HO.out.mono ?_
              rintro r wx ⟨rfl, rfl⟩
              go_wp2_with fail
              refine HR.out.mono ?_
              rintro r wv ⟨rfl, hbv⟩
              go_wp2
              go_ret2
              refine ⟨ret_v ?_, below_two hb9 (below_two hby hbv)⟩
              show Value.tuple #[.string (⟨T.toArray⟩ ++ ⟨NB.toArray⟩), .int .i64 0] = _
              rw [ba_append, HNB.out, HN.out, HT2.out]
              rfl
      · have hcv := HV.out w1 (w1.alloc (.cells #[.int .u8 (fl.toNat : Int), .int .u8 (L.toNat : Int)] 5)) (Below.refl _ _)
        go_simp
        refine hK.out _ _ ((by assumption)) (fun hHeld => ?_)
        clear hK K
        try simp only [Act.put, List.setIfInBounds_toArray, List.set_cons_zero, List.set_cons_succ]
        refine wpAnyH_ready (rs := [5]) (by kernel_rfl) (by simp) ?_
        refine (AllReadyH.cons rfl (fun K hK => ?_) AllReadyH.nil)
        · go_simp
          refine (HD2.out _ (by assumption)).mono ?_
          rintro r w4 ⟨rfl, hS4, hb4⟩
          go_wp2_with fail
          refine hK.out _ _ (hS4) (fun hHeld => ?_)
          clear hK K
          try simp only [Act.put, List.setIfInBounds_toArray, List.set_cons_zero, List.set_cons_succ]
          refine takeH (i := 6) (v := ?_) (some 15) rfl (by rfl) (by kernel_rfl) (by kernel_rfl) (by kernel_rfl) (fun _ _ _ h => h) (Or.inl ⟨by rfl, fun w hSw => ?_⟩) (by assumption) ?_
          rotate_left
          · go_simp
            try with_reducible rfl
          try simp only [Act.put, List.setIfInBounds_toArray, List.set_cons_zero, List.set_cons_succ]
          refine takeH (i := 15) (v := ?_) (some 24) rfl (by rfl) (by kernel_rfl) (by kernel_rfl) (by kernel_rfl) (fun _ _ _ h => h) (Or.inl ⟨by rfl, fun w hSw => ?_⟩) (by assumption) ?_
          rotate_left
          · go_simp
            try with_reducible rfl
          try simp only [Act.put, List.setIfInBounds_toArray, List.set_cons_zero, List.set_cons_succ]
          refine takeH (i := 18) (v := ?_) (some 27) rfl (by rfl) (by kernel_rfl) (by kernel_rfl) (by kernel_rfl) (fun _ _ _ h => h) (Or.inl ⟨by rfl, fun w hSw => ?_⟩) (by assumption) ?_
          rotate_left
          · go_simp
            try with_reducible rfl
          try simp only [Act.put, List.setIfInBounds_toArray, List.set_cons_zero, List.set_cons_succ]
          refine takeH (i := 19) (v := ?_) (some 4) rfl (by rfl) (by kernel_rfl) (by kernel_rfl) (by kernel_rfl) (fun _ _ _ h => h) (Or.inl ⟨by rfl, fun w hSw => ?_⟩) (by assumption) ?_
          rotate_left
          · go_simp
            try with_reducible rfl
          try simp only [Act.put, List.setIfInBounds_toArray, List.set_cons_zero, List.set_cons_succ]
          refine wpAnyH_done (by kernel_rfl) ?_ _
          have hbW := And.right (And.right (And.right (And.right hHeld)))
          clear hHeld
          generalize w4 = wz at *
          have hb9 : Below w.heap.size w wz := hb0.trans (hbW.mono hw0')
          have hst : ({ data := E.toArray } ++ { data := S.toArray } ++ { data := #[fl, L] } ++ { data := b.toArray } : ByteArray) = ⟨(H ++ List.replicate 0 0).toArray⟩ := by
            rw [ba_append, show (⟨#[fl, L]⟩ : ByteArray) = ⟨[fl, L].toArray⟩ from rfl, ba_append, ba_append, HH.out]; simp
          rw [hst]
          clear hst
          go_wp2_with fail
          go_loop [4] (fun x => ∃ k : Nat, k ≤ 50 - b.length ∧ x = .string ⟨(H ++ List.replicate k 0).toArray⟩) (fun x => match x with | .string s => 60 - s.size | _ => 0)
          case atStart => exact ⟨0, Nat.zero_le _, rfl⟩
          case round =>
            obtain ⟨k, hk, rfl⟩ := hrel
            obtain ⟨T, hT⟩ : ∃ T, T = H ++ List.replicate k 0 := ⟨_, rfl⟩
            have lT : T.length = 10 + b.length + k := by rw [hT]; simp [lH]
            have HT := Lib.hid hT
            rw [← hT]
            clear hT
            by_cases hlt : k < 50 - b.length
            · have a5 : ¬ 9223372036854775807 < T.length + 1 := by omega
              have hlt' : (T.length : Int) < 60 := by omega
              go_wp2
              go_round
              case rel => exact ⟨k + 1, by omega, by rw [show (⟨T.toArray⟩ ++ ⟨#[0]⟩ : ByteArray) = ⟨(T ++ [0]).toArray⟩ from ba_append T [0], HT.out, List.append_assoc, ← List.replicate_succ']⟩
              case measure => simp [ByteArray.size, lT]; omega
            · have e60 : T.length = 60 := by omega
              have hlt' : ¬ (T.length : Int) < 60 := by omega
              have HT2 : Hid (T = R.sixty ⟨e, s, fl, b⟩) := Lib.hid (by rw [HT.out, show k = 50 - b.length by omega, HH.out, R.sixty, R.head, ← HE.out, ← HS.out, ← HL.out]; simp)
              obtain ⟨cp, wy, hcv, hsl, hby⟩ := conv_bytes wz T
              have HO := Lib.hid (refOf_any _ T wy _ hsl (by unfold maxLen; omega))
              obtain ⟨N, hN⟩ : ∃ N, N = C.sum T := ⟨_, rfl⟩
              have hNl : N < 4294967296 := by rw [hN]; exact C.sum_lt T
              rw [← hN] at HO
              have HN := Lib.hid hN
              have HR := Lib.hid (rnum_any N wy hNl)
              obtain ⟨NB, hNB⟩ : ∃ NB, NB = M.hiB 4 N := ⟨_, rfl⟩
              have lNB : NB.length = 4 := by rw [hNB]; exact M.hiB_len 4 N
              rw [← hNB] at HR
              have HNB := Lib.hid hNB
              have a6 : ¬ 9223372036854775807 < 60 + NB.length := by omega
              rw [e60] at hcv HO
              have a7 : ¬ (60 : Int) < 60 := by omega
              clear hN hNB hsl lT hlt'
              go_wp2_with fail
              refine HO.out.mono ?_
              rintro r wx ⟨rfl, rfl⟩
              go_wp2_with fail
              refine HR.out.mono ?_
              rintro r wv ⟨rfl, hbv⟩
              go_wp2
              go_ret2
              refine ⟨ret_v ?_, below_two hb9 (below_two hby hbv)⟩
              show Value.tuple #[.string (⟨T.toArray⟩ ++ ⟨NB.toArray⟩), .int .i64 0] = _
              rw [ba_append, HNB.out, HN.out, HT2.out]
              rfl
  · go_simp
    refine hK.out _ _ (HK.out _ (((Below.refl _ _).alloc (Nat.le_refl _) _).drew)) (fun hHeld => ?_)
    clear hK K
    try simp only [Act.put, List.setIfInBounds_toArray, List.set_cons_zero, List.set_cons_succ]
    refine wpAnyH_ready (rs := [2, 14]) (by kernel_rfl) (by simp) ?_
    refine (AllReadyH.cons rfl (fun K hK => ?_) (AllReadyH.cons rfl (fun K hK => ?_) AllReadyH.nil))
    · go_simp
      refine (HD1.out _ (by assumption)).mono ?_
      rintro r w2 ⟨rfl, hS2, hb2⟩
      go_wp2_with fail
      refine hK.out _ _ (hS2) (fun hHeld => ?_)
      clear hK K
      try simp only [Act.put, List.setIfInBounds_toArray, List.set_cons_zero, List.set_cons_succ]
      refine wpAnyH_ready (rs := [5, 14]) (by kernel_rfl) (by simp) ?_
      refine (AllReadyH.cons rfl (fun K hK => ?_) (AllReadyH.cons rfl (fun K hK => ?_) AllReadyH.nil))
      · go_simp
        refine (HD2.out _ (by assumption)).mono ?_
        rintro r w3 ⟨rfl, hS3, hb3⟩
        go_wp2_with fail
        refine hK.out _ _ (hS3) (fun hHeld => ?_)
        clear hK K
        try simp only [Act.put, List.setIfInBounds_toArray, List.set_cons_zero, List.set_cons_succ]
        refine takeH (i := 6) (v := ?_) (some 15) rfl (by rfl) (by kernel_rfl) (by kernel_rfl) (by kernel_rfl) (fun _ _ _ h => h) (Or.inl ⟨by rfl, fun w hSw => ?_⟩) (by assumption) ?_
        rotate_left
        · go_simp
          try with_reducible rfl
        try simp only [Act.put, List.setIfInBounds_toArray, List.set_cons_zero, List.set_cons_succ]
        refine wpAnyH_ready (rs := [14]) (by kernel_rfl) (by simp) ?_
        refine (AllReadyH.cons rfl (fun K hK => ?_) AllReadyH.nil)
        · have hcv := HV.out w0 w3 ((below_src (hb2.mono (show w0.heap.size + 1 ≤ _ by simp))).trans (hb3.mono (by have := hb2.size; simp at this; simp; omega)))
          go_simp
          refine hK.out _ _ ((by assumption)) (fun hHeld => ?_)
          clear hK K
          try simp only [Act.put, List.setIfInBounds_toArray, List.set_cons_zero, List.set_cons_succ]
          refine takeH (i := 15) (v := ?_) (some 24) rfl (by rfl) (by kernel_rfl) (by kernel_rfl) (by kernel_rfl) (fun _ _ _ h => h) (Or.inl ⟨by rfl, fun w hSw => ?_⟩) (by assumption) ?_
          rotate_left
          · go_simp
            try with_reducible rfl
          try simp only [Act.put, List.setIfInBounds_toArray, List.set_cons_zero, List.set_cons_succ]
          refine takeH (i := 18) (v := ?_) (some 27) rfl (by rfl) (by kernel_rfl) (by kernel_rfl) (by kernel_rfl) (fun _ _ _ h => h) (Or.inl ⟨by rfl, fun w hSw => ?_⟩) (by assumption) ?_
          rotate_left
          · go_simp
            try with_reducible rfl
          try simp only [Act.put, List.setIfInBounds_toArray, List.set_cons_zero, List.set_cons_succ]
          refine takeH (i := 19) (v := ?_) (some 4) rfl (by rfl) (by kernel_rfl) (by kernel_rfl) (by kernel_rfl) (fun _ _ _ h => h) (Or.inl ⟨by rfl, fun w hSw => ?_⟩) (by assumption) ?_
          rotate_left
          · go_simp
            try with_reducible rfl
          try simp only [Act.put, List.setIfInBounds_toArray, List.set_cons_zero, List.set_cons_succ]
          refine wpAnyH_done (by kernel_rfl) ?_ _
          have hbW := And.right (And.right (And.right (And.right hHeld)))
          clear hHeld
          generalize w3 = wz at *
          have hb9 : Below w.heap.size w wz := hb0.trans (hbW.mono hw0')
          have hst : ({ data := E.toArray } ++ { data := S.toArray } ++ { data := #[fl, L] } ++ { data := b.toArray } : ByteArray) = ⟨(H ++ List.replicate 0 0).toArray⟩ := by
            rw [ba_append, show (⟨#[fl, L]⟩ : ByteArray) = ⟨[fl, L].toArray⟩ from rfl, ba_append, ba_append, HH.out]; simp
          rw [hst]
          clear hst
          go_wp2_with fail
          go_loop [4] (fun x => ∃ k : Nat, k ≤ 50 - b.length ∧ x = .string ⟨(H ++ List.replicate k 0).toArray⟩) (fun x => match x with | .string s => 60 - s.size | _ => 0)
          case atStart => exact ⟨0, Nat.zero_le _, rfl⟩
          case round =>
            obtain ⟨k, hk, rfl⟩ := hrel
            obtain ⟨T, hT⟩ : ∃ T, T = H ++ List.replicate k 0 := ⟨_, rfl⟩
            have lT : T.length = 10 + b.length + k := by rw [hT]; simp [lH]
            have HT := Lib.hid hT
            rw [← hT]
            clear hT
            by_cases hlt : k < 50 - b.length
            · have a5 : ¬ 9223372036854775807 < T.length + 1 := by omega
              have hlt' : (T.length : Int) < 60 := by omega
              go_wp2
              go_round
              case rel => exact ⟨k + 1, by omega, by rw [show (⟨T.toArray⟩ ++ ⟨#[0]⟩ : ByteArray) = ⟨(T ++ [0]).toArray⟩ from ba_append T [0], HT.out, List.append_assoc, ← List.replicate_succ']⟩
              case measure => simp [ByteArray.size, lT]; omega
            · have e60 : T.length = 60 := by omega
              have hlt' : ¬ (T.length : Int) < 60 := by omega
              have HT2 : Hid (T = R.sixty ⟨e, s, fl, b⟩) := Lib.hid (by rw [HT.out, show k = 50 - b.length by omega, HH.out, R.sixty, R.head, ← HE.out, ← HS.out, ← HL.out]; simp)
              obtain ⟨cp, wy, hcv, hsl, hby⟩ := conv_bytes wz T
              have HO := Lib.hid (refOf_any _ T wy _ hsl (by unfold maxLen; omega))
              obtain ⟨N, hN⟩ : ∃ N, N = C.sum T := ⟨_, rfl⟩
              have hNl : N < 4294967296 := by rw [hN]; exact C.sum_lt T
              rw [← hN] at HO
              have HN := Lib.hid hN
              have HR := Lib.hid (rnum_any N wy hNl)
              obtain ⟨NB, hNB⟩ : ∃ NB, NB = M.hiB 4 N := ⟨_, rfl⟩
              have lNB : NB.length = 4 := by rw [hNB]; exact M.hiB_len 4 N
              rw [← hNB] at HR
              have HNB := Lib.hid hNB
              have a6 : ¬ 9223372036854775807 < 60 + NB.length := by omega
              rw [e60] at hcv HO
              have a7 : ¬ (60 : Int) < 60 := by omega
              clear hN hNB hsl lT hlt'
              go_wp2_with fail
              refine HO.out.mono ?_
              rintro r wx ⟨rfl, rfl⟩
              go_wp2_with fail
              refine HR.out.mono ?_
              rintro r wv ⟨rfl, hbv⟩
              go_wp2
              go_ret2
              refine ⟨ret_v ?_, below_two hb9 (below_two hby hbv)⟩
              show Value.tuple #[.string (⟨T.toArray⟩ ++ ⟨NB.toArray⟩), .int .i64 0] = _
              rw [ba_append, HNB.out, HN.out, HT2.out]
              rfl
      · have hcv := HV.out w0 w2 (below_src (hb2.mono (show w0.heap.size + 1 ≤ _ by simp)))
        go_simp
        refine hK.out _ _ ((by assumption)) (fun hHeld => ?_)
        clear hK K
        try simp only [Act.put, List.setIfInBounds_toArray, List.set_cons_zero, List.set_cons_succ]
        refine wpAnyH_ready (rs := [5]) (by kernel_rfl) (by simp) ?_
        refine (AllReadyH.cons rfl (fun K hK => ?_) AllReadyH.nil)
        · go_simp
          refine (HD2.out _ (by assumption)).mono ?_
          rintro r w4 ⟨rfl, hS4, hb4⟩
          go_wp2_with fail
          refine hK.out _ _ (hS4) (fun hHeld => ?_)
          clear hK K
          try simp only [Act.put, List.setIfInBounds_toArray, List.set_cons_zero, List.set_cons_succ]
          refine takeH (i := 6) (v := ?_) (some 15) rfl (by rfl) (by kernel_rfl) (by kernel_rfl) (by kernel_rfl) (fun _ _ _ h => h) (Or.inl ⟨by rfl, fun w hSw => ?_⟩) (by assumption) ?_
          rotate_left
          · go_simp
            try with_reducible rfl
          try simp only [Act.put, List.setIfInBounds_toArray, List.set_cons_zero, List.set_cons_succ]
          refine takeH (i := 15) (v := ?_) (some 24) rfl (by rfl) (by kernel_rfl) (by kernel_rfl) (by kernel_rfl) (fun _ _ _ h => h) (Or.inl ⟨by rfl, fun w hSw => ?_⟩) (by assumption) ?_
          rotate_left
          · go_simp
            try with_reducible rfl
          try simp only [Act.put, List.setIfInBounds_toArray, List.set_cons_zero, List.set_cons_succ]
          refine takeH (i := 18) (v := ?_) (some 27) rfl (by rfl) (by kernel_rfl) (by kernel_rfl) (by kernel_rfl) (fun _ _ _ h => h) (Or.inl ⟨by rfl, fun w hSw => ?_⟩) (by assumption) ?_
          rotate_left
          · go_simp
            try with_reducible rfl
          try simp only [Act.put, List.setIfInBounds_toArray, List.set_cons_zero, List.set_cons_succ]
          refine takeH (i := 19) (v := ?_) (some 4) rfl (by rfl) (by kernel_rfl) (by kernel_rfl) (by kernel_rfl) (fun _ _ _ h => h) (Or.inl ⟨by rfl, fun w hSw => ?_⟩) (by assumption) ?_
          rotate_left
          · go_simp
            try with_reducible rfl
          try simp only [Act.put, List.setIfInBounds_toArray, List.set_cons_zero, List.set_cons_succ]
          refine wpAnyH_done (by kernel_rfl) ?_ _
          have hbW := And.right (And.right (And.right (And.right hHeld)))
          clear hHeld
          generalize w4 = wz at *
          have hb9 : Below w.heap.size w wz := hb0.trans (hbW.mono hw0')
          have hst : ({ data := E.toArray } ++ { data := S.toArray } ++ { data := #[fl, L] } ++ { data := b.toArray } : ByteArray) = ⟨(H ++ List.replicate 0 0).toArray⟩ := by
            rw [ba_append, show (⟨#[fl, L]⟩ : ByteArray) = ⟨[fl, L].toArray⟩ from rfl, ba_append, ba_append, HH.out]; simp
          rw [hst]
          clear hst
          go_wp2_with fail
          go_loop [4] (fun x => ∃ k : Nat, k ≤ 50 - b.length ∧ x = .string ⟨(H ++ List.replicate k 0).toArray⟩) (fun x => match x with | .string s => 60 - s.size | _ => 0)
          case atStart => exact ⟨0, Nat.zero_le _, rfl⟩
          case round =>
            obtain ⟨k, hk, rfl⟩ := hrel
            obtain ⟨T, hT⟩ : ∃ T, T = H ++ List.replicate k 0 := ⟨_, rfl⟩
            have lT : T.length = 10 + b.length + k := by rw [hT]; simp [lH]
            have HT := Lib.hid hT
            rw [← hT]
            clear hT
            by_cases hlt : k < 50 - b.length
            · have a5 : ¬ 9223372036854775807 < T.length + 1 := by omega
              have hlt' : (T.length : Int) < 60 := by omega
              go_wp2
              go_round
              case rel => exact ⟨k + 1, by omega, by rw [show (⟨T.toArray⟩ ++ ⟨#[0]⟩ : ByteArray) = ⟨(T ++ [0]).toArray⟩ from ba_append T [0], HT.out, List.append_assoc, ← List.replicate_succ']⟩
              case measure => simp [ByteArray.size, lT]; omega
            · have e60 : T.length = 60 := by omega
              have hlt' : ¬ (T.length : Int) < 60 := by omega
              have HT2 : Hid (T = R.sixty ⟨e, s, fl, b⟩) := Lib.hid (by rw [HT.out, show k = 50 - b.length by omega, HH.out, R.sixty, R.head, ← HE.out, ← HS.out, ← HL.out]; simp)
              obtain ⟨cp, wy, hcv, hsl, hby⟩ := conv_bytes wz T
              have HO := Lib.hid (refOf_any _ T wy _ hsl (by unfold maxLen; omega))
              obtain ⟨N, hN⟩ : ∃ N, N = C.sum T := ⟨_, rfl⟩
              have hNl : N < 4294967296 := by rw [hN]; exact C.sum_lt T
              rw [← hN] at HO
              have HN := Lib.hid hN
              have HR := Lib.hid (rnum_any N wy hNl)
              obtain ⟨NB, hNB⟩ : ∃ NB, NB = M.hiB 4 N := ⟨_, rfl⟩
              have lNB : NB.length = 4 := by rw [hNB]; exact M.hiB_len 4 N
              rw [← hNB] at HR
              have HNB := Lib.hid hNB
              have a6 : ¬ 9223372036854775807 < 60 + NB.length := by omega
              rw [e60] at hcv HO
              have a7 : ¬ (60 : Int) < 60 := by omega
              clear hN hNB hsl lT hlt'
              go_wp2_with fail
              refine HO.out.mono ?_
              rintro r wx ⟨rfl, rfl⟩
              go_wp2_with fail
              refine HR.out.mono ?_
              rintro r wv ⟨rfl, hbv⟩
              go_wp2
              go_ret2
              refine ⟨ret_v ?_, below_two hb9 (below_two hby hbv)⟩
              show Value.tuple #[.string (⟨T.toArray⟩ ++ ⟨NB.toArray⟩), .int .i64 0] = _
              rw [ba_append, HNB.out, HN.out, HT2.out]
              rfl
    · have hcv := HV.out w0 (w0.alloc (.cells #[.int .u8 (fl.toNat : Int), .int .u8 (L.toNat : Int)] 5)).drew ((Below.refl _ _).drew)
      go_simp
      refine hK.out _ _ ((by assumption)) (fun hHeld => ?_)
      clear hK K
      try simp only [Act.put, List.setIfInBounds_toArray, List.set_cons_zero, List.set_cons_succ]
      refine wpAnyH_ready (rs := [2]) (by kernel_rfl) (by simp) ?_
      refine (AllReadyH.cons rfl (fun K hK => ?_) AllReadyH.nil)
      · go_simp
        refine (HD1.out _ (by assumption)).mono ?_
        rintro r w3 ⟨rfl, hS3, hb3⟩
        go_wp2_with fail
        refine hK.out _ _ (hS3) (fun hHeld => ?_)
        clear hK K
        try simp only [Act.put, List.setIfInBounds_toArray, List.set_cons_zero, List.set_cons_succ]
        refine wpAnyH_ready (rs := [5]) (by kernel_rfl) (by simp) ?_
        refine (AllReadyH.cons rfl (fun K hK => ?_) AllReadyH.nil)
        · go_simp
          refine (HD2.out _ (by assumption)).mono ?_
          rintro r w4 ⟨rfl, hS4, hb4⟩
          go_wp2_with fail
          refine hK.out _ _ (hS4) (fun hHeld => ?_)
          clear hK K
          try simp only [Act.put, List.setIfInBounds_toArray, List.set_cons_zero, List.set_cons_succ]
          refine takeH (i := 6) (v := ?_) (some 15) rfl (by rfl) (by kernel_rfl) (by kernel_rfl) (by kernel_rfl) (fun _ _ _ h => h) (Or.inl ⟨by rfl, fun w hSw => ?_⟩) (by assumption) ?_
          rotate_left
          · go_simp
            try with_reducible rfl
          try simp only [Act.put, List.setIfInBounds_toArray, List.set_cons_zero, List.set_cons_succ]
          refine takeH (i := 15) (v := ?_) (some 24) rfl (by rfl) (by kernel_rfl) (by kernel_rfl) (by kernel_rfl) (fun _ _ _ h => h) (Or.inl ⟨by rfl, fun w hSw => ?_⟩) (by assumption) ?_
          rotate_left
          · go_simp
            try with_reducible rfl
          try simp only [Act.put, List.setIfInBounds_toArray, List.set_cons_zero, List.set_cons_succ]
          refine takeH (i := 18) (v := ?_) (some 27) rfl (by rfl) (by kernel_rfl) (by kernel_rfl) (by kernel_rfl) (fun _ _ _ h => h) (Or.inl ⟨by rfl, fun w hSw => ?_⟩) (by assumption) ?_
          rotate_left
          · go_simp
            try with_reducible rfl
          try simp only [Act.put, List.setIfInBounds_toArray, List.set_cons_zero, List.set_cons_succ]
          refine takeH (i := 19) (v := ?_) (some 4) rfl (by rfl) (by kernel_rfl) (by kernel_rfl) (by kernel_rfl) (fun _ _ _ h => h) (Or.inl ⟨by rfl, fun w hSw => ?_⟩) (by assumption) ?_
          rotate_left
          · go_simp
            try with_reducible rfl
          try simp only [Act.put, List.setIfInBounds_toArray, List.set_cons_zero, List.set_cons_succ]
          refine wpAnyH_done (by kernel_rfl) ?_ _
          have hbW := And.right (And.right (And.right (And.right hHeld)))
          clear hHeld
          generalize w4 = wz at *
          have hb9 : Below w.heap.size w wz := hb0.trans (hbW.mono hw0')
          have hst : ({ data := E.toArray } ++ { data := S.toArray } ++ { data := #[fl, L] } ++ { data := b.toArray } : ByteArray) = ⟨(H ++ List.replicate 0 0).toArray⟩ := by
            rw [ba_append, show (⟨#[fl, L]⟩ : ByteArray) = ⟨[fl, L].toArray⟩ from rfl, ba_append, ba_append, HH.out]; simp
          rw [hst]
          clear hst
          go_wp2_with fail
          go_loop [4] (fun x => ∃ k : Nat, k ≤ 50 - b.length ∧ x = .string ⟨(H ++ List.replicate k 0).toArray⟩) (fun x => match x with | .string s => 60 - s.size | _ => 0)
          case atStart => exact ⟨0, Nat.zero_le _, rfl⟩
          case round =>
            obtain ⟨k, hk, rfl⟩ := hrel
            obtain ⟨T, hT⟩ : ∃ T, T = H ++ List.replicate k 0 := ⟨_, rfl⟩
            have lT : T.length = 10 + b.length + k := by rw [hT]; simp [lH]
            have HT := Lib.hid hT
            rw [← hT]
            clear hT
            by_cases hlt : k < 50 - b.length
            · have a5 : ¬ 9223372036854775807 < T.length + 1 := by omega
              have hlt' : (T.length : Int) < 60 := by omega
              go_wp2
              go_round
              case rel => exact ⟨k + 1, by omega, by rw [show (⟨T.toArray⟩ ++ ⟨#[0]⟩ : ByteArray) = ⟨(T ++ [0]).toArray⟩ from ba_append T [0], HT.out, List.append_assoc, ← List.replicate_succ']⟩
              case measure => simp [ByteArray.size, lT]; omega
            · have e60 : T.length = 60 := by omega
              have hlt' : ¬ (T.length : Int) < 60 := by omega
              have HT2 : Hid (T = R.sixty ⟨e, s, fl, b⟩) := Lib.hid (by rw [HT.out, show k = 50 - b.length by omega, HH.out, R.sixty, R.head, ← HE.out, ← HS.out, ← HL.out]; simp)
              obtain ⟨cp, wy, hcv, hsl, hby⟩ := conv_bytes wz T
              have HO := Lib.hid (refOf_any _ T wy _ hsl (by unfold maxLen; omega))
              obtain ⟨N, hN⟩ : ∃ N, N = C.sum T := ⟨_, rfl⟩
              have hNl : N < 4294967296 := by rw [hN]; exact C.sum_lt T
              rw [← hN] at HO
              have HN := Lib.hid hN
              have HR := Lib.hid (rnum_any N wy hNl)
              obtain ⟨NB, hNB⟩ : ∃ NB, NB = M.hiB 4 N := ⟨_, rfl⟩
              have lNB : NB.length = 4 := by rw [hNB]; exact M.hiB_len 4 N
              rw [← hNB] at HR
              have HNB := Lib.hid hNB
              have a6 : ¬ 9223372036854775807 < 60 + NB.length := by omega
              rw [e60] at hcv HO
              have a7 : ¬ (60 : Int) < 60 := by omega
              clear hN hNB hsl lT hlt'
              go_wp2_with fail
              refine HO.out.mono ?_
              rintro r wx ⟨rfl, rfl⟩
              go_wp2_with fail
              refine HR.out.mono ?_
              rintro r wv ⟨rfl, hbv⟩
              go_wp2
              go_ret2
              refine ⟨ret_v ?_, below_two hb9 (below_two hby hbv)⟩
              show Value.tuple #[.string (⟨T.toArray⟩ ++ ⟨NB.toArray⟩), .int .i64 0] = _
              rw [ba_append, HNB.out, HN.out, HT2.out]
              rfl

theorem rpack_any (f : R.Fr) (w : World) (hn : f.Num) : Calls Try.prog 46 #[frA f] w fun e w' => e = .returned (pkV f) ∧ Below w.heap.size w w' := by
  by_cases h : f.body.length ≤ 50
  · rw [pkV, if_pos h]; exact rpack_fits f w hn h
  · rw [pkV, if_neg h]; exact rpack_long f w (by omega)

end Go.Proofs.Ytbjbnjpdackloaa

namespace Go.Proofs.Ytbjbnjpdackloaa
open Go.RowKit

def fr0 : R.Fr := ⟨0, 0, 0, []⟩
abbrev fr0C : List Value := [.int .u32 0, .int .u32 0, .int .u8 0, .string ⟨#[]⟩]

/-- what Parse tells -/
def psV (l : List UInt8) : Value := match R.parse l with
  | some f => .tuple #[frA f, .int .i64 0]
  | none => .tuple #[.agg #[.int .u32 0, .int .u32 0, .int .u8 0, .string ⟨#[]⟩], .int .i64 2]

theorem undRf : ∃ fs, Try.prog.underlying 84 = some (.struct fs) := ⟨_, Try.underlying84⟩
theorem infoRf : (Try.prog.info? 84).map (·.size) = some 4 := by kernel_rfl

theorem getD_byte (s : ByteArray) (k : Nat) (h : k < s.size) : s.data.toList.getD k 0 = s[k] := by
  rw [List.getD_eq_getElem?_getD, List.getElem?_eq_getElem (by simpa using h)]
  simp [ByteArray.getElem_eq_getElem_data]

abbrev zeroRf : Value := .tuple #[.agg #[.int .u32 0, .int .u32 0, .int .u8 0, .string ⟨#[]⟩], .int .i64 2]

set_option maxRecDepth 100000 in
theorem rparse_len (s : ByteArray) (w : World) (h : s.size ≠ 64) (_hl : s.size ≤ 1000000) : Calls Try.prog 37 #[.string s] w fun e w' => e = .returned zeroRf ∧ Below w.heap.size w w' := by
  have h' : ((s.size : Int) != 64) = true := by simp; omega
  have hP := Bk.new w fr0C 84 rfl
  have hb0 : Below w.heap.size w (w.alloc (.cells #[.int .u32 0, .int .u32 0, .int .u8 0, .string ⟨#[]⟩] 84)) := (Below.refl _ _).alloc (Nat.le_refl _) _
  go_enter Try.func37, Try.ntmps37
  go_wp2
  refine bodyPost_ret (results_bk_1 rfl _ rfl hP Try.underlying84 rfl infoRf) rfl ⟨rfl, hb0⟩

set_option maxRecDepth 100000 in
theorem rparse_nine (s : ByteArray) (w : World) (h : s.size = 64) (h9 : 50 < (s[9]'(by omega)).toNat) : Calls Try.prog 37 #[.string s] w fun e w' => e = .returned zeroRf ∧ Below w.heap.size w w' := by
  have h' : ((s.size : Int) != 64) = false := by simp; omega
  obtain ⟨c, hc⟩ : ∃ c, c = s[9]'(by omega) := ⟨_, rfl⟩
  have h9' : (50 : Int) < (c.toNat : Int) := by rw [hc]; omega
  have hP := Bk.new w fr0C 84 rfl
  have hb0 : Below w.heap.size w (w.alloc (.cells #[.int .u32 0, .int .u32 0, .int .u8 0, .string ⟨#[]⟩] 84)) := (Below.refl _ _).alloc (Nat.le_refl _) _
  have hlt : 9 < s.size := by omega
  rw [hc] at h9'
  clear hc
  go_enter Try.func37, Try.ntmps37
  go_wp2
  refine bodyPost_ret (results_bk_1 rfl _ rfl hP Try.underlying84 rfl infoRf) rfl ⟨rfl, hb0⟩

set_option maxRecDepth 100000 in
set_option linter.unusedSimpArgs false in
set_option maxHeartbeats 2000000 in
theorem rparse_more (s : ByteArray) (w : World) (h : s.size = 64) (h9 : (s[9]'(by omega)).toNat ≤ 50) : Calls Try.prog 37 #[.string s] w fun e w' => e = .returned (if R.sector (R.cand s.data.toList) = s.data.toList then .tuple #[frA (R.cand s.data.toList), .int .i64 0] else zeroRf) ∧ Below w.heap.size w w' := by
  obtain ⟨V, hV⟩ : ∃ V, V = (if R.sector (R.cand s.data.toList) = s.data.toList then Value.tuple #[frA (R.cand s.data.toList), .int .i64 0] else zeroRf) := ⟨_, rfl⟩
  rw [← hV]
  have HV := Lib.hid hV
  clear hV
  have h' : ((s.size : Int) != 64) = false := by simp; omega
  have hlt : 9 < s.size := by omega
  have hlt8 : 8 < s.size := by omega
  obtain ⟨c, hc⟩ : ∃ c, s[9]'hlt = c := ⟨_, rfl⟩
  obtain ⟨d, hd⟩ : ∃ d, s[8]'hlt8 = d := ⟨_, rfl⟩
  have h9' : (c.toNat : Int) ≤ 50 := by rw [← hc]; omega
  have hz2 : (s.extract 4 64).size = 60 := by simp [h]
  obtain ⟨e, he⟩ : ∃ e, e = M.num (s.data.toList.take 4) := ⟨_, rfl⟩
  obtain ⟨n, hn⟩ : ∃ n, n = M.num ((s.extract 4 64).data.toList.take 4) := ⟨_, rfl⟩
  have HT1 := Lib.hid (fun w => by have := rtakeNum_any s w (by unfold maxLen; omega); rw [tnV_yes (by omega), ← he] at this; exact this)
  have HT2 := Lib.hid (fun w => by have := rtakeNum_any (s.extract 4 64) w (by unfold maxLen; omega); rw [tnV_yes (by omega), ← hn] at this; exact this)
  have HC : Hid (R.cand s.data.toList = ⟨e, n, d, (s.data.toList.drop 10).take c.toNat⟩) := Lib.hid (by
    have e4 : (s.extract 4 64).data.toList.take 4 = (s.data.toList.drop 4).take 4 := by simp [List.take_take]
    rw [R.cand, ← he, hn, e4, getD_byte s 8 hlt8, getD_byte s 9 hlt, hc, hd])
  have hel : e < 4294967296 := by rw [he]; exact R.num4_lt _
  have hnl : n < 4294967296 := by rw [hn]; exact R.num4_lt _
  clear he hn h9
  have hP := Lib.hid (Bk.new w fr0C 84 rfl)
  have hw0 : w.heap.size < (w.alloc (.cells #[.int .u32 0, .int .u32 0, .int .u8 0, .string ⟨#[]⟩] 84)).heap.size := by simp
  have hb0 : Below w.heap.size w (w.alloc (.cells #[.int .u32 0, .int .u32 0, .int .u8 0, .string ⟨#[]⟩] 84)) := (Below.refl _ _).alloc (Nat.le_refl _) _
  obtain ⟨q, hq⟩ : ∃ q : Nat, q = 10 + c.toNat := ⟨_, rfl⟩
  have hw1 : IntKind.i64.wrap (c.toNat : Int) = (c.toNat : Int) := by rw [IntKind.wrap_i64]; omega
  have hw2 : IntKind.i64.wrap (10 + (c.toNat : Int)) = (q : Int) := by rw [IntKind.wrap_i64]; omega
  have q0 : (0 : Int) ≤ (q : Int) := by omega
  have q1 : (q : Int) ≤ 64 := by omega
  have q2 : (10 : Int) ≤ (q : Int) := by omega
  have HQ := Lib.hid hq
  have HB : Hid (s.extract 10 q = ⟨((s.data.toList.drop 10).take c.toNat).toArray⟩) := Lib.hid (by
    apply ByteArray.ext
    apply Array.toList_inj.1
    rw [hq]
    simp)
  obtain ⟨Z, hZ⟩ : ∃ Z : ByteArray, Z = ⟨(R.sector ⟨e, n, d, (s.data.toList.drop 10).take c.toNat⟩).toArray⟩ := ⟨_, rfl⟩
  have HK := Lib.hid (fun w => by
    have := rpack_fits ⟨e, n, d, (s.data.toList.drop 10).take c.toNat⟩ w ⟨hel, hnl⟩ (by simp only [List.length_take]; omega)
    rw [← hZ, show frA ⟨e, n, d, (s.data.toList.drop 10).take c.toNat⟩ = .agg #[.int .u32 (e : Int), .int .u32 (n : Int), .int .u8 (d.toNat : Int), .string (s.extract 10 q)] by rw [HB.out]] at this
    exact this)
  have HZ := Lib.hid hZ
  clear hq hZ
  go_enter Try.func37, Try.ntmps37
  go_wp2_with fail
  refine (HT1.out _).mono ?_
  rintro r w1 ⟨rfl, hb1⟩
  go_wp2_with fail
  refine (HT2.out _).mono ?_
  rintro r w2 ⟨rfl, hb2⟩
  go_wp2_with fail
  refine wp_region_held_drew (S := fun _ => True) (by kernel_rfl) trivial (fun hHeld => ?_)
  refine takeH (i := 0) (v := ?_) (some 35) rfl (by rfl) (by kernel_rfl) (by kernel_rfl) (by kernel_rfl) (fun _ _ _ h => h) (Or.inl ⟨by rfl, fun w hSw => ?_⟩) (by assumption) ?_
  rotate_left
  · go_simp
    try with_reducible rfl
  try simp only [Act.put, List.setIfInBounds_toArray, List.set_cons_zero, List.set_cons_succ]
  refine takeH (i := 1) (v := ?_) (some 36) rfl (by rfl) (by kernel_rfl) (by kernel_rfl) (by kernel_rfl) (fun _ _ _ h => h) (Or.inl ⟨by rfl, fun w hSw => ?_⟩) (by assumption) ?_
  rotate_left
  · go_simp
    try with_reducible rfl
  try simp only [Act.put, List.setIfInBounds_toArray, List.set_cons_zero, List.set_cons_succ]
  refine takeH (i := 2) (v := ?_) (some 37) rfl (by rfl) (by kernel_rfl) (by kernel_rfl) (by kernel_rfl) (fun _ _ _ h => h) (Or.inl ⟨by rfl, fun w hSw => ?_⟩) (by assumption) ?_
  rotate_left
  · go_simp
    try with_reducible rfl
  try simp only [Act.put, List.setIfInBounds_toArray, List.set_cons_zero, List.set_cons_succ]
  refine takeH (i := 3) (v := ?_) (some 38) rfl (by rfl) (by kernel_rfl) (by kernel_rfl) (by kernel_rfl) (fun _ _ _ h => h) (Or.inl ⟨by rfl, fun w hSw => ?_⟩) (by assumption) ?_
  rotate_left
  · go_simp
    try with_reducible rfl
  try simp only [Act.put, List.setIfInBounds_toArray, List.set_cons_zero, List.set_cons_succ]
  refine takeH (i := 4) (v := ?_) (some 39) rfl (by rfl) (by kernel_rfl) (by kernel_rfl) (by kernel_rfl) (fun _ _ _ h => h) (Or.inl ⟨by rfl, fun w hSw => ?_⟩) (by assumption) ?_
  rotate_left
  · go_simp
    try with_reducible rfl
  try simp only [Act.put, List.setIfInBounds_toArray, List.set_cons_zero, List.set_cons_succ]
  refine takeH (i := 5) (v := ?_) (some 40) rfl (by rfl) (by kernel_rfl) (by kernel_rfl) (by kernel_rfl) (fun _ _ _ h => h) (Or.inl ⟨by rfl, fun w hSw => ?_⟩) (by assumption) ?_
  rotate_left
  · go_simp
    try with_reducible rfl
  try simp only [Act.put, List.setIfInBounds_toArray, List.set_cons_zero, List.set_cons_succ]
  refine takeH (i := 6) (v := ?_) (some 41) rfl (by rfl) (by kernel_rfl) (by kernel_rfl) (by kernel_rfl) (fun _ _ _ h => h) (Or.inl ⟨by rfl, fun w hSw => ?_⟩) (by assumption) ?_
  rotate_left
  · go_simp
    try with_reducible rfl
  try simp only [Act.put, List.setIfInBounds_toArray, List.set_cons_zero, List.set_cons_succ]
  refine takeH (i := 7) (v := ?_) (some 42) rfl (by rfl) (by kernel_rfl) (by kernel_rfl) (by kernel_rfl) (fun _ _ _ h => h) (Or.inl ⟨by rfl, fun w hSw => ?_⟩) (by assumption) ?_
  rotate_left
  · go_simp
    try with_reducible rfl
  try simp only [Act.put, List.setIfInBounds_toArray, List.set_cons_zero, List.set_cons_succ]
  refine takeH (i := 8) (v := ?_) (some 43) rfl (by rfl) (by kernel_rfl) (by kernel_rfl) (by kernel_rfl) (fun _ _ _ h => h) (Or.inl ⟨by rfl, fun w hSw => ?_⟩) (by assumption) ?_
  rotate_left
  · go_simp
    try with_reducible rfl
  try simp only [Act.put, List.setIfInBounds_toArray, List.set_cons_zero, List.set_cons_succ]
  refine takeH (i := 9) (v := ?_) (some 44) rfl (by rfl) (by kernel_rfl) (by kernel_rfl) (by kernel_rfl) (fun _ _ _ h => h) (Or.inl ⟨by rfl, fun w hSw => ?_⟩) (by assumption) ?_
  rotate_left
  · go_simp
    try with_reducible rfl
  try simp only [Act.put, List.setIfInBounds_toArray, List.set_cons_zero, List.set_cons_succ]
  refine takeH (i := 10) (v := ?_) (some 45) rfl (by rfl) (by kernel_rfl) (by kernel_rfl) (by kernel_rfl) (fun _ _ _ h => h) (Or.inl ⟨by rfl, fun w hSw => ?_⟩) (by assumption) ?_
  rotate_left
  · go_simp
    try with_reducible rfl
  try simp only [Act.put, List.setIfInBounds_toArray, List.set_cons_zero, List.set_cons_succ]
  refine wpAnyH_ready (rs := [11]) (by kernel_rfl) (by simp) ?_
  refine AllReadyH.cons rfl (fun K hK => ?_) AllReadyH.nil
  go_simp
  refine hK.out _ _ (trivial) (fun hHeld => ?_)
  clear hK K
  try simp only [Act.put, List.setIfInBounds_toArray, List.set_cons_zero, List.set_cons_succ]
  refine wpAnyH_ready (rs := [12]) (by kernel_rfl) (by simp) ?_
  refine AllReadyH.cons rfl (fun K hK => ?_) AllReadyH.nil
  go_simp
  refine hK.out _ _ (trivial) (fun hHeld => ?_)
  clear hK K
  try simp only [Act.put, List.setIfInBounds_toArray, List.set_cons_zero, List.set_cons_succ]
  refine wpAnyH_done (by kernel_rfl) ?_ _
  go_wp2_with fail
  refine (HK.out _).mono ?_
  rintro r w3 ⟨rfl, hb3⟩
  have hb3' : Below (w2.alloc (.cells #[.int .u32 (e : Int), .int .u32 (n : Int), .int .u8 (d.toNat : Int), .string (s.extract 10 q)] 84)).heap.size (w2.alloc (.cells #[.int .u32 (e : Int), .int .u32 (n : Int), .int .u8 (d.toNat : Int), .string (s.extract 10 q)] 84)) w3 := below_src hb3
  have P3 := ((hP.out.step (below_two hb1 hb2)).alloc (.cells #[.int .u32 (e : Int), .int .u32 (n : Int), .int .u8 (d.toNat : Int), .string (s.extract 10 q)] 84)).step hb3'
  have G3 := (Bk.new w2 [.int .u32 (e : Int), .int .u32 (n : Int), .int .u8 (d.toNat : Int), .string (s.extract 10 q)] 84 rfl).step hb3'
  have hb9 : Below w.heap.size w w3 := below_two (below_two hb0 (below_two hb1 hb2)) (below_two ((Below.refl _ _).alloc (Nat.le_refl _) _) hb3')
  have hpg : w.heap.size < w2.heap.size := Nat.lt_of_lt_of_le hw0 (below_two hb1 hb2).size
  clear hb0 hb1 hb2 hb3 hb3' hP HK HT1 HT2 hw0
  generalize w2.heap.size = g at *
  generalize hpp : w.heap.size = p at P3 hpg ⊢
  have HI : Hid (R.sector (R.cand s.data.toList) = s.data.toList ↔ Z = s) := Lib.hid (by
    rw [HC.out]
    constructor
    · intro g; rw [HZ.out, g]
    · intro g
      have := HZ.out
      rw [g] at this
      conv => rhs; rw [this])
  by_cases hzs : Z = s
  · have HV2 := Lib.hid (HV.out.trans (if_pos (HI.out.2 hzs)))
    rw [HC.out] at HV2
    have g0 := G3.cell 0 _ rfl
    have g1 := G3.cell 1 _ rfl
    have g2 := G3.cell 2 _ rfl
    have g3 := G3.cell 3 _ rfl
    have p0 := P3.cell 0 _ rfl
    have p1 := P3.cell 1 _ rfl
    have p2 := P3.cell 2 _ rfl
    have p3 := P3.cell 3 _ rfl
    have f0 := P3.fz 0 (by simp)
    have f1 := P3.fz 1 (by simp)
    have f2 := P3.fz 2 (by simp)
    have f3 := P3.fz 3 (by simp)
    have P4 := Lib.hid (P3.all4 (.int .u32 (e : Int)) (.int .u32 (n : Int)) (.int .u8 (d.toNat : Int)) (.string (s.extract 10 q)))
    have hb10 := (((hb9.setCell (p := ⟨p, 0, none⟩) (by show _ ≤ p; omega) (.int .u32 (e : Int))).setCell (p := ⟨p, 1, none⟩) (by show _ ≤ p; omega) (.int .u32 (n : Int))).setCell (p := ⟨p, 2, none⟩) (by show _ ≤ p; omega) (.int .u8 (d.toNat : Int))).setCell (p := ⟨p, 3, none⟩) (by show _ ≤ p; omega) (.string (s.extract 10 q))
    clear P3 G3
    subst hzs
    go_wp2
    refine bodyPost_ret (results_bk_1 rfl _ rfl P4.out Try.underlying84 rfl infoRf) rfl ⟨?_, hb10⟩
    rw [HV2.out, HB.out]
    rfl
  · have HV2 := Lib.hid (HV.out.trans (if_neg (fun g => hzs (HI.out.1 g))))
    have hz1 : ¬ Z.toList = s.toList := fun g => hzs (by
      rw [ByteArray.toList_eq, ByteArray.toList_eq] at g
      exact ByteArray.ext (Array.toList_inj.1 g))
    have hz2 : (Z.toList == s.toList) = false := beq_eq_false_iff_ne.2 hz1
    have hz3 : (Z.toList != s.toList) = true := by rw [bne, hz2]; rfl
    have p0 := P3.cell 0 _ rfl
    have p1 := P3.cell 1 _ rfl
    have p2 := P3.cell 2 _ rfl
    have p3 := P3.cell 3 _ rfl
    have f0 := P3.fz 0 (by simp)
    have f1 := P3.fz 1 (by simp)
    have f2 := P3.fz 2 (by simp)
    have f3 := P3.fz 3 (by simp)
    have P4 := Lib.hid (P3.all4 (.int .u32 0) (.int .u32 0) (.int .u8 0) (.string ⟨#[]⟩))
    have hb10 := (((hb9.setCell (p := ⟨p, 0, none⟩) (by show _ ≤ p; omega) (.int .u32 0)).setCell (p := ⟨p, 1, none⟩) (by show _ ≤ p; omega) (.int .u32 0)).setCell (p := ⟨p, 2, none⟩) (by show _ ≤ p; omega) (.int .u8 0)).setCell (p := ⟨p, 3, none⟩) (by show _ ≤ p; omega) (.string ⟨#[]⟩)
    clear P3 G3
    go_wp2
    refine bodyPost_ret (results_bk_1 rfl _ rfl P4.out Try.underlying84 rfl infoRf) rfl ⟨?_, hb10⟩
    rw [HV2.out]
    rfl

theorem rparse_any (s : ByteArray) (w : World) (hl : s.size ≤ 1000000) : Calls Try.prog 37 #[.string s] w fun e w' => e = .returned (psV s.data.toList) ∧ Below w.heap.size w w' := by
  by_cases h : s.size = 64
  · have hlt : 9 < s.size := by omega
    have e9 := getD_byte s 9 hlt
    have hsz : s.data.toList.length = 64 := by simpa using h
    by_cases h9 : (s[9]'hlt).toNat ≤ 50
    · refine (rparse_more s w h h9).mono ?_
      rintro e w' ⟨rfl, hb⟩
      refine ⟨?_, hb⟩
      rw [psV, R.parse]
      by_cases hc : R.sector (R.cand s.data.toList) = s.data.toList
      · rw [if_pos hc, if_pos ⟨hsz, by rw [e9]; exact h9, hc⟩]
      · rw [if_neg hc, if_neg (fun g => hc g.2.2)]
    · refine (rparse_nine s w h (by omega)).mono ?_
      rintro e w' ⟨rfl, hb⟩
      refine ⟨?_, hb⟩
      rw [psV, R.parse, if_neg (fun g => h9 (by have := g.2.1; rw [e9] at this; exact this))]
  · refine (rparse_len s w h hl).mono ?_
    rintro e w' ⟨rfl, hb⟩
    refine ⟨?_, hb⟩
    rw [psV, R.parse_len (by simpa using h)]

end Go.Proofs.Ytbjbnjpdackloaa

namespace Go.Proofs.Ytbjbnjpdackloaa.V
open Go.RowKit

section
variable {α : Type} {f : α → List Value} {m : Nat}

theorem flat_len : ∀ (l : List α), (∀ x ∈ l, (f x).length = m) → (l.flatMap f).length = l.length * m
  | [], _ => by simp
  | x :: r, h => by
    rw [List.flatMap_cons, List.length_append, h x (by simp), flat_len r (fun y hy => h y (by simp [hy])), List.length_cons, Nat.succ_mul, Nat.add_comm]

theorem flat_at : ∀ (l : List α), (∀ x ∈ l, (f x).length = m) → ∀ (i : Nat) (hi : i < l.length) (j : Nat), j < m → (l.flatMap f)[i * m + j]? = (f l[i])[j]?
  | [], _, i, hi, _, _ => by simp at hi
  | x :: r, h, 0, _, j, hj => by
    rw [List.flatMap_cons, List.getElem?_append_left (by rw [h x (by simp)]; omega)]; simp
  | x :: r, h, i + 1, hi, j, hj => by
    have hx := h x (by simp)
    have e : (i + 1) * m + j - (f x).length = i * m + j := by rw [hx, Nat.succ_mul]; omega
    rw [List.flatMap_cons, List.getElem?_append_right (by rw [hx, Nat.succ_mul]; omega), e, flat_at r (fun y hy => h y (by simp [hy])) i (by simpa using hi) j hj]
    simp

theorem flat_set : ∀ (l : List α), (∀ x ∈ l, (f x).length = m) → ∀ (i : Nat), i < l.length → ∀ y, (f y).length = m → (l.set i y).flatMap f = splice (l.flatMap f) (i * m) (f y)
  | [], _, i, hi, _, _ => by simp at hi
  | x :: r, h, 0, _, y, hy => by
    have hx := h x (by simp)
    rw [List.set_cons_zero, List.flatMap_cons, List.flatMap_cons, splice, Nat.zero_mul, List.take_zero, List.nil_append, Nat.zero_add, hy, ← hx, List.drop_left]
  | x :: r, h, i + 1, hi, y, hy => by
    have hx := h x (by simp)
    have ih := flat_set r (fun y hy => h y (by simp [hy])) i (by simpa using hi) y hy
    have e1 : (i + 1) * m = (f x).length + i * m := by rw [hx, Nat.succ_mul, Nat.add_comm]
    rw [List.set_cons_succ, List.flatMap_cons, List.flatMap_cons, ih, splice, splice, e1, List.take_length_add_append, Nat.add_assoc, List.drop_length_add_append, List.append_assoc]

theorem flat_one (l : List α) (h : ∀ x ∈ l, ∀ u ∈ f x, u.oneCell' = true) : ∀ u ∈ l.flatMap f, u.oneCell' = true := fun u hu => by
  obtain ⟨x, hx, hu⟩ := List.mem_flatMap.1 hu
  exact h x hx u hu
end

/-! what a call owns -/
section
variable {w w' : World} {base k n : Nat} {e : TypeId} {v : Value} {xs : List Value}

theorem own_form (h : w.ownsRow base e k v n xs) (hn : 0 < n) : ∃ g cap cur, v = .slice (some ⟨g, 0, none⟩) n cap ∧ g < w.heap.size ∧ n ≤ cap ∧ w.heap[g]? = some (.cells cur e (0, 0)) ∧ cur.size = cap * k ∧ cur.toList.take (n * k) = xs := by
  have h0 := h
  rcases h.2 with ⟨_, h1⟩ | ⟨g, cap, cur, rfl, _, hg, hc, _, h1, h2⟩
  · omega
  · exact ⟨g, cap, cur, rfl, (World.ownsRow.lt h0 g rfl).2, hc, hg, h1, h2⟩

theorem own_keep (h : w.ownsRow base e k v n xs) (hk : ∀ j, v.ownBlock = some j → w'.heap[j]? = w.heap[j]?) : w'.ownsRow base e k v n xs := by
  refine ⟨h.1, ?_⟩
  rcases h.2 with hn | ⟨g, cap, cur, rfl, hb, hg, rest⟩
  · exact .inl hn
  · exact .inr ⟨g, cap, cur, rfl, hb, (hk g rfl).trans hg, rest⟩

theorem own_base (h : w.ownsRow base e k v n xs) : w.ownsRow 0 e k v n xs := by
  refine ⟨h.1, ?_⟩
  rcases h.2 with hn | ⟨g, cap, cur, rfl, hb, rest⟩
  · exact .inl hn
  · exact .inr ⟨g, cap, cur, rfl, Nat.zero_le _, rest⟩

theorem own_raise {base' : Nat} (h : w.ownsRow base e k v n xs) (hb : ∀ j, v.ownBlock = some j → base' ≤ j) : w.ownsRow base' e k v n xs := by
  refine ⟨h.1, ?_⟩
  rcases h.2 with hn | ⟨g, cap, cur, rfl, _, rest⟩
  · exact .inl hn
  · exact .inr ⟨g, cap, cur, rfl, hb g rfl, rest⟩

theorem own_cell {g cap : Nat} (h : w.ownsRow base e k (.slice (some ⟨g, 0, none⟩) n cap) n xs) {j : Nat} {u : Value} (hj : xs[j]? = some u) : w.cell? ⟨g, j, none⟩ = some u := by
  rcases h.2 with ⟨h1, _⟩ | ⟨g', cap', cur, he, _, hg, hc, _, h1, h2⟩
  · cases h1
  · cases he
    rw [← h2, List.getElem?_take] at hj
    split at hj
    · simp [World.cell?, hg]; simpa using hj
    · cases hj

theorem own_frozen {g cap : Nat} (h : w.ownsRow base e k (.slice (some ⟨g, 0, none⟩) n cap) n xs) (j : Nat) : w.frozen? ⟨g, j, none⟩ = false := by
  rcases h.2 with ⟨h1, _⟩ | ⟨g', cap', cur, he, _, hg, _⟩
  · cases h1
  · cases he
    simp [World.frozen?, hg]

theorem own_range {α : Type} {f : α → List Value} {l : List α} {g cap : Nat} (h : w.ownsRow base e k (.slice (some ⟨g, 0, none⟩) n cap) n (l.flatMap f)) (hf : ∀ x ∈ l, (f x).length = k) (i : Nat) (hi : i < l.length) : w.rangeAt g (i * k) (f l[i]) := by
  intro j u hj
  have hjl : j < k := by
    have := (List.getElem?_eq_some_iff.1 hj).1
    rwa [hf _ (List.getElem_mem hi)] at this
  refine own_cell h ?_
  rw [flat_at l hf i hi j hjl]
  exact hj

theorem own_there {g cap : Nat} (h : w.ownsRow base e k (.slice (some ⟨g, 0, none⟩) n cap) n xs) (o c : Nat) (ho : o + c ≤ n * k) : w.there g o c := fun j hj =>
  ⟨by rw [own_cell h (List.getElem?_eq_getElem (by rw [h.1]; omega))]; rfl, own_frozen h _⟩

/-- many cells set, as one row set -/
theorem setCells_row {g : Nat} {t : TypeId} {cur : Array Value} (P : Program) (hg : w.heap[g]? = some (.cells cur t (0, 0))) (o : Nat) (vs : List Value) (ho : o + vs.length ≤ cur.size) (h1 : ∀ v ∈ vs, v.oneCell' = true) : w.setCells g o vs = w.setRow g (splice cur.toList o vs).toArray := by
  have a := run_storeCells_at P g o t vs 0 cur w hg (by simpa using ho) h1
  have b := run_storeCells_cells (P := P) g o vs 0 w (fun j hj => by simp [World.cell?, hg]; omega) (fun j hj => by simp [World.frozen?, hg]) h1
  rw [b] at a
  simp only [Nat.add_zero, Result.ok.injEq, true_and] at a
  rw [a, splice, List.append_assoc]

theorem take_splice {α : Type} (L : List α) (o N : Nat) (cs : List α) (h : o + cs.length ≤ N) (hL : o ≤ L.length) : (splice L o cs).take N = splice (L.take N) o cs := by
  have e1 : (L.take o).length = o := by rw [List.length_take]; omega
  rw [splice, splice, List.take_append, List.take_append, e1, List.take_take, List.take_take, List.drop_take, Nat.min_eq_right (by omega : o ≤ N), Nat.min_eq_left (by omega : o ≤ N),
    List.take_of_length_le (by omega : cs.length ≤ N - o), show N - o - cs.length = N - (o + cs.length) by omega]

theorem own_stored {g cap : Nat} (P : Program) (h : w.ownsRow base e k (.slice (some ⟨g, 0, none⟩) n cap) n xs) (o : Nat) (cs : List Value) (ho : o + cs.length ≤ n * k) (h1 : ∀ v ∈ cs, v.oneCell' = true) :
    (w.setCells g o cs).ownsRow base e k (.slice (some ⟨g, 0, none⟩) n cap) n (splice xs o cs) ∧ (w.setCells g o cs).heap.size = w.heap.size ∧ (∀ j, j ≠ g → (w.setCells g o cs).heap[j]? = w.heap[j]?) ∧ (w.setCells g o cs).os = w.os ∧ (w.setCells g o cs).tape = w.tape ∧ (w.setCells g o cs).output = w.output := by
  rcases h.2 with ⟨h2, _⟩ | ⟨g', cap', cur, he, hb, hg, hc, hm, h3, h4⟩
  · cases h2
  · cases he
    have hle : n * k ≤ cap * k := Nat.mul_le_mul_right _ hc
    have es := setCells_row P hg o cs (by omega) h1
    rw [es]
    refine ⟨⟨?_, .inr ⟨g, cap, _, rfl, hb, setRow_heap w g cur _ _ _ hg, hc, hm, ?_, ?_⟩⟩, by simp [World.setRow], fun j hj => setRow_other w g j _ hj, rfl, rfl, rfl⟩
    · rw [length_splice _ _ _ (by rw [h.1]; exact ho), h.1]
    · rw [List.size_toArray, length_splice _ _ _ (by simp; omega), Array.length_toList, h3]
    · rw [← h4]; exact take_splice _ _ _ _ ho (by simp; omega)
end

end Go.Proofs.Ytbjbnjpdackloaa.V

namespace Go.Proofs.Ytbjbnjpdackloaa
open Go.RowKit

theorem elRf : S.El Try.prog 99 84 4 32 := by
  obtain ⟨i0, hi, hz0, hz1, hz2⟩ := info_parts (show (Try.prog.info? 84).map (fun i => (i.zero, i.size, i.bytes)) = some (some (.agg #[.int .u32 0, .int .u32 0, .int .u8 0, .string ⟨#[]⟩]), 4, 32) by kernel_rfl)
  exact ⟨Try.underlying99, ⟨i0, _, hi, hz0, hz1, hz2, rfl⟩, by decide⟩

theorem sg_row1 (w : World) (e : TypeId) (X : Array Value) {k : Nat} (hX : X.size = k) : S.Sg (w.alloc (.cells X e)) (fun b => b = w.heap.size) k (.slice (some ⟨w.heap.size, 0, none⟩) 1 1) 1 X.toList :=
  ⟨by simp [hX], _, 1, rfl, Nat.le_refl _, fun _ => ⟨_, rfl, rfl, fun j x hj => by
    rw [Addr.add_mid]
    rw [cell_of_row _ _ _ X e (0, 0) (heap_alloc_new w _), Nat.zero_add]
    simpa using hj⟩⟩

theorem frC_one (f : R.Fr) : ∀ u ∈ frC f, u.oneCell' = true := by
  intro u hu
  simp only [frC, List.mem_cons, List.not_mem_nil, or_false] at hu
  rcases hu with rfl | rfl | rfl | rfl <;> rfl

/-- frames before the flags are laid -/
def raw (e s : Nat) (rec : List UInt8) (i : Nat) : R.Fr := ⟨e, (s + i) % 4294967296, 0, (rec.drop (50 * i)).take 50⟩
def raws (e s : Nat) (rec : List UInt8) (k : Nat) : List R.Fr := (List.range k).map (raw e s rec)
theorem raws_succ (e s : Nat) (rec : List UInt8) (k : Nat) : raws e s rec (k + 1) = raws e s rec k ++ [raw e s rec k] := by simp [raws, List.range_succ]
theorem raws_len (e s : Nat) (rec : List UInt8) (k : Nat) : (raws e s rec k).length = k := by simp [raws]

def bump (f : R.Fr) : R.Fr := ⟨f.epoch, f.seq, f.flag + 1, f.body⟩

/-- the first one's flag laid, they are what the document says -/
theorem cut_of_raws (e s : Nat) (rec : List UInt8) (k : Nat) (hk : k + 1 = R.many rec.length) : (raws e s rec k ++ [(⟨e, (s + k) % 4294967296, 2, rec.drop (50 * k)⟩ : R.Fr)]).modify 0 bump = R.cut e s rec := by
  have hlast : rec.drop (50 * k) = (rec.drop (50 * k)).take 50 := by
    rw [List.take_of_length_le]
    rw [List.length_drop]
    unfold R.many at hk
    split at hk <;> omega
  apply List.ext_getElem?
  intro j
  rw [R.cut, ← hk, List.getElem?_map, List.getElem?_modify]
  by_cases hj : j < k
  · rw [List.getElem?_append_left (by rw [raws_len]; exact hj)]
    simp only [raws, List.getElem?_map, List.getElem?_range hj, List.getElem?_range (show j < k + 1 by omega), Option.map_some]
    by_cases h0 : 0 = j
    · subst h0
      simp [bump, raw, R.frameOf, R.flagOf, ← hk]
      omega
    · have h1 : ¬ j = 0 := by omega
      have h2 : ¬ j = k := by omega
      simp [h0, raw, R.frameOf, R.flagOf, ← hk, h1, h2]
  · by_cases hjk : j = k
    · subst hjk
      rw [List.getElem?_append_right (by rw [raws_len]; omega), raws_len]
      simp only [Nat.sub_self, List.getElem?_cons_zero, List.getElem?_range (show j < j + 1 by omega), Option.map_some]
      by_cases h0 : 0 = j
      · subst h0; simp [bump, R.frameOf, R.flagOf, ← hk]
        simpa using hlast
      · simp [h0, R.frameOf, R.flagOf, ← hk, show ¬ j = 0 by omega]
        exact hlast
    · rw [List.getElem?_eq_none (by simp [raws_len]; omega), List.getElem?_eq_none (l := List.range (k + 1)) (by simp; omega)]
      rfl

theorem ba_take (l : List UInt8) (n : Nat) : (⟨l.toArray⟩ : ByteArray).extract 0 n = ⟨(l.take n).toArray⟩ := by
  apply ByteArray.ext
  apply Array.toList_inj.1
  simp
theorem ba_drop (l : List UInt8) (n : Nat) : (⟨l.toArray⟩ : ByteArray).extract n l.length = ⟨(l.drop n).toArray⟩ := by
  apply ByteArray.ext
  apply Array.toList_inj.1
  simp
  rw [List.take_of_length_le (by simp)]
theorem own_frs {w : World} {base : Nat} {v : Value} {a : List R.Fr} {f : R.Fr} (h : w.ownsRow base 84 4 v (a.length + 1) (a.flatMap frC ++ frC f)) : w.ownsRow base 84 4 v (a ++ [f]).length ((a ++ [f]).flatMap frC) := by
  rw [List.flatMap_append, List.length_append]
  simpa using h

theorem u8_succ (c : UInt8) : IntKind.u8.wrap ((c.toNat : Int) + 1) = ((c + 1).toNat : Int) := by
  rw [IntKind.wrap_u8, UInt8.toNat_add]
  simp

/-- the first one's flag, one more -/
theorem bump_own {w : World} {base : Nat} {v : Value} {L : List R.Fr} (h : w.ownsRow base 84 4 v L.length (L.flatMap frC)) (hn : 0 < L.length) : ∃ g cap f rs, v = .slice (some ⟨g, 0, none⟩) L.length cap ∧ base ≤ g ∧ L = f :: rs ∧ w.cell? ⟨g, 2, none⟩ = some (.int .u8 (f.flag.toNat : Int)) ∧ w.frozen? ⟨g, 2, none⟩ = false ∧
    (w.setCell ⟨g, 2, none⟩ (.int .u8 ((f.flag + 1).toNat : Int))).ownsRow base 84 4 (.slice (some ⟨g, 0, none⟩) L.length cap) L.length ((L.modify 0 bump).flatMap frC) := by
  obtain ⟨g, cap, _, rfl, _⟩ := V.own_form h hn
  have hg := (World.ownsRow.lt h g rfl).1
  match L, h, hn with
  | f :: rs, h, _ =>
    refine ⟨g, cap, f, rs, rfl, hg, rfl, V.own_cell h (j := 2) rfl, V.own_frozen h 2, ?_⟩
    have := (V.own_stored Try.prog h 2 [.int .u8 ((f.flag + 1).toNat : Int)] (by simp; omega) (by simp [Value.oneCell'])).1
    exact this

set_option maxRecDepth 100000 in
set_option maxHeartbeats 2000000 in
theorem rcut_any (e s : Nat) (rec : List UInt8) (w : World) (_he : e < 4294967296) (hs : s < 4294967296) (hl : rec.length ≤ 1000000) :
    Calls Try.prog 45 #[.int .u32 e, .int .u32 s, .string ⟨rec.toArray⟩] w fun r w' => ∃ v, r = .returned v ∧ w'.ownsRow w.heap.size 84 4 v (R.cut e s rec).length ((R.cut e s rec).flatMap frC) ∧ Below w.heap.size w w' := by
  go_enter Try.func45, Try.ntmps45
  go_wp2_with fail
  go_loopw [1, 2, 7] (fun q x v wr => ∃ k : Nat, 50 * k ≤ rec.length ∧ (k ≠ 0 → 50 * k < rec.length) ∧ q = .int .u32 (((s + k) % 4294967296 : Nat) : Int) ∧ x = .string ⟨(rec.drop (50 * k)).toArray⟩ ∧ wr.ownsRow w.heap.size 84 4 v (raws e s rec k).length ((raws e s rec k).flatMap frC) ∧ Below w.heap.size w wr) (fun _ x _ _ => match x with | .string s => s.size | _ => 0)
  case atStart => exact ⟨0, by omega, fun h => absurd rfl h, by rw [Nat.add_zero, Nat.mod_eq_of_lt hs], by simp, S.own_nil _ _ _ _, Below.refl _ _⟩
  case round =>
    obtain ⟨k, hk, hk0, rfl, rfl, hown, hb⟩ := hrel
    obtain ⟨T, hT⟩ : ∃ T, T = rec.drop (50 * k) := ⟨_, rfl⟩
    have lT : T.length = rec.length - 50 * k := by rw [hT, List.length_drop]
    have HT := Lib.hid hT
    rw [← hT]
    clear hT
    obtain ⟨q, hq⟩ : ∃ q, q = (s + k) % 4294967296 := ⟨_, rfl⟩
    have hql : q < 4294967296 := by omega
    have HQ := Lib.hid hq
    rw [← hq]
    clear hq
    obtain ⟨A, cap, rfl, hc⟩ : ∃ A cap, u7 = .slice A (raws e s rec k).length cap ∧ (raws e s rec k).length ≤ cap := by
      obtain ⟨_, A, cap, e, hc, _⟩ := S.Sg.of_own hown
      exact ⟨A, cap, e, hc⟩
    have lr := raws_len e s rec k
    have HR := Lib.hid lr
    have HL := Lib.hid lT
    by_cases hlt : 50 < T.length
    · have hlt' : (50 : Int) < (T.length : Int) := by omega
      have h50 : (50 : Int) ≤ (T.length : Int) := by omega
      have HX : Hid ([.int .u32 (e : Int), .int .u32 (q : Int), .int .u8 0, .string ((⟨T.toArray⟩ : ByteArray).extract 0 50)] = frC (raw e s rec k)) := Lib.hid (by
        rw [frC, raw, ← HQ.out, ← HT.out, ba_take]; rfl)
      clear lr lT
      go_wp2_with (at_builtin; refine S.wpList_append_sg elRf rfl _ _ rfl (base := w.heap.size) (xs := (raws e s rec k).flatMap frC) (cs := [.int .u32 (e : Int), .int .u32 (q : Int), .int .u8 0, .string ((⟨T.toArray⟩ : ByteArray).extract 0 50)]) rfl rfl (hown.alloc _) (sg_row1 wr 84 #[.int .u32 (e : Int), .int .u32 (q : Int), .int .u8 0, .string ((⟨T.toArray⟩ : ByteArray).extract 0 50)] rfl) (by rw [HX.out]; exact frC_one _) (by rw [HR.out]; omega) (by rw [HR.out]; omega) (by have := hb.size; simp; omega) ?_)
      intro v2 w2 hown2 hgrow2 _
      have HB := Lib.hid (S.below_app (hb.alloc hb.size _) (Nat.le_refl _) (hown.alloc _) hgrow2)
      rw [HX.out] at hown2
      have HO := own_frs hown2
      rw [← raws_succ] at HO
      have HO := Lib.hid HO
      clear hown2 hgrow2 hown hb
      go_wp2
      go_roundw
      case rel => exact ⟨k + 1, by have := HL.out; omega, fun _ => by have := HL.out; omega, by rw [show ((q : Int) + 1) % 4294967296 = (((s + (k + 1)) % 4294967296 : Nat) : Int) by have := HQ.out; omega], by rw [ba_drop, HT.out, List.drop_drop, show 50 * k + 50 = 50 * (k + 1) by omega], HO.out, HB.out⟩
      case measure => simp [ByteArray.size]; omega
    · have hlt' : ¬ (50 : Int) < (T.length : Int) := by omega
      have hmany : k + 1 = R.many rec.length := by
        have := HL.out
        unfold R.many
        split <;> omega
      have HX : Hid ([.int .u32 (e : Int), .int .u32 (q : Int), .int .u8 2, .string ⟨T.toArray⟩] = frC ⟨e, (s + k) % 4294967296, 2, rec.drop (50 * k)⟩) := Lib.hid (by
        rw [frC, ← HQ.out, ← HT.out]; rfl)
      have HF := Lib.hid (cut_of_raws e s rec k hmany)
      clear lr lT
      go_wp2_with (at_builtin; refine S.wpList_append_sg elRf rfl _ _ rfl (base := w.heap.size) (xs := (raws e s rec k).flatMap frC) (cs := [.int .u32 (e : Int), .int .u32 (q : Int), .int .u8 2, .string ⟨T.toArray⟩]) rfl rfl (hown.alloc _) (sg_row1 wr 84 #[.int .u32 (e : Int), .int .u32 (q : Int), .int .u8 2, .string ⟨T.toArray⟩] rfl) (by rw [HX.out]; exact frC_one _) (by rw [HR.out]; omega) (by rw [HR.out]; omega) (by have := hb.size; simp; omega) ?_)
      intro v2 w2 hown2 hgrow2 _
      have hb2 := S.below_app (hb.alloc hb.size _) (Nat.le_refl _) (hown.alloc _) hgrow2
      rw [HX.out] at hown2
      have HO := own_frs hown2
      have hlen : (raws e s rec k ++ [(⟨e, (s + k) % 4294967296, 2, rec.drop (50 * k)⟩ : R.Fr)]).length = k + 1 := by simp [HR.out]
      clear hown2 hgrow2 hown hb
      obtain ⟨g, cap2, f0, rs, rfl, hgb, hL, c2, z2, HE⟩ := bump_own HO (by omega)
      rw [HF.out] at HE
      have hcl : (R.cut e s rec).length = k + 1 := by rw [R.cut_len, hmany]
      obtain ⟨d, hd⟩ : ∃ d, d = f0.flag + 1 := ⟨_, rfl⟩
      have h8 : ((f0.flag.toNat : Int) + 1) % 256 = (d.toNat : Int) := by rw [hd]; have := u8_succ f0.flag; rwa [IntKind.wrap_u8] at this
      rw [← hd, hlen] at HE
      have HE2 : Hid ((w2.setCell ⟨g, 2, none⟩ (.int .u8 (d.toNat : Int))).ownsRow w.heap.size 84 4 (.slice (some ⟨g, 0, none⟩) (k + 1) cap2) (R.cut e s rec).length ((R.cut e s rec).flatMap frC)) := Lib.hid (by rw [hcl]; exact HE)
      have HB := Lib.hid (hb2.setCell (p := ⟨g, 2, none⟩) hgb (.int .u8 (d.toNat : Int)))
      rw [hlen]
      obtain ⟨c, hc⟩ : ∃ c, c = f0.flag := ⟨_, rfl⟩
      rw [← hc] at c2 h8
      clear HO HE hb2 hL hd hc hlen hcl HF
      go_wp2
      go_ret
      exact ⟨_, rfl, HE2.out, HB.out⟩

end Go.Proofs.Ytbjbnjpdackloaa

namespace Go.Proofs.Ytbjbnjpdackloaa
open Go.RowKit

/-- v is the program's frame f, its body in blocks of which F holds -/
def FrV (w : World) (F : Nat → Prop) (v : Value) (f : R.Fr) : Prop :=
  ∃ vb, v = .agg #[.int .u32 (f.epoch : Int), .int .u32 (f.seq : Int), .int .u8 (f.flag.toNat : Int), vb] ∧ SlB w F vb f.body

/-- the slice v holds the program's frames fs, in blocks of which F holds -/
def Frs (w : World) (F : Nat → Prop) (v : Value) (fs : List R.Fr) : Prop :=
  ∃ A cap, v = .slice A fs.length cap ∧ fs.length ≤ cap ∧ (fs ≠ [] → ∃ a, A = some a ∧ F a.block ∧
    ∀ i (h : i < fs.length), ∃ vb, w.cell? (a.add (i * 4 + 0)) = some (.int .u32 (fs[i].epoch : Int)) ∧ w.cell? (a.add (i * 4 + 1)) = some (.int .u32 (fs[i].seq : Int)) ∧ w.cell? (a.add (i * 4 + 2)) = some (.int .u8 (fs[i].flag.toNat : Int)) ∧ w.cell? (a.add (i * 4 + 3)) = some vb ∧ SlB w F vb fs[i].body)

section
variable {w w' : World} {F G : Nat → Prop} {B : Nat} {v : Value} {f : R.Fr} {fs : List R.Fr}

theorem FrV.keep (h : FrV w F v f) (hk : ∀ p : Addr, F p.block → w'.cell? p = w.cell? p) : FrV w' F v f := by
  obtain ⟨vb, e, hb⟩ := h
  exact ⟨vb, e, hb.keep hk⟩
theorem FrV.below (h : FrV w F v f) (hb : Below B w w') (hF : ∀ b, F b → b < B) : FrV w' F v f := h.keep fun _ hp => hb.cell (hF _ hp)
theorem FrV.wider (h : FrV w F v f) (hF : ∀ b, F b → G b) : FrV w G v f := by
  obtain ⟨vb, e, hb⟩ := h
  exact ⟨vb, e, hb.wider hF⟩
theorem Frs.keep (h : Frs w F v fs) (hk : ∀ p : Addr, F p.block → w'.cell? p = w.cell? p) : Frs w' F v fs := by
  obtain ⟨A, cap, e, hc, hx⟩ := h
  refine ⟨A, cap, e, hc, fun hn => ?_⟩
  obtain ⟨a, e2, hg, hx⟩ := hx hn
  refine ⟨a, e2, hg, fun i hi => ?_⟩
  obtain ⟨vb, h0, h1, h2, h3, hv⟩ := hx i hi
  have hb : ∀ j, w'.cell? (a.add j) = w.cell? (a.add j) := fun j => hk _ (by rw [S.add_block]; exact hg)
  exact ⟨vb, (hb _).trans h0, (hb _).trans h1, (hb _).trans h2, (hb _).trans h3, hv.keep hk⟩
theorem Frs.below (h : Frs w F v fs) (hb : Below B w w') (hF : ∀ b, F b → b < B) : Frs w' F v fs := h.keep fun _ hp => hb.cell (hF _ hp)
theorem Frs.wider (h : Frs w F v fs) (hF : ∀ b, F b → G b) : Frs w G v fs := by
  obtain ⟨A, cap, e, hc, hx⟩ := h
  refine ⟨A, cap, e, hc, fun hn => ?_⟩
  obtain ⟨a, e2, hg, hx⟩ := hx hn
  refine ⟨a, e2, hF _ hg, fun i hi => ?_⟩
  obtain ⟨vb, h0, h1, h2, h3, hv⟩ := hx i hi
  exact ⟨vb, h0, h1, h2, h3, hv.wider hF⟩
end

/-- what is told of a frame: the error, and the sector -/
def packE (f : R.Fr) : Int := if f.body.length ≤ 50 then 0 else 3
def packB (f : R.Fr) : List UInt8 := if f.body.length ≤ 50 then R.sector f else []
/-- what is told of bytes: the error, and the frame -/
def parseE (l : List UInt8) : Int := match R.parse l with
  | some _ => 0
  | none => 2
def parseF (l : List UInt8) : R.Fr := match R.parse l with
  | some f => f
  | none => fr0

theorem pkV_eq (f : R.Fr) : pkV f = .tuple #[.string ⟨(packB f).toArray⟩, .int .i64 (packE f)] := by
  unfold pkV packB packE
  split <;> rfl
theorem psV_eq (l : List UInt8) : psV l = .tuple #[frA (parseF l), .int .i64 (parseE l)] := by
  unfold psV parseF parseE
  cases R.parse l <;> rfl
theorem packB_len (f : R.Fr) : (packB f).length ≤ 64 := by
  unfold packB
  split
  · rename_i h; rw [R.sector_len h]; omega
  · simp
theorem parseF_ok (l : List UInt8) : (parseF l).Num ∧ (parseF l).body.length ≤ 50 := by
  unfold parseF
  cases h : R.parse l with
  | none => exact ⟨⟨by decide, by decide⟩, by decide⟩
  | some f => exact (R.parse_some h).2

/-- the program's calls do what the document says -/
structure FrameOk : Prop where
  pack : ∀ {w : World} {F : Nat → Prop} {v : Value} {f : R.Fr}, FrV w F v f → (∀ b, F b → b < w.heap.size) → f.Num → f.body.length ≤ 1000 →
    Calls Try.prog 40 #[v] w fun r w' => ∃ vb, r = .returned (.tuple #[vb, .int .i64 (packE f)]) ∧ SlB w' (S.New w w') vb (packB f) ∧ Below w.heap.size w w'
  parse : ∀ {w : World} {F : Nat → Prop} {v : Value} {l : List UInt8}, SlB w F v l → (∀ b, F b → b < w.heap.size) → l.length ≤ 1000 →
    Calls Try.prog 48 #[v] w fun r w' => ∃ vf, r = .returned (.tuple #[vf, .int .i64 (parseE l)]) ∧ FrV w' (S.New w w') vf (parseF l) ∧ Below w.heap.size w w'
  cut : ∀ {w : World} {F : Nat → Prop} {v : Value} {l : List UInt8} (e s : Nat), SlB w F v l → (∀ b, F b → b < w.heap.size) → e < 4294967296 → s < 4294967296 → l.length ≤ 140737488355328 →
    Calls Try.prog 38 #[.int .u32 e, .int .u32 s, v] w fun r w' => ∃ v', r = .returned v' ∧ Frs w' (S.New w w') v' (R.cut e s l) ∧ Below w.heap.size w w'

abbrev nilB : Value := .slice none 0 0

end Go.Proofs.Ytbjbnjpdackloaa
