/-
  Walks of the document's frames: a frame's sector.
-/
import Derived.Test.YtfpojbnidoeohaaBk
import Derived.Test.YtfpojbnidoeohaaFrMath
import Derived.Test.YtfpojbnidoeohaaPkRef
import Derived.Test.YtfpojbnidoeohaaCkRef
import Derived.Deep.RegionHeld3
namespace Go.Proofs.Ytfpojbnidoeohaa
open Go.RowKit

/-- a frame as the document has it -/
abbrev frC (f : R.Fr) : List Value := [.int .u32 (f.epoch : Int), .int .u32 (f.seq : Int), .int .u8 (f.flag.toNat : Int), .string ⟨f.body.toArray⟩]
abbrev frA (f : R.Fr) : Value := .agg #[.int .u32 (f.epoch : Int), .int .u32 (f.seq : Int), .int .u8 (f.flag.toNat : Int), .string ⟨f.body.toArray⟩]

/-- what Pack tells -/
def pkV (f : R.Fr) : Value := if f.body.length ≤ 50 then .tuple #[.string ⟨(R.sector f).toArray⟩, .int .i64 0] else .tuple #[.string ⟨#[]⟩, .int .i64 3]

theorem conv_two (W : World) (b : Nat) (c d : UInt8) (h0 : W.cell? ⟨b, 0, none⟩ = some (.int .u8 (c.toNat : Int))) (h1 : W.cell? ⟨b, 1, none⟩ = some (.int .u8 (d.toNat : Int))) :
    (convert 44 9 (.slice (some ⟨b, 0, none⟩) 2 2)).run Try.prog W = .ok (.string ⟨#[c, d]⟩) W := by
  refine run_convert_bytes_back (P := Try.prog) W 44 9 5 ⟨b, 0, none⟩ 2 [c, d] Try.underlying44 Try.underlying5 Try.underlying9 fun j hj => ?_
  match j, hj with
  | 0, _ => simpa [Addr.add] using h0
  | 1, _ => simpa [Addr.add] using h1

/-- an operation that yields in every world at hand, taken first; its slot given -/
theorem takeH {P : Program} {md : Region.Mode} {ops : Array Oper} {Q : Exit → Act → World → Prop} {S : World → Prop} {i : Nat} {oi : Oper} {v : Value} {fuel : Nat} {listed : Array Bool} {a : Act} {w : World} (dst : Option Tmp) (hi : ops[i]? = some oi) (hd : oi.dst = dst)
    (hs : Region.noSelect ops = true) (hf : Region.free md ops listed i = true) (hr : (Region.ready md ops listed).contains i = true)
    (hQ : ∀ c a w, Q (.panic c) (a.put oi.dst v) w → Q (.panic c) a w) (hy : YieldsIf P ops S oi v a) (hS : S w)
    (h : wpAnyH P md ops Q S fuel (listed.setIfInBounds i true) (a.put dst v) w) : wpAnyH P md ops Q S (fuel + 1) listed a w :=
  wpAnyH_take hi hs hf hr hQ hy hS (by rw [hd]; exact h)

theorem below_src {B : Nat} {w w' : World} (h : Below B w.drew w') : Below B w w' := ⟨h.os, h.tape, h.output, h.size, h.block⟩

theorem rpack_long (f : R.Fr) (w : World) (h : 50 < f.body.length) : Calls Try.prog 46 #[frA f] w fun e w' => e = .returned (.tuple #[.string ⟨#[]⟩, .int .i64 3]) ∧ Below w.heap.size w w' := by
  have h' : (50 : Int) < (f.body.length : Int) := by omega
  go_enter Try.func46, Try.ntmps46
  go_wp2
  go_ret2
  exact ⟨rfl, (Below.refl _ _).alloc (Nat.le_refl _) _⟩

set_option linter.unusedSimpArgs false in
set_option maxRecDepth 100000 in
set_option maxHeartbeats 8000000 in
theorem rpack_fits (f : R.Fr) (w : World) (hn : f.Num) (h : f.body.length ≤ 50) : Calls Try.prog 46 #[frA f] w fun e w' => e = .returned (.tuple #[.string ⟨(R.sector f).toArray⟩, .int .i64 0]) ∧ Below w.heap.size w w' := by
  obtain ⟨e, s, fl, b⟩ := f
  simp only at h
  have he := hn.e
  have hs := hn.s
  simp only at he hs
  have hP := Bk.new w [.int .u32 (e : Int), .int .u32 (s : Int), .int .u8 (fl.toNat : Int), .string ⟨b.toArray⟩] 102 rfl
  obtain ⟨E, hE⟩ : ∃ E, E = M.hiB 4 e := ⟨_, rfl⟩
  obtain ⟨S, hS⟩ : ∃ S, S = M.hiB 4 s := ⟨_, rfl⟩
  obtain ⟨L, hL⟩ : ∃ L, L = UInt8.ofNat b.length := ⟨_, rfl⟩
  have HE := Lib.hid hE
  have HS := Lib.hid hS
  have HL := Lib.hid hL
  have lE : E.length = 4 := by rw [hE]; exact M.hiB_len 4 e
  have lS : S.length = 4 := by rw [hS]; exact M.hiB_len 4 s
  have hLn : IntKind.u8.wrap (b.length : Int) = (L.toNat : Int) := by rw [IntKind.wrap_u8, hL]; simp
  have HC1 := Lib.hid (fun w => by have := rnum_any e w he; rw [← hE] at this; exact this)
  have HC2 := Lib.hid (fun w => by have := rnum_any s w hs; rw [← hS] at this; exact this)
  clear hE hS hL
  have hcv := fun W b => conv_two W b fl L
  have hb0 : Below w.heap.size w (w.alloc (.cells #[.int .u32 (e : Int), .int .u32 (s : Int), .int .u8 (fl.toNat : Int), .string ⟨b.toArray⟩] 102)) := (Below.refl _ _).alloc (Nat.le_refl _) _
  have hw0 : w.heap.size < (w.alloc (.cells #[.int .u32 (e : Int), .int .u32 (s : Int), .int .u8 (fl.toNat : Int), .string ⟨b.toArray⟩] 102)).heap.size := by simp
  go_enter Try.func46, Try.ntmps46
  go_wp2_with fail
  generalize w.alloc (.cells #[.int .u32 (e : Int), .int .u32 (s : Int), .int .u8 (fl.toNat : Int), .string ⟨b.toArray⟩] 102) = w0 at *
  have HP := Lib.hid hP
  generalize hpq : w.heap.size = p at HP hw0
  have HK : Hid (∀ w', Below w0.heap.size w0 w' → w'.cell? ⟨p, 0, none⟩ = some (.int .u32 (e : Int)) ∧ w'.cell? ⟨p, 1, none⟩ = some (.int .u32 (s : Int)) ∧ w'.cell? ⟨p, 2, none⟩ = some (.int .u8 (fl.toNat : Int)) ∧ w'.cell? ⟨p, 3, none⟩ = some (.string ⟨b.toArray⟩) ∧ Below w0.heap.size w0 w') :=
    Lib.hid fun w' hb => ⟨(HP.out.step hb).cell 0 _ rfl, (HP.out.step hb).cell 1 _ rfl, (HP.out.step hb).cell 2 _ rfl, (HP.out.step hb).cell 3 _ rfl, hb⟩
  have HA : Hid (∀ (w' : World) (o : Obj), (w'.cell? ⟨p, 0, none⟩ = some (.int .u32 (e : Int)) ∧ w'.cell? ⟨p, 1, none⟩ = some (.int .u32 (s : Int)) ∧ w'.cell? ⟨p, 2, none⟩ = some (.int .u8 (fl.toNat : Int)) ∧ w'.cell? ⟨p, 3, none⟩ = some (.string ⟨b.toArray⟩) ∧ Below w0.heap.size w0 w') → (w'.alloc o).cell? ⟨p, 0, none⟩ = some (.int .u32 (e : Int)) ∧ (w'.alloc o).cell? ⟨p, 1, none⟩ = some (.int .u32 (s : Int)) ∧ (w'.alloc o).cell? ⟨p, 2, none⟩ = some (.int .u8 (fl.toNat : Int)) ∧ (w'.alloc o).cell? ⟨p, 3, none⟩ = some (.string ⟨b.toArray⟩) ∧ Below w0.heap.size w0 (w'.alloc o)) := Lib.hid fun w' o hS => HK.out _ (hS.2.2.2.2.alloc hS.2.2.2.2.size o)
  have HD1 : Hid (∀ w', (w'.cell? ⟨p, 0, none⟩ = some (.int .u32 (e : Int)) ∧ w'.cell? ⟨p, 1, none⟩ = some (.int .u32 (s : Int)) ∧ w'.cell? ⟨p, 2, none⟩ = some (.int .u8 (fl.toNat : Int)) ∧ w'.cell? ⟨p, 3, none⟩ = some (.string ⟨b.toArray⟩) ∧ Below w0.heap.size w0 w') → Calls Try.prog 54 #[.int .u32 e] w' fun r w'' => r = .returned (.string ⟨E.toArray⟩) ∧ (w''.cell? ⟨p, 0, none⟩ = some (.int .u32 (e : Int)) ∧ w''.cell? ⟨p, 1, none⟩ = some (.int .u32 (s : Int)) ∧ w''.cell? ⟨p, 2, none⟩ = some (.int .u8 (fl.toNat : Int)) ∧ w''.cell? ⟨p, 3, none⟩ = some (.string ⟨b.toArray⟩) ∧ Below w0.heap.size w0 w'') ∧ Below w'.heap.size w' w'') :=
    Lib.hid fun w' hS => (HC1.out w').mono (fun r w'' ⟨hr, hb⟩ => ⟨hr, HK.out _ (hS.2.2.2.2.trans (hb.mono hS.2.2.2.2.size)), hb⟩)
  have HD2 : Hid (∀ w', (w'.cell? ⟨p, 0, none⟩ = some (.int .u32 (e : Int)) ∧ w'.cell? ⟨p, 1, none⟩ = some (.int .u32 (s : Int)) ∧ w'.cell? ⟨p, 2, none⟩ = some (.int .u8 (fl.toNat : Int)) ∧ w'.cell? ⟨p, 3, none⟩ = some (.string ⟨b.toArray⟩) ∧ Below w0.heap.size w0 w') → Calls Try.prog 54 #[.int .u32 s] w' fun r w'' => r = .returned (.string ⟨S.toArray⟩) ∧ (w''.cell? ⟨p, 0, none⟩ = some (.int .u32 (e : Int)) ∧ w''.cell? ⟨p, 1, none⟩ = some (.int .u32 (s : Int)) ∧ w''.cell? ⟨p, 2, none⟩ = some (.int .u8 (fl.toNat : Int)) ∧ w''.cell? ⟨p, 3, none⟩ = some (.string ⟨b.toArray⟩) ∧ Below w0.heap.size w0 w'') ∧ Below w'.heap.size w' w'') :=
    Lib.hid fun w' hS => (HC2.out w').mono (fun r w'' ⟨hr, hb⟩ => ⟨hr, HK.out _ (hS.2.2.2.2.trans (hb.mono hS.2.2.2.2.size)), hb⟩)
  have hbd : Below w0.heap.size w0 w0.drew := (Below.refl _ _).drew
  clear HC1 HC2 hP
  have HV : Hid (∀ (X w' : World), Below (X.heap.size + 1) (X.alloc (.cells #[.int .u8 (fl.toNat : Int), .int .u8 (L.toNat : Int)] 5)) w' → (convert 44 9 (.slice (some ⟨X.heap.size, 0, none⟩) 2 2)).run Try.prog w' = .ok (.string ⟨#[fl, L]⟩) w') :=
    Lib.hid fun X w' hb => conv_two w' X.heap.size fl L ((hb.cell (p := ⟨X.heap.size, 0, none⟩) (Nat.lt_succ_self _)).trans (by simp)) ((hb.cell (p := ⟨X.heap.size, 1, none⟩) (Nat.lt_succ_self _)).trans (by simp))
  have a3 : ¬ 9223372036854775807 < 10 + b.length := by omega
  obtain ⟨H, hH⟩ : ∃ H, H = E ++ (S ++ ([fl, L] ++ b)) := ⟨_, rfl⟩
  have lH : H.length = 10 + b.length := by rw [hH]; simp [lE, lS]; omega
  have HH := Lib.hid hH
  have hw0' := hb0.size
  clear hcv hH
  refine wp_region_held_drew (S := fun w' => w'.cell? ⟨p, 0, none⟩ = some (.int .u32 (e : Int)) ∧ w'.cell? ⟨p, 1, none⟩ = some (.int .u32 (s : Int)) ∧ w'.cell? ⟨p, 2, none⟩ = some (.int .u8 (fl.toNat : Int)) ∧ w'.cell? ⟨p, 3, none⟩ = some (.string ⟨b.toArray⟩) ∧ Below w0.heap.size w0 w') (by kernel_rfl) (HK.out _ hbd) (fun hHeld => ?_)
  refine takeH (i := 0) (v := ?_) (some 9) rfl (by rfl) (by kernel_rfl) (by kernel_rfl) (by kernel_rfl) (fun _ _ _ h => h) (Or.inl ⟨by rfl, fun w hSw => ?_⟩) (by assumption) ?_
  rotate_left
  · go_simp
    try with_reducible rfl
  try simp only [Act.put, List.setIfInBounds_toArray, List.set_cons_zero, List.set_cons_succ]
  refine takeH (i := 1) (v := ?_) (some 10) rfl (by rfl) (by kernel_rfl) (by kernel_rfl) (by kernel_rfl) (fun _ _ _ h => h) (Or.inl ⟨by rfl, fun w hSw => ?_⟩) (by assumption) ?_
  rotate_left
  · go_simp
    try with_reducible rfl
  try simp only [Act.put, List.setIfInBounds_toArray, List.set_cons_zero, List.set_cons_succ]
  refine takeH (i := 3) (v := ?_) (some 12) rfl (by rfl) (by kernel_rfl) (by kernel_rfl) (by kernel_rfl) (fun _ _ _ h => h) (Or.inl ⟨by rfl, fun w hSw => ?_⟩) (by assumption) ?_
  rotate_left
  · go_simp
    try with_reducible rfl
  try simp only [Act.put, List.setIfInBounds_toArray, List.set_cons_zero, List.set_cons_succ]
  refine takeH (i := 4) (v := ?_) (some 13) rfl (by rfl) (by kernel_rfl) (by kernel_rfl) (by kernel_rfl) (fun _ _ _ h => h) (Or.inl ⟨by rfl, fun w hSw => ?_⟩) (by assumption) ?_
  rotate_left
  · go_simp
    try with_reducible rfl
  try simp only [Act.put, List.setIfInBounds_toArray, List.set_cons_zero, List.set_cons_succ]
  refine takeH (i := 7) (v := ?_) (some 16) rfl (by rfl) (by kernel_rfl) (by kernel_rfl) (by kernel_rfl) (fun _ _ _ h => h) (Or.inl ⟨by rfl, fun w hSw => ?_⟩) (by assumption) ?_
  rotate_left
  · go_simp
    try with_reducible rfl
  try simp only [Act.put, List.setIfInBounds_toArray, List.set_cons_zero, List.set_cons_succ]
  refine takeH (i := 8) (v := ?_) (some 17) rfl (by rfl) (by kernel_rfl) (by kernel_rfl) (by kernel_rfl) (fun _ _ _ h => h) (Or.inl ⟨by rfl, fun w hSw => ?_⟩) (by assumption) ?_
  rotate_left
  · go_simp
    try with_reducible rfl
  try simp only [Act.put, List.setIfInBounds_toArray, List.set_cons_zero, List.set_cons_succ]
  refine takeH (i := 9) (v := ?_) (some 18) rfl (by rfl) (by kernel_rfl) (by kernel_rfl) (by kernel_rfl) (fun _ _ _ h => h) (Or.inl ⟨by rfl, fun w hSw => ?_⟩) (by assumption) ?_
  rotate_left
  · go_simp
    try with_reducible rfl
  try simp only [Act.put, List.setIfInBounds_toArray, List.set_cons_zero, List.set_cons_succ]
  refine takeH (i := 10) (v := ?_) (some 19) rfl (by rfl) (by kernel_rfl) (by kernel_rfl) (by kernel_rfl) (fun _ _ _ h => h) (Or.inl ⟨by rfl, fun w hSw => ?_⟩) (by assumption) ?_
  rotate_left
  · go_simp
    try with_reducible rfl
  try simp only [Act.put, List.setIfInBounds_toArray, List.set_cons_zero, List.set_cons_succ]
  refine takeH (i := 11) (v := ?_) (some 20) rfl (by rfl) (by kernel_rfl) (by kernel_rfl) (by kernel_rfl) (fun _ _ _ h => h) (Or.inl ⟨by rfl, fun w hSw => ?_⟩) (by assumption) ?_
  rotate_left
  · go_simp
    try with_reducible rfl
  try simp only [Act.put, List.setIfInBounds_toArray, List.set_cons_zero, List.set_cons_succ]
  refine takeH (i := 12) (v := ?_) (some 21) rfl (by rfl) (by kernel_rfl) (by kernel_rfl) (by kernel_rfl) (fun _ _ _ h => h) (Or.inl ⟨by rfl, fun w hSw => ?_⟩) (by assumption) ?_
  rotate_left
  · go_simp
    try with_reducible rfl
  try simp only [Act.put, List.setIfInBounds_toArray, List.set_cons_zero, List.set_cons_succ]
  refine takeH (i := 16) (v := ?_) (some 25) rfl (by rfl) (by kernel_rfl) (by kernel_rfl) (by kernel_rfl) (fun _ _ _ h => h) (Or.inl ⟨by rfl, fun w hSw => ?_⟩) (by assumption) ?_
  rotate_left
  · go_simp
    try with_reducible rfl
  try simp only [Act.put, List.setIfInBounds_toArray, List.set_cons_zero, List.set_cons_succ]
  refine takeH (i := 17) (v := ?_) (some 26) rfl (by rfl) (by kernel_rfl) (by kernel_rfl) (by kernel_rfl) (fun _ _ _ h => h) (Or.inl ⟨by rfl, fun w hSw => ?_⟩) (by assumption) ?_
  rotate_left
  · go_simp
    try with_reducible rfl
  try simp only [Act.put, List.setIfInBounds_toArray, List.set_cons_zero, List.set_cons_succ]
  refine wpAnyH_ready (rs := [2, 13]) (by kernel_rfl) (by simp) ?_
  refine (AllReadyH.cons rfl (fun K hK => ?_) (AllReadyH.cons rfl (fun K hK => ?_) AllReadyH.nil))
  · go_simp
    refine (HD1.out _ (by assumption)).mono ?_
    rintro r w1 ⟨rfl, hS1, hb1⟩
    go_wp2_with fail
    refine hK.out _ _ (hS1) (fun hHeld => ?_)
    clear hK K
    try simp only [Act.put, List.setIfInBounds_toArray, List.set_cons_zero, List.set_cons_succ]
    refine wpAnyH_ready (rs := [5, 13]) (by kernel_rfl) (by simp) ?_
    refine (AllReadyH.cons rfl (fun K hK => ?_) (AllReadyH.cons rfl (fun K hK => ?_) AllReadyH.nil))
    · go_simp
      refine (HD2.out _ (by assumption)).mono ?_
      rintro r w2 ⟨rfl, hS2, hb2⟩
      go_wp2_with fail
      refine hK.out _ _ (hS2) (fun hHeld => ?_)
      clear hK K
      try simp only [Act.put, List.setIfInBounds_toArray, List.set_cons_zero, List.set_cons_succ]
      refine takeH (i := 6) (v := ?_) (some 15) rfl (by rfl) (by kernel_rfl) (by kernel_rfl) (by kernel_rfl) (fun _ _ _ h => h) (Or.inl ⟨by rfl, fun w hSw => ?_⟩) (by assumption) ?_
      rotate_left
      · go_simp
        try with_reducible rfl
      try simp only [Act.put, List.setIfInBounds_toArray, List.set_cons_zero, List.set_cons_succ]
      refine wpAnyH_ready (rs := [13]) (by kernel_rfl) (by simp) ?_
      refine (AllReadyH.cons rfl (fun K hK => ?_) AllReadyH.nil)
      · go_simp
        refine hK.out _ _ (HA.out _ _ (by assumption)) (fun hHeld => ?_)
        clear hK K
        try simp only [Act.put, List.setIfInBounds_toArray, List.set_cons_zero, List.set_cons_succ]
        refine wpAnyH_ready (rs := [14]) (by kernel_rfl) (by simp) ?_
        refine (AllReadyH.cons rfl (fun K hK => ?_) AllReadyH.nil)
        · have hcv := HV.out w2 (w2.alloc (.cells #[.int .u8 (fl.toNat : Int), .int .u8 (L.toNat : Int)] 5)) (Below.refl _ _)
          go_simp
          refine hK.out _ _ ((by assumption)) (fun hHeld => ?_)
          clear hK K
          try simp only [Act.put, List.setIfInBounds_toArray, List.set_cons_zero, List.set_cons_succ]
          refine takeH (i := 15) (v := ?_) (some 24) rfl (by rfl) (by kernel_rfl) (by kernel_rfl) (by kernel_rfl) (fun _ _ _ h => h) (Or.inl ⟨by rfl, fun w hSw => ?_⟩) (by assumption) ?_
          rotate_left
          · go_simp
            try with_reducible rfl
          try simp only [Act.put, List.setIfInBounds_toArray, List.set_cons_zero, List.set_cons_succ]
          refine takeH (i := 18) (v := ?_) (some 27) rfl (by rfl) (by kernel_rfl) (by kernel_rfl) (by kernel_rfl) (fun _ _ _ h => h) (Or.inl ⟨by rfl, fun w hSw => ?_⟩) (by assumption) ?_
          rotate_left
          · go_simp
            try with_reducible rfl
          try simp only [Act.put, List.setIfInBounds_toArray, List.set_cons_zero, List.set_cons_succ]
          refine takeH (i := 19) (v := ?_) (some 4) rfl (by rfl) (by kernel_rfl) (by kernel_rfl) (by kernel_rfl) (fun _ _ _ h => h) (Or.inl ⟨by rfl, fun w hSw => ?_⟩) (by assumption) ?_
          rotate_left
          · go_simp
            try with_reducible rfl
          try simp only [Act.put, List.setIfInBounds_toArray, List.set_cons_zero, List.set_cons_succ]
          refine wpAnyH_done (by kernel_rfl) ?_ _
          have hbW := And.right (And.right (And.right (And.right hHeld)))
          clear hHeld
          generalize (w2.alloc (.cells #[.int .u8 (fl.toNat : Int), .int .u8 (L.toNat : Int)] 5)) = wz at hbW ⊢
          have hb9 : Below w.heap.size w wz := hb0.trans (hbW.mono hw0')
          have hst : ({ data := E.toArray } ++ { data := S.toArray } ++ { data := #[fl, L] } ++ { data := b.toArray } : ByteArray) = ⟨(H ++ List.replicate 0 0).toArray⟩ := by
            rw [ba_append, show (⟨#[fl, L]⟩ : ByteArray) = ⟨[fl, L].toArray⟩ from rfl, ba_append, ba_append, HH.out]; simp
          rw [hst]
          clear hst
          go_wp2_with fail
          go_loop [4] (fun x => ∃ k : Nat, k ≤ 50 - b.length ∧ x = .string ⟨(H ++ List.replicate k 0).toArray⟩) (fun x => match x with | .string s => 60 - s.size | _ => 0)
          case atStart => exact ⟨0, Nat.zero_le _, rfl⟩
          case round =>
            obtain ⟨k, hk, rfl⟩ := hrel
            obtain ⟨T, hT⟩ : ∃ T, T = H ++ List.replicate k 0 := ⟨_, rfl⟩
            have lT : T.length = 10 + b.length + k := by rw [hT]; simp [lH]
            have HT := Lib.hid hT
            rw [← hT]
            clear hT
            by_cases hlt : k < 50 - b.length
            · have a5 : ¬ 9223372036854775807 < T.length + 1 := by omega
              have hlt' : (T.length : Int) < 60 := by omega
              go_wp2
              go_round
              case rel => exact ⟨k + 1, by omega, by rw [show (⟨T.toArray⟩ ++ ⟨#[0]⟩ : ByteArray) = ⟨(T ++ [0]).toArray⟩ from ba_append T [0], HT.out, List.append_assoc, ← List.replicate_succ']⟩
              case measure => simp [ByteArray.size, lT]; omega
            · have e60 : T.length = 60 := by omega
              have hlt' : ¬ (T.length : Int) < 60 := by omega
              have HT2 : Hid (T = R.sixty ⟨e, s, fl, b⟩) := Lib.hid (by rw [HT.out, show k = 50 - b.length by omega, HH.out, R.sixty, R.head, ← HE.out, ← HS.out, ← HL.out]; simp)
              obtain ⟨cp, wy, hcv, hsl, hby⟩ := conv_bytes wz T
              have HO := Lib.hid (refOf_any _ T wy _ hsl (by unfold maxLen; omega))
              obtain ⟨N, hN⟩ : ∃ N, N = C.sum T := ⟨_, rfl⟩
              have hNl : N < 4294967296 := by rw [hN]; exact C.sum_lt T
              rw [← hN] at HO
              have HN := Lib.hid hN
              have HR := Lib.hid (rnum_any N wy hNl)
              obtain ⟨NB, hNB⟩ : ∃ NB, NB = M.hiB 4 N := ⟨_, rfl⟩
              have lNB : NB.length = 4 := by rw [hNB]; exact M.hiB_len 4 N
              rw [← hNB] at HR
              have HNB := Lib.hid hNB
              have a6 : ¬ 9223372036854775807 < 60 + NB.length := by omega
              rw [e60] at hcv HO
              have a7 : ¬ (60 : Int) < 60 := by omega
              clear hN hNB hsl lT hlt'
              go_wp2_with fail
              refine HO.out.mono ?_
              rintro r wx ⟨rfl, rfl⟩
              go_wp2_with fail
              refine HR.out.mono ?_
              rintro r wv ⟨rfl, hbv⟩
              go_wp2
              go_ret2
              refine ⟨ret_v ?_, below_two hb9 (below_two hby hbv)⟩
              show Value.tuple #[.string (⟨T.toArray⟩ ++ ⟨NB.toArray⟩), .int .i64 0] = _
              rw [ba_append, HNB.out, HN.out, HT2.out]
              rfl
    · go_simp
      refine hK.out _ _ (HA.out _ _ (by assumption)) (fun hHeld => ?_)
      clear hK K
      try simp only [Act.put, List.setIfInBounds_toArray, List.set_cons_zero, List.set_cons_succ]
      refine wpAnyH_ready (rs := [5, 14]) (by kernel_rfl) (by simp) ?_
      refine (AllReadyH.cons rfl (fun K hK => ?_) (AllReadyH.cons rfl (fun K hK => ?_) AllReadyH.nil))
      · go_simp
        refine (HD2.out _ (by assumption)).mono ?_
        rintro r w3 ⟨rfl, hS3, hb3⟩
        go_wp2_with fail
        refine hK.out _ _ (hS3) (fun hHeld => ?_)
        clear hK K
        try simp only [Act.put, List.setIfInBounds_toArray, List.set_cons_zero, List.set_cons_succ]
        refine takeH (i := 6) (v := ?_) (some 15) rfl (by rfl) (by kernel_rfl) (by kernel_rfl) (by kernel_rfl) (fun _ _ _ h => h) (Or.inl ⟨by rfl, fun w hSw => ?_⟩) (by assumption) ?_
        rotate_left
        · go_simp
          try with_reducible rfl
        try simp only [Act.put, List.setIfInBounds_toArray, List.set_cons_zero, List.set_cons_succ]
        refine wpAnyH_ready (rs := [14]) (by kernel_rfl) (by simp) ?_
        refine (AllReadyH.cons rfl (fun K hK => ?_) AllReadyH.nil)
        · have hcv := HV.out w1 w3 (hb3.mono (by simp))
          go_simp
          refine hK.out _ _ ((by assumption)) (fun hHeld => ?_)
          clear hK K
          try simp only [Act.put, List.setIfInBounds_toArray, List.set_cons_zero, List.set_cons_succ]
          refine takeH (i := 15) (v := ?_) (some 24) rfl (by rfl) (by kernel_rfl) (by kernel_rfl) (by kernel_rfl) (fun _ _ _ h => h) (Or.inl ⟨by rfl, fun w hSw => ?_⟩) (by assumption) ?_
          rotate_left
          · go_simp
            try with_reducible rfl
          try simp only [Act.put, List.setIfInBounds_toArray, List.set_cons_zero, List.set_cons_succ]
          refine takeH (i := 18) (v := ?_) (some 27) rfl (by rfl) (by kernel_rfl) (by kernel_rfl) (by kernel_rfl) (fun _ _ _ h => h) (Or.inl ⟨by rfl, fun w hSw => ?_⟩) (by assumption) ?_
          rotate_left
          · go_simp
            try with_reducible rfl
          try simp only [Act.put, List.setIfInBounds_toArray, List.set_cons_zero, List.set_cons_succ]
          refine takeH (i := 19) (v := ?_) (some 4) rfl (by rfl) (by kernel_rfl) (by kernel_rfl) (by kernel_rfl) (fun _ _ _ h => h) (Or.inl ⟨by rfl, fun w hSw => ?_⟩) (by assumption) ?_
          rotate_left
          · go_simp
            try with_reducible rfl
          try simp only [Act.put, List.setIfInBounds_toArray, List.set_cons_zero, List.set_cons_succ]
          refine wpAnyH_done (by kernel_rfl) ?_ _
          have hbW := And.right (And.right (And.right (And.right hHeld)))
          clear hHeld
          generalize w3 = wz at *
          have hb9 : Below w.heap.size w wz := hb0.trans (hbW.mono hw0')
          have hst : ({ data := E.toArray } ++ { data := S.toArray } ++ { data := #[fl, L] } ++ { data := b.toArray } : ByteArray) = ⟨(H ++ List.replicate 0 0).toArray⟩ := by
            rw [ba_append, show (⟨#[fl, L]⟩ : ByteArray) = ⟨[fl, L].toArray⟩ from rfl, ba_append, ba_append, HH.out]; simp
          rw [hst]
          clear hst
          go_wp2_with fail
          go_loop [4] (fun x => ∃ k : Nat, k ≤ 50 - b.length ∧ x = .string ⟨(H ++ List.replicate k 0).toArray⟩) (fun x => match x with | .string s => 60 - s.size | _ => 0)
          case atStart => exact ⟨0, Nat.zero_le _, rfl⟩
          case round =>
            obtain ⟨k, hk, rfl⟩ := hrel
            obtain ⟨T, hT⟩ : ∃ T, T = H ++ List.replicate k 0 := ⟨_, rfl⟩
            have lT : T.length = 10 + b.length + k := by rw [hT]; simp [lH]
            have HT := Lib.hid hT
            rw [← hT]
            clear hT
            by_cases hlt : k < 50 - b.length
            · have a5 : ¬ 9223372036854775807 < T.length + 1 := by omega
              have hlt' : (T.length : Int) < 60 := by omega
              go_wp2
              go_round
              case rel => exact ⟨k + 1, by omega, by rw [show (⟨T.toArray⟩ ++ ⟨#[0]⟩ : ByteArray) = ⟨(T ++ [0]).toArray⟩ from ba_append T [0], HT.out, List.append_assoc, ← List.replicate_succ']⟩
              case measure => simp [ByteArray.size, lT]; omega
            · have e60 : T.length = 60 := by omega
              have hlt' : ¬ (T.length : Int) < 60 := by omega
              have HT2 : Hid (T = R.sixty ⟨e, s, fl, b⟩) := Lib.hid (by rw [HT.out, show k = 50 - b.length by omega, HH.out, R.sixty, R.head, ← HE.out, ← HS.out, ← HL.out]; simp)
              obtain ⟨cp, wy, hcv, hsl, hby⟩ := conv_bytes wz T
              have HO := Lib.hid (refOf_any _ T wy _ hsl (by unfold maxLen; omega))
              obtain ⟨N, hN⟩ : ∃ N, N = C.sum T := ⟨_, rfl⟩
              have hNl : N < 4294967296 := by rw [hN]; exact C.sum_lt T
              rw [← hN] at HO
              have HN := Lib.hid hN
              have HR := Lib.hid (rnum_any N wy hNl)
              obtain ⟨NB, hNB⟩ : ∃ NB, NB = M.hiB 4 N := ⟨_, rfl⟩
              have lNB : NB.length = 4 := by rw [hNB]; exact M.hiB_len 4 N
              rw [← hNB] at HR
              have HNB := Lib.hid hNB
              have a6 : ¬ 9223372036854775807 < 60 + NB.length := by omega
              rw [e60] at hcv HO
              have a7 : ¬ (60 : Int) < 60 := by omega
              clear hN hNB hsl lT hlt'
              go_wp2_with fail
              refine HO.out.mono ?_
              rintro r wx ⟨rfl, rfl⟩
              go_wp2_with fail
              refine HR.out.mono ?_
              rintro r wv ⟨rfl, hbv⟩
              go_wp2
              go_ret2
              refine ⟨ret_v ?_, below_two hb9 (below_two hby hbv)⟩
              show Value.tuple #[.string (⟨T.toArray⟩ ++ ⟨NB.toArray⟩), .int .i64 0] = _
              rw [ba_append, HNB.out, HN.out, HT2.out]
              rfl
      · have hcv := HV.out w1 (w1.alloc (.cells #[.int .u8 (fl.toNat : Int), .int .u8 (L.toNat : Int)] 5)) (Below.refl _ _)
        go_simp
        refine hK.out _ _ ((by assumption)) (fun hHeld => ?_)
        clear hK K
        try simp only [Act.put, List.setIfInBounds_toArray, List.set_cons_zero, List.set_cons_succ]
        refine wpAnyH_ready (rs := [5]) (by kernel_rfl) (by simp) ?_
        refine (AllReadyH.cons rfl (fun K hK => ?_) AllReadyH.nil)
        · go_simp
          refine (HD2.out _ (by assumption)).mono ?_
          rintro r w4 ⟨rfl, hS4, hb4⟩
          go_wp2_with fail
          refine hK.out _ _ (hS4) (fun hHeld => ?_)
          clear hK K
          try simp only [Act.put, List.setIfInBounds_toArray, List.set_cons_zero, List.set_cons_succ]
          refine takeH (i := 6) (v := ?_) (some 15) rfl (by rfl) (by kernel_rfl) (by kernel_rfl) (by kernel_rfl) (fun _ _ _ h => h) (Or.inl ⟨by rfl, fun w hSw => ?_⟩) (by assumption) ?_
          rotate_left
          · go_simp
            try with_reducible rfl
          try simp only [Act.put, List.setIfInBounds_toArray, List.set_cons_zero, List.set_cons_succ]
          refine takeH (i := 15) (v := ?_) (some 24) rfl (by rfl) (by kernel_rfl) (by kernel_rfl) (by kernel_rfl) (fun _ _ _ h => h) (Or.inl ⟨by rfl, fun w hSw => ?_⟩) (by assumption) ?_
          rotate_left
          · go_simp
            try with_reducible rfl
          try simp only [Act.put, List.setIfInBounds_toArray, List.set_cons_zero, List.set_cons_succ]
          refine takeH (i := 18) (v := ?_) (some 27) rfl (by rfl) (by kernel_rfl) (by kernel_rfl) (by kernel_rfl) (fun _ _ _ h => h) (Or.inl ⟨by rfl, fun w hSw => ?_⟩) (by assumption) ?_
          rotate_left
          · go_simp
            try with_reducible rfl
          try simp only [Act.put, List.setIfInBounds_toArray, List.set_cons_zero, List.set_cons_succ]
          refine takeH (i := 19) (v := ?_) (some 4) rfl (by rfl) (by kernel_rfl) (by kernel_rfl) (by kernel_rfl) (fun _ _ _ h => h) (Or.inl ⟨by rfl, fun w hSw => ?_⟩) (by assumption) ?_
          rotate_left
          · go_simp
            try with_reducible rfl
          try simp only [Act.put, List.setIfInBounds_toArray, List.set_cons_zero, List.set_cons_succ]
          refine wpAnyH_done (by kernel_rfl) ?_ _
          have hbW := And.right (And.right (And.right (And.right hHeld)))
          clear hHeld
          generalize w4 = wz at *
          have hb9 : Below w.heap.size w wz := hb0.trans (hbW.mono hw0')
          have hst : ({ data := E.toArray } ++ { data := S.toArray } ++ { data := #[fl, L] } ++ { data := b.toArray } : ByteArray) = ⟨(H ++ List.replicate 0 0).toArray⟩ := by
            rw [ba_append, show (⟨#[fl, L]⟩ : ByteArray) = ⟨[fl, L].toArray⟩ from rfl, ba_append, ba_append, HH.out]; simp
          rw [hst]
          clear hst
          go_wp2_with fail
          go_loop [4] (fun x => ∃ k : Nat, k ≤ 50 - b.length ∧ x = .string ⟨(H ++ List.replicate k 0).toArray⟩) (fun x => match x with | .string s => 60 - s.size | _ => 0)
          case atStart => exact ⟨0, Nat.zero_le _, rfl⟩
          case round =>
            obtain ⟨k, hk, rfl⟩ := hrel
            obtain ⟨T, hT⟩ : ∃ T, T = H ++ List.replicate k 0 := ⟨_, rfl⟩
            have lT : T.length = 10 + b.length + k := by rw [hT]; simp [lH]
            have HT := Lib.hid hT
            rw [← hT]
            clear hT
            by_cases hlt : k < 50 - b.length
            · have a5 : ¬ 9223372036854775807 < T.length + 1 := by omega
              have hlt' : (T.length : Int) < 60 := by omega
              go_wp2
              go_round
              case rel => exact ⟨k + 1, by omega, by rw [show (⟨T.toArray⟩ ++ ⟨#[0]⟩ : ByteArray) = ⟨(T ++ [0]).toArray⟩ from ba_append T [0], HT.out, List.append_assoc, ← List.replicate_succ']⟩
              case measure => simp [ByteArray.size, lT]; omega
            · have e60 : T.length = 60 := by omega
              have hlt' : ¬ (T.length : Int) < 60 := by omega
              have HT2 : Hid (T = R.sixty ⟨e, s, fl, b⟩) := Lib.hid (by rw [HT.out, show k = 50 - b.length by omega, HH.out, R.sixty, R.head, ← HE.out, ← HS.out, ← HL.out]; simp)
              obtain ⟨cp, wy, hcv, hsl, hby⟩ := conv_bytes wz T
              have HO := Lib.hid (refOf_any _ T wy _ hsl (by unfold maxLen; omega))
              obtain ⟨N, hN⟩ : ∃ N, N = C.sum T := ⟨_, rfl⟩
              have hNl : N < 4294967296 := by rw [hN]; exact C.sum_lt T
              rw [← hN] at HO
              have HN := Lib.hid hN
              have HR := Lib.hid (rnum_any N wy hNl)
              obtain ⟨NB, hNB⟩ : ∃ NB, NB = M.hiB 4 N := ⟨_, rfl⟩
              have lNB : NB.length = 4 := by rw [hNB]; exact M.hiB_len 4 N
              rw [← hNB] at HR
              have HNB := Lib.hid hNB
              have a6 : ¬ 9223372036854775807 < 60 + NB.length := by omega
              rw [e60] at hcv HO
              have a7 : ¬ (60 : Int) < 60 := by omega
              clear hN hNB hsl lT hlt'
              go_wp2_with fail
              refine HO.out.mono ?_
              rintro r wx ⟨rfl, rfl⟩
              go_wp2_with fail
              refine HR.out.mono ?_
              rintro r wv ⟨rfl, hbv⟩
              go_wp2
              go_ret2
              refine ⟨ret_v ?_, below_two hb9 (below_two hby hbv)⟩
              show Value.tuple #[.string (⟨T.toArray⟩ ++ ⟨NB.toArray⟩), .int .i64 0] = _
              rw [ba_append, HNB.out, HN.out, HT2.out]
              rfl
  · go_simp
    refine hK.out _ _ (HK.out _ (((Below.refl _ _).alloc (Nat.le_refl _) _).drew)) (fun hHeld => ?_)
    clear hK K
    try simp only [Act.put, List.setIfInBounds_toArray, List.set_cons_zero, List.set_cons_succ]
    refine wpAnyH_ready (rs := [2, 14]) (by kernel_rfl) (by simp) ?_
    refine (AllReadyH.cons rfl (fun K hK => ?_) (AllReadyH.cons rfl (fun K hK => ?_) AllReadyH.nil))
    · go_simp
      refine (HD1.out _ (by assumption)).mono ?_
      rintro r w2 ⟨rfl, hS2, hb2⟩
      go_wp2_with fail
      refine hK.out _ _ (hS2) (fun hHeld => ?_)
      clear hK K
      try simp only [Act.put, List.setIfInBounds_toArray, List.set_cons_zero, List.set_cons_succ]
      refine wpAnyH_ready (rs := [5, 14]) (by kernel_rfl) (by simp) ?_
      refine (AllReadyH.cons rfl (fun K hK => ?_) (AllReadyH.cons rfl (fun K hK => ?_) AllReadyH.nil))
      · go_simp
        refine (HD2.out _ (by assumption)).mono ?_
        rintro r w3 ⟨rfl, hS3, hb3⟩
        go_wp2_with fail
        refine hK.out _ _ (hS3) (fun hHeld => ?_)
        clear hK K
        try simp only [Act.put, List.setIfInBounds_toArray, List.set_cons_zero, List.set_cons_succ]
        refine takeH (i := 6) (v := ?_) (some 15) rfl (by rfl) (by kernel_rfl) (by kernel_rfl) (by kernel_rfl) (fun _ _ _ h => h) (Or.inl ⟨by rfl, fun w hSw => ?_⟩) (by assumption) ?_
        rotate_left
        · go_simp
          try with_reducible rfl
        try simp only [Act.put, List.setIfInBounds_toArray, List.set_cons_zero, List.set_cons_succ]
        refine wpAnyH_ready (rs := [14]) (by kernel_rfl) (by simp) ?_
        refine (AllReadyH.cons rfl (fun K hK => ?_) AllReadyH.nil)
        · have hcv := HV.out w0 w3 ((below_src (hb2.mono (show w0.heap.size + 1 ≤ _ by simp))).trans (hb3.mono (by have := hb2.size; simp at this; simp; omega)))
          go_simp
          refine hK.out _ _ ((by assumption)) (fun hHeld => ?_)
          clear hK K
          try simp only [Act.put, List.setIfInBounds_toArray, List.set_cons_zero, List.set_cons_succ]
          refine takeH (i := 15) (v := ?_) (some 24) rfl (by rfl) (by kernel_rfl) (by kernel_rfl) (by kernel_rfl) (fun _ _ _ h => h) (Or.inl ⟨by rfl, fun w hSw => ?_⟩) (by assumption) ?_
          rotate_left
          · go_simp
            try with_reducible rfl
          try simp only [Act.put, List.setIfInBounds_toArray, List.set_cons_zero, List.set_cons_succ]
          refine takeH (i := 18) (v := ?_) (some 27) rfl (by rfl) (by kernel_rfl) (by kernel_rfl) (by kernel_rfl) (fun _ _ _ h => h) (Or.inl ⟨by rfl, fun w hSw => ?_⟩) (by assumption) ?_
          rotate_left
          · go_simp
            try with_reducible rfl
          try simp only [Act.put, List.setIfInBounds_toArray, List.set_cons_zero, List.set_cons_succ]
          refine takeH (i := 19) (v := ?_) (some 4) rfl (by rfl) (by kernel_rfl) (by kernel_rfl) (by kernel_rfl) (fun _ _ _ h => h) (Or.inl ⟨by rfl, fun w hSw => ?_⟩) (by assumption) ?_
          rotate_left
          · go_simp
            try with_reducible rfl
          try simp only [Act.put, List.setIfInBounds_toArray, List.set_cons_zero, List.set_cons_succ]
          refine wpAnyH_done (by kernel_rfl) ?_ _
          have hbW := And.right (And.right (And.right (And.right hHeld)))
          clear hHeld
          generalize w3 = wz at *
          have hb9 : Below w.heap.size w wz := hb0.trans (hbW.mono hw0')
          have hst : ({ data := E.toArray } ++ { data := S.toArray } ++ { data := #[fl, L] } ++ { data := b.toArray } : ByteArray) = ⟨(H ++ List.replicate 0 0).toArray⟩ := by
            rw [ba_append, show (⟨#[fl, L]⟩ : ByteArray) = ⟨[fl, L].toArray⟩ from rfl, ba_append, ba_append, HH.out]; simp
          rw [hst]
          clear hst
          go_wp2_with fail
          go_loop [4] (fun x => ∃ k : Nat, k ≤ 50 - b.length ∧ x = .string ⟨(H ++ List.replicate k 0).toArray⟩) (fun x => match x with | .string s => 60 - s.size | _ => 0)
          case atStart => exact ⟨0, Nat.zero_le _, rfl⟩
          case round =>
            obtain ⟨k, hk, rfl⟩ := hrel
            obtain ⟨T, hT⟩ : ∃ T, T = H ++ List.replicate k 0 := ⟨_, rfl⟩
            have lT : T.length = 10 + b.length + k := by rw [hT]; simp [lH]
            have HT := Lib.hid hT
            rw [← hT]
            clear hT
            by_cases hlt : k < 50 - b.length
            · have a5 : ¬ 9223372036854775807 < T.length + 1 := by omega
              have hlt' : (T.length : Int) < 60 := by omega
              go_wp2
              go_round
              case rel => exact ⟨k + 1, by omega, by rw [show (⟨T.toArray⟩ ++ ⟨#[0]⟩ : ByteArray) = ⟨(T ++ [0]).toArray⟩ from ba_append T [0], HT.out, List.append_assoc, ← List.replicate_succ']⟩
              case measure => simp [ByteArray.size, lT]; omega
            · have e60 : T.length = 60 := by omega
              have hlt' : ¬ (T.length : Int) < 60 := by omega
              have HT2 : Hid (T = R.sixty ⟨e, s, fl, b⟩) := Lib.hid (by rw [HT.out, show k = 50 - b.length by omega, HH.out, R.sixty, R.head, ← HE.out, ← HS.out, ← HL.out]; simp)
              obtain ⟨cp, wy, hcv, hsl, hby⟩ := conv_bytes wz T
              have HO := Lib.hid (refOf_any _ T wy _ hsl (by unfold maxLen; omega))
              obtain ⟨N, hN⟩ : ∃ N, N = C.sum T := ⟨_, rfl⟩
              have hNl : N < 4294967296 := by rw [hN]; exact C.sum_lt T
              rw [← hN] at HO
              have HN := Lib.hid hN
              have HR := Lib.hid (rnum_any N wy hNl)
              obtain ⟨NB, hNB⟩ : ∃ NB, NB = M.hiB 4 N := ⟨_, rfl⟩
              have lNB : NB.length = 4 := by rw [hNB]; exact M.hiB_len 4 N
              rw [← hNB] at HR
              have HNB := Lib.hid hNB
              have a6 : ¬ 9223372036854775807 < 60 + NB.length := by omega
              rw [e60] at hcv HO
              have a7 : ¬ (60 : Int) < 60 := by omega
              clear hN hNB hsl lT hlt'
              go_wp2_with fail
              refine HO.out.mono ?_
              rintro r wx ⟨rfl, rfl⟩
              go_wp2_with fail
              refine HR.out.mono ?_
              rintro r wv ⟨rfl, hbv⟩
              go_wp2
              go_ret2
              refine ⟨ret_v ?_, below_two hb9 (below_two hby hbv)⟩
              show Value.tuple #[.string (⟨T.toArray⟩ ++ ⟨NB.toArray⟩), .int .i64 0] = _
              rw [ba_append, HNB.out, HN.out, HT2.out]
              rfl
      · have hcv := HV.out w0 w2 (below_src (hb2.mono (show w0.heap.size + 1 ≤ _ by simp)))
        go_simp
        refine hK.out _ _ ((by assumption)) (fun hHeld => ?_)
        clear hK K
        try simp only [Act.put, List.setIfInBounds_toArray, List.set_cons_zero, List.set_cons_succ]
        refine wpAnyH_ready (rs := [5]) (by kernel_rfl) (by simp) ?_
        refine (AllReadyH.cons rfl (fun K hK => ?_) AllReadyH.nil)
        · go_simp
          refine (HD2.out _ (by assumption)).mono ?_
          rintro r w4 ⟨rfl, hS4, hb4⟩
          go_wp2_with fail
          refine hK.out _ _ (hS4) (fun hHeld => ?_)
          clear hK K
          try simp only [Act.put, List.setIfInBounds_toArray, List.set_cons_zero, List.set_cons_succ]
          refine takeH (i := 6) (v := ?_) (some 15) rfl (by rfl) (by kernel_rfl) (by kernel_rfl) (by kernel_rfl) (fun _ _ _ h => h) (Or.inl ⟨by rfl, fun w hSw => ?_⟩) (by assumption) ?_
          rotate_left
          · go_simp
            try with_reducible rfl
          try simp only [Act.put, List.setIfInBounds_toArray, List.set_cons_zero, List.set_cons_succ]
          refine takeH (i := 15) (v := ?_) (some 24) rfl (by rfl) (by kernel_rfl) (by kernel_rfl) (by kernel_rfl) (fun _ _ _ h => h) (Or.inl ⟨by rfl, fun w hSw => ?_⟩) (by assumption) ?_
          rotate_left
          · go_simp
            try with_reducible rfl
          try simp only [Act.put, List.setIfInBounds_toArray, List.set_cons_zero, List.set_cons_succ]
          refine takeH (i := 18) (v := ?_) (some 27) rfl (by rfl) (by kernel_rfl) (by kernel_rfl) (by kernel_rfl) (fun _ _ _ h => h) (Or.inl ⟨by rfl, fun w hSw => ?_⟩) (by assumption) ?_
          rotate_left
          · go_simp
            try with_reducible rfl
          try simp only [Act.put, List.setIfInBounds_toArray, List.set_cons_zero, List.set_cons_succ]
          refine takeH (i := 19) (v := ?_) (some 4) rfl (by rfl) (by kernel_rfl) (by kernel_rfl) (by kernel_rfl) (fun _ _ _ h => h) (Or.inl ⟨by rfl, fun w hSw => ?_⟩) (by assumption) ?_
          rotate_left
          · go_simp
            try with_reducible rfl
          try simp only [Act.put, List.setIfInBounds_toArray, List.set_cons_zero, List.set_cons_succ]
          refine wpAnyH_done (by kernel_rfl) ?_ _
          have hbW := And.right (And.right (And.right (And.right hHeld)))
          clear hHeld
          generalize w4 = wz at *
          have hb9 : Below w.heap.size w wz := hb0.trans (hbW.mono hw0')
          have hst : ({ data := E.toArray } ++ { data := S.toArray } ++ { data := #[fl, L] } ++ { data := b.toArray } : ByteArray) = ⟨(H ++ List.replicate 0 0).toArray⟩ := by
            rw [ba_append, show (⟨#[fl, L]⟩ : ByteArray) = ⟨[fl, L].toArray⟩ from rfl, ba_append, ba_append, HH.out]; simp
          rw [hst]
          clear hst
          go_wp2_with fail
          go_loop [4] (fun x => ∃ k : Nat, k ≤ 50 - b.length ∧ x = .string ⟨(H ++ List.replicate k 0).toArray⟩) (fun x => match x with | .string s => 60 - s.size | _ => 0)
          case atStart => exact ⟨0, Nat.zero_le _, rfl⟩
          case round =>
            obtain ⟨k, hk, rfl⟩ := hrel
            obtain ⟨T, hT⟩ : ∃ T, T = H ++ List.replicate k 0 := ⟨_, rfl⟩
            have lT : T.length = 10 + b.length + k := by rw [hT]; simp [lH]
            have HT := Lib.hid hT
            rw [← hT]
            clear hT
            by_cases hlt : k < 50 - b.length
            · have a5 : ¬ 9223372036854775807 < T.length + 1 := by omega
              have hlt' : (T.length : Int) < 60 := by omega
              go_wp2
              go_round
              case rel => exact ⟨k + 1, by omega, by rw [show (⟨T.toArray⟩ ++ ⟨#[0]⟩ : ByteArray) = ⟨(T ++ [0]).toArray⟩ from ba_append T [0], HT.out, List.append_assoc, ← List.replicate_succ']⟩
              case measure => simp [ByteArray.size, lT]; omega
            · have e60 : T.length = 60 := by omega
              have hlt' : ¬ (T.length : Int) < 60 := by omega
              have HT2 : Hid (T = R.sixty ⟨e, s, fl, b⟩) := Lib.hid (by rw [HT.out, show k = 50 - b.length by omega, HH.out, R.sixty, R.head, ← HE.out, ← HS.out, ← HL.out]; simp)
              obtain ⟨cp, wy, hcv, hsl, hby⟩ := conv_bytes wz T
              have HO := Lib.hid (refOf_any _ T wy _ hsl (by unfold maxLen; omega))
              obtain ⟨N, hN⟩ : ∃ N, N = C.sum T := ⟨_, rfl⟩
              have hNl : N < 4294967296 := by rw [hN]; exact C.sum_lt T
              rw [← hN] at HO
              have HN := Lib.hid hN
              have HR := Lib.hid (rnum_any N wy hNl)
              obtain ⟨NB, hNB⟩ : ∃ NB, NB = M.hiB 4 N := ⟨_, rfl⟩
              have lNB : NB.length = 4 := by rw [hNB]; exact M.hiB_len 4 N
              rw [← hNB] at HR
              have HNB := Lib.hid hNB
              have a6 : ¬ 9223372036854775807 < 60 + NB.length := by omega
              rw [e60] at hcv HO
              have a7 : ¬ (60 : Int) < 60 := by omega
              clear hN hNB hsl lT hlt'
              go_wp2_with fail
              refine HO.out.mono ?_
              rintro r wx ⟨rfl, rfl⟩
              go_wp2_with fail
              refine HR.out.mono ?_
              rintro r wv ⟨rfl, hbv⟩
              go_wp2
              go_ret2
              refine ⟨ret_v ?_, below_two hb9 (below_two hby hbv)⟩
              show Value.tuple #[.string (⟨T.toArray⟩ ++ ⟨NB.toArray⟩), .int .i64 0] = _
              rw [ba_append, HNB.out, HN.out, HT2.out]
              rfl
    · have hcv := HV.out w0 (w0.alloc (.cells #[.int .u8 (fl.toNat : Int), .int .u8 (L.toNat : Int)] 5)).drew ((Below.refl _ _).drew)
      go_simp
      refine hK.out _ _ ((by assumption)) (fun hHeld => ?_)
      clear hK K
      try simp only [Act.put, List.setIfInBounds_toArray, List.set_cons_zero, List.set_cons_succ]
      refine wpAnyH_ready (rs := [2]) (by kernel_rfl) (by simp) ?_
      refine (AllReadyH.cons rfl (fun K hK => ?_) AllReadyH.nil)
      · go_simp
        refine (HD1.out _ (by assumption)).mono ?_
        rintro r w3 ⟨rfl, hS3, hb3⟩
        go_wp2_with fail
        refine hK.out _ _ (hS3) (fun hHeld => ?_)
        clear hK K
        try simp only [Act.put, List.setIfInBounds_toArray, List.set_cons_zero, List.set_cons_succ]
        refine wpAnyH_ready (rs := [5]) (by kernel_rfl) (by simp) ?_
        refine (AllReadyH.cons rfl (fun K hK => ?_) AllReadyH.nil)
        · go_simp
          refine (HD2.out _ (by assumption)).mono ?_
          rintro r w4 ⟨rfl, hS4, hb4⟩
          go_wp2_with fail
          refine hK.out _ _ (hS4) (fun hHeld => ?_)
          clear hK K
          try simp only [Act.put, List.setIfInBounds_toArray, List.set_cons_zero, List.set_cons_succ]
          refine takeH (i := 6) (v := ?_) (some 15) rfl (by rfl) (by kernel_rfl) (by kernel_rfl) (by kernel_rfl) (fun _ _ _ h => h) (Or.inl ⟨by rfl, fun w hSw => ?_⟩) (by assumption) ?_
          rotate_left
          · go_simp
            try with_reducible rfl
          try simp only [Act.put, List.setIfInBounds_toArray, List.set_cons_zero, List.set_cons_succ]
          refine takeH (i := 15) (v := ?_) (some 24) rfl (by rfl) (by kernel_rfl) (by kernel_rfl) (by kernel_rfl) (fun _ _ _ h => h) (Or.inl ⟨by rfl, fun w hSw => ?_⟩) (by assumption) ?_
          rotate_left
          · go_simp
            try with_reducible rfl
          try simp only [Act.put, List.setIfInBounds_toArray, List.set_cons_zero, List.set_cons_succ]
          refine takeH (i := 18) (v := ?_) (some 27) rfl (by rfl) (by kernel_rfl) (by kernel_rfl) (by kernel_rfl) (fun _ _ _ h => h) (Or.inl ⟨by rfl, fun w hSw => ?_⟩) (by assumption) ?_
          rotate_left
          · go_simp
            try with_reducible rfl
          try simp only [Act.put, List.setIfInBounds_toArray, List.set_cons_zero, List.set_cons_succ]
          refine takeH (i := 19) (v := ?_) (some 4) rfl (by rfl) (by kernel_rfl) (by kernel_rfl) (by kernel_rfl) (fun _ _ _ h => h) (Or.inl ⟨by rfl, fun w hSw => ?_⟩) (by assumption) ?_
          rotate_left
          · go_simp
            try with_reducible rfl
          try simp only [Act.put, List.setIfInBounds_toArray, List.set_cons_zero, List.set_cons_succ]
          refine wpAnyH_done (by kernel_rfl) ?_ _
          have hbW := And.right (And.right (And.right (And.right hHeld)))
          clear hHeld
          generalize w4 = wz at *
          have hb9 : Below w.heap.size w wz := hb0.trans (hbW.mono hw0')
          have hst : ({ data := E.toArray } ++ { data := S.toArray } ++ { data := #[fl, L] } ++ { data := b.toArray } : ByteArray) = ⟨(H ++ List.replicate 0 0).toArray⟩ := by
            rw [ba_append, show (⟨#[fl, L]⟩ : ByteArray) = ⟨[fl, L].toArray⟩ from rfl, ba_append, ba_append, HH.out]; simp
          rw [hst]
          clear hst
          go_wp2_with fail
          go_loop [4] (fun x => ∃ k : Nat, k ≤ 50 - b.length ∧ x = .string ⟨(H ++ List.replicate k 0).toArray⟩) (fun x => match x with | .string s => 60 - s.size | _ => 0)
          case atStart => exact ⟨0, Nat.zero_le _, rfl⟩
          case round =>
            obtain ⟨k, hk, rfl⟩ := hrel
            obtain ⟨T, hT⟩ : ∃ T, T = H ++ List.replicate k 0 := ⟨_, rfl⟩
            have lT : T.length = 10 + b.length + k := by rw [hT]; simp [lH]
            have HT := Lib.hid hT
            rw [← hT]
            clear hT
            by_cases hlt : k < 50 - b.length
            · have a5 : ¬ 9223372036854775807 < T.length + 1 := by omega
              have hlt' : (T.length : Int) < 60 := by omega
              go_wp2
              go_round
              case rel => exact ⟨k + 1, by omega, by rw [show (⟨T.toArray⟩ ++ ⟨#[0]⟩ : ByteArray) = ⟨(T ++ [0]).toArray⟩ from ba_append T [0], HT.out, List.append_assoc, ← List.replicate_succ']⟩
              case measure => simp [ByteArray.size, lT]; omega
            · have e60 : T.length = 60 := by omega
              have hlt' : ¬ (T.length : Int) < 60 := by omega
              have HT2 : Hid (T = R.sixty ⟨e, s, fl, b⟩) := Lib.hid (by rw [HT.out, show k = 50 - b.length by omega, HH.out, R.sixty, R.head, ← HE.out, ← HS.out, ← HL.out]; simp)
              obtain ⟨cp, wy, hcv, hsl, hby⟩ := conv_bytes wz T
              have HO := Lib.hid (refOf_any _ T wy _ hsl (by unfold maxLen; omega))
              obtain ⟨N, hN⟩ : ∃ N, N = C.sum T := ⟨_, rfl⟩
              have hNl : N < 4294967296 := by rw [hN]; exact C.sum_lt T
              rw [← hN] at HO
              have HN := Lib.hid hN
              have HR := Lib.hid (rnum_any N wy hNl)
              obtain ⟨NB, hNB⟩ : ∃ NB, NB = M.hiB 4 N := ⟨_, rfl⟩
              have lNB : NB.length = 4 := by rw [hNB]; exact M.hiB_len 4 N
              rw [← hNB] at HR
              have HNB := Lib.hid hNB
              have a6 : ¬ 9223372036854775807 < 60 + NB.length := by omega
              rw [e60] at hcv HO
              have a7 : ¬ (60 : Int) < 60 := by omega
              clear hN hNB hsl lT hlt'
              go_wp2_with fail
              refine HO.out.mono ?_
              rintro r wx ⟨rfl, rfl⟩
              go_wp2_with fail
              refine HR.out.mono ?_
              rintro r wv ⟨rfl, hbv⟩
              go_wp2
              go_ret2
              refine ⟨ret_v ?_, below_two hb9 (below_two hby hbv)⟩
              show Value.tuple #[.string (⟨T.toArray⟩ ++ ⟨NB.toArray⟩), .int .i64 0] = _
              rw [ba_append, HNB.out, HN.out, HT2.out]
              rfl

theorem rpack_any (f : R.Fr) (w : World) (hn : f.Num) : Calls Try.prog 46 #[frA f] w fun e w' => e = .returned (pkV f) ∧ Below w.heap.size w w' := by
  by_cases h : f.body.length ≤ 50
  · rw [pkV, if_pos h]; exact rpack_fits f w hn h
  · rw [pkV, if_neg h]; exact rpack_long f w (by omega)

end Go.Proofs.Ytfpojbnidoeohaa
