/-
  Package slot: what a slot has.
-/
import Derived.Test.YtbjbnjpdackloaaSoOneM
import Derived.OwnWalk
namespace Go.Proofs.Ytbjbnjpdackloaa
open Go.RowKit

set_option maxRecDepth 100000 in
set_option maxHeartbeats 1000000 in
theorem reader_any (first size which : Nat) (va : Addr) (w : World) (hf : first ≤ 1024) (hs : size ≤ 1024) (hw : which < 2) :
    Calls Try.prog 33 #[.pointer (some va), .agg #[.int .i64 (first : Int), .int .i64 (size : Int)], .int .i64 (which : Int)] w fun e w' => ∃ pd pa pw pf pu pe, e = .returned (.func (.func 47) #[] #[.pointer (some ⟨pu, 0, none⟩), .pointer (some ⟨pa, 0, none⟩), .pointer (some ⟨pd, 0, none⟩), .pointer (some ⟨pf, 0, none⟩), .pointer (some ⟨pe, 0, none⟩), .pointer (some ⟨pw, 0, none⟩)]) ∧ Rx w' pd pa pw pf pu pe (.pointer (some va)) first size which (Z.at_ first size which) 0 0 ∧ (w.heap.size ≤ pu ∧ w.heap.size ≤ pe) ∧ Below w.heap.size w w' := by
  have D0 := Bk.new w [.pointer (some va)] 26 rfl
  have A0 := Bk.new (w.alloc (.cells #[.pointer (some va)] 26)) [.int .i64 (first : Int), .int .i64 (size : Int)] 23 (g := w.heap.size + 1) (by simp)
  have W0 := Bk.new ((w.alloc (.cells #[.pointer (some va)] 26)).alloc (.cells #[.int .i64 (first : Int), .int .i64 (size : Int)] 23)) [.int .i64 (which : Int)] 3 (g := w.heap.size + 1 + 1) (by simp)
  have D2 := (D0.alloc (.cells #[.int .i64 (first : Int), .int .i64 (size : Int)] 23)).alloc (.cells #[.int .i64 (which : Int)] 3)
  have A2 := A0.alloc (.cells #[.int .i64 (which : Int)] 3)
  have hb0 : Below w.heap.size w (((w.alloc (.cells #[.pointer (some va)] 26)).alloc (.cells #[.int .i64 (first : Int), .int .i64 (size : Int)] 23)).alloc (.cells #[.int .i64 (which : Int)] 3)) := (((Below.refl _ _).alloc (Nat.le_refl _) _).alloc (by simp) _).alloc (by simp; omega) _
  have hz0 : (((w.alloc (.cells #[.pointer (some va)] 26)).alloc (.cells #[.int .i64 (first : Int), .int .i64 (size : Int)] 23)).alloc (.cells #[.int .i64 (which : Int)] 3)).heap.size = w.heap.size + 1 + 1 + 1 := by simp
  have HB := Lib.hid (slot_begin first size which (((w.alloc (.cells #[.pointer (some va)] 26)).alloc (.cells #[.int .i64 (first : Int), .int .i64 (size : Int)] 23)).alloc (.cells #[.int .i64 (which : Int)] 3)) hf hs hw)
  have hmf : ∀ (fn : Fn) (first cap : Array Value) (w : World), (Instr.makeFunc fn first cap).run Try.prog w = .ok (.func fn first cap) w := fun _ _ _ _ => rfl
  clear D0 A0
  go_enter Try.func33, Try.ntmps33
  go_wp2_with fail
  refine HB.out.mono ?_
  rintro e w1 ⟨rfl, hb1⟩
  generalize ((w.alloc (.cells #[.pointer (some va)] 26)).alloc (.cells #[.int .i64 (first : Int), .int .i64 (size : Int)] 23)).alloc (.cells #[.int .i64 (which : Int)] 3) = w0 at *
  obtain ⟨bs, hbs⟩ : ∃ bs, bs = Z.at_ first size which := ⟨_, rfl⟩
  have hs1 := hb1.size
  have HX : Hid (∀ w2, w2 = (((w1.alloc (.cells #[.int .i64 (bs : Int)] 3)).alloc (.cells #[.int .i64 0] 3)).alloc (.cells #[.int .u32 0] 36)) → Rx w2 w.heap.size (w.heap.size + 1) (w.heap.size + 1 + 1) w1.heap.size (w1.heap.size + 1) (w1.heap.size + 1 + 1) (.pointer (some va)) first size which bs 0 0 ∧ Below w.heap.size w w2) := Lib.hid (fun w2 e2 => by
    have F2 := (Bk.new w1 [.int .i64 (bs : Int)] 3 rfl).alloc (.cells #[.int .i64 0] 3)
    have U2 := Bk.new (w1.alloc (.cells #[.int .i64 (bs : Int)] 3)) [.int .i64 0] 3 (g := w1.heap.size + 1) (by simp)
    have hb2 : Below w1.heap.size w1 ((w1.alloc (.cells #[.int .i64 (bs : Int)] 3)).alloc (.cells #[.int .i64 0] 3)) := ((Below.refl _ _).alloc (Nat.le_refl _) _).alloc (by simp) _
    have hz2 : ((w1.alloc (.cells #[.int .i64 (bs : Int)] 3)).alloc (.cells #[.int .i64 0] 3)).heap.size = w1.heap.size + 1 + 1 := by simp
    generalize ((w1.alloc (.cells #[.int .i64 (bs : Int)] 3)).alloc (.cells #[.int .i64 0] 3)) = w3 at *
    have hb3 : Below w3.heap.size w3 w2 := by rw [e2]; exact (Below.refl _ _).alloc (Nat.le_refl _) _
    have E2 : Bk w2 (w1.heap.size + 1 + 1) [.int .u32 0] := by rw [e2]; exact Bk.new w3 [.int .u32 0] 36 hz2.symm
    refine ⟨⟨((D2.step hb1).step hb2).step hb3, ((A2.step hb1).step hb2).step hb3, ((W0.step hb1).step hb2).step hb3, F2.step hb3, U2.step hb3, E2, ⟨by omega, by omega, by omega, by omega, by omega⟩, ⟨by omega, by omega, by omega, by omega⟩⟩, ((hb0.trans (hb1.mono (by omega))).trans (hb2.mono (by omega))).trans (hb3.mono (by omega))⟩)
  rw [← hbs]
  have HBS := Lib.hid hbs
  clear hbs HB D2 A2 W0
  go_wp2
  obtain ⟨h1, h2⟩ := HX.out _ rfl
  go_ret
  rw [← HBS.out]
  exact ⟨_, _, _, _, _, _, rfl, h1, ⟨by omega, by omega⟩, h2⟩

/-- what is told of a checkpoint -/
def Tell (w : World) (o : Option (Nat × List UInt8)) (e : Ending) (w' : World) : Prop :=
  ∃ vb, e = .returned (.tuple #[.int .u32 (oG o : Int), vb, .bool o.isSome]) ∧ SlB w' (S.New w w') vb (oB o) ∧ Below w.heap.size w w'

/-- what the loop holds -/
structure OI (w w3 wr : World) (d : D.Dk) (va : Addr) (pd pa pw pf pu pe first size which : Nat) (all : Option (Nat × List UInt8)) (i e due : Nat) (body : List UInt8) (f : R.Fr) (Ab : Option Addr) (capb : Nat) (okb : Bool) (fb : Nat) (bd : Value) (G : Nat → Prop) : Prop where
  x : Rx wr pd pa pw pf pu pe (.pointer (some va)) first size which (Z.at_ first size which) due e
  ok : okb = true → due = i + 1 ∧ i < size ∧ Q.good d ((Z.at_ first size which + i : Nat) : Int) e i (decide (i = 0)) = some f ∧ (e ≠ 0 ∧ e % 2 = which) ∧ (Z.rest d (Z.at_ first size which) e (size - i) i body).map (fun b => (e, b)) = all
  no : okb = false → all = none
  e32 : e < 4294967296
  fk : Bk wr fb [.int .u32 (f.epoch : Int), .int .u32 (f.seq : Int), .int .u8 (f.flag.toNat : Int), .slice Ab f.body.length capb]
  fB : SlB wr G (.slice Ab f.body.length capb) f.body
  fl : f.body.length ≤ 50
  row : wr.ownsRow w3.heap.size 5 1 bd body.length (bytesV body)
  len : body.length ≤ 50 * i
  il : i ≤ size
  g : ∀ b, G b → w3.heap.size ≤ b ∧ b < wr.heap.size ∧ bd.ownBlock ≠ some b
  fb3 : w3.heap.size ≤ fb ∧ bd.ownBlock ≠ some fb
  low : Below w.heap.size w wr
  l3 : w3.heap.size ≤ wr.heap.size

section
variable {H : World → (Nat → Prop) → Value → D.Dk → Prop}

set_option maxRecDepth 100000 in
set_option maxHeartbeats 8000000 in
theorem one_yes (K : DiskOk H) (KF : FrameOk) {w : World} {F : Nat → Prop} {va : Addr} {d : D.Dk} (h : H w F (.pointer (some va)) d) {first size which : Nat} (hm : Z.May d first size) (hf : first ≤ 1024) (hw : which < 2) :
    Calls Try.prog 16 #[.pointer (some va), .agg #[.int .i64 (first : Int), .int .i64 (size : Int)], .int .i64 (which : Int)] w (Tell w (Z.one d first size which)) := by
  have HH := Lib.hid h
  have hd1024 := (K.fit h).2.2
  have hs1 := hm.s1
  have hs2 := hm.s2
  have HM := Lib.hid hm
  have hslot := hm.slot hw
  obtain ⟨n, hn⟩ : ∃ n, n = d.secs.length := ⟨_, rfl⟩
  have HFE := Lib.hid (fits_may hm)
  rw [← hn] at HFE hd1024 hslot
  have HN := Lib.hid hn
  clear hn hm h
  have P0 := Bk.new w [.int .i64 (first : Int), .int .i64 (size : Int)] 23 rfl
  have hb0 : Below w.heap.size w (w.alloc (.cells #[.int .i64 (first : Int), .int .i64 (size : Int)] 23)) := (Below.refl _ _).alloc (Nat.le_refl _) _
  have hz0 : w.heap.size < (w.alloc (.cells #[.int .i64 (first : Int), .int .i64 (size : Int)] 23)).heap.size := by simp
  have hw0 : ¬ (which : Int) < 0 := by omega
  have hw1 : ¬ (1 : Int) < (which : Int) := by omega
  obtain ⟨all, hall⟩ : ∃ all, all = Z.one d first size which := ⟨_, rfl⟩
  rw [← hall]
  have HAll := Lib.hid hall
  clear hall
  go_enter Try.func16, Try.ntmps16
  go_wp2_with fail
  generalize w.alloc (.cells #[.int .i64 (first : Int), .int .i64 (size : Int)] 23) = w0 at *
  have HP0 := Lib.hid P0
  have HK : Hid (∀ w', Below w0.heap.size w0 w' → w'.cell? ⟨w.heap.size, 0, none⟩ = some (.int .i64 (first : Int)) ∧ w'.cell? ⟨w.heap.size, 1, none⟩ = some (.int .i64 (size : Int)) ∧ Below w0.heap.size w0 w') :=
    Lib.hid fun w' hb => ⟨(HP0.out.step hb).cell 0 _ rfl, (HP0.out.step hb).cell 1 _ rfl, hb⟩
  generalize hpe : w.heap.size = p at *
  have HB0 : Hid (Below w.heap.size w w0) := Lib.hid (by rw [hpe]; exact hb0)
  clear hpe
  have HL : Hid (∀ w', (w'.cell? ⟨p, 0, none⟩ = some (.int .i64 (first : Int)) ∧ w'.cell? ⟨p, 1, none⟩ = some (.int .i64 (size : Int)) ∧ Below w0.heap.size w0 w') → Calls Try.prog 32 #[.pointer (some va)] w' fun e w'' => e = .returned (.int .i64 (n : Int)) ∧ (w''.cell? ⟨p, 0, none⟩ = some (.int .i64 (first : Int)) ∧ w''.cell? ⟨p, 1, none⟩ = some (.int .i64 (size : Int)) ∧ Below w0.heap.size w0 w'')) :=
    Lib.hid fun w' hS => (K.len (K.below (K.below HH.out HB0.out) hS.2.2)).mono (fun e w'' ⟨he, hb⟩ => ⟨by rw [HN.out]; exact he, HK.out _ (hS.2.2.trans (hb.mono hS.2.2.size))⟩)
  have HFt : Hid (∀ w', (w'.cell? ⟨p, 0, none⟩ = some (.int .i64 (first : Int)) ∧ w'.cell? ⟨p, 1, none⟩ = some (.int .i64 (size : Int)) ∧ Below w0.heap.size w0 w') → Calls Try.prog 31 #[.agg #[.int .i64 (first : Int), .int .i64 (size : Int)], .int .i64 (n : Int)] w' fun e w'' => e = .returned (.bool true) ∧ (w''.cell? ⟨p, 0, none⟩ = some (.int .i64 (first : Int)) ∧ w''.cell? ⟨p, 1, none⟩ = some (.int .i64 (size : Int)) ∧ Below w0.heap.size w0 w'')) :=
    Lib.hid fun w' hS => (slot_fits (first : Int) (size : Int) n w' hd1024 (by omega) (by omega) (by omega) (by omega)).mono (fun e w'' ⟨he, hb⟩ => ⟨by rw [he, HFE.out], HK.out _ (hS.2.2.trans (hb.mono hS.2.2.size))⟩)
  have hbd : Below w0.heap.size w0 w0.drew := (Below.refl _ _).drew
  clear P0
  go_region_held3 (fun w' => w'.cell? ⟨p, 0, none⟩ = some (.int .i64 (first : Int)) ∧ w'.cell? ⟨p, 1, none⟩ = some (.int .i64 (size : Int)) ∧ Below w0.heap.size w0 w')
    (first | exact HK.out _ hbd | assumption)
    (first
      | (go_at_call 32
         with_reducible refine (HL.out _ (by assumption)).mono ?_
         rintro e1 w1 ⟨rfl, hS1⟩)
      | (go_at_call 31
         with_reducible refine (HFt.out _ (by assumption)).mono ?_
         rintro e2 w2 ⟨rfl, hS2⟩))
  all_goals (
    have hb2 := hS2.2.2
    have c0 := hS2.1
    have c1 := hS2.2.1
    clear HL HFt hbd hS1 hS2
    have HR := Lib.hid (reader_any first size which va w2 hf hs2 hw)
    have hbw2 := below_two HB0.out hb2
    go_wp2_with fail
    refine HR.out.mono ?_
    rintro e w3 ⟨pd, pa, pw, pf, pu, pe, rfl, hx3, hpl, hb3⟩
    have hbw3 := below_two hbw2 hb3
    clear c0 c1 HR
    have hsw2 := hbw2.size
    have HNx := Lib.hid (next_any K KF (K.below HH.out hbw3) hx3 (by omega) hs2 (by rw [← HN.out]; exact hslot) (by decide))
    have hlu := hx3.u.lt
    have hle := hx3.e.lt
    go_wp2_with fail
    refine HNx.out.mono ?_
    rintro e w4 ⟨vf, rfl, hFV, hx4, ht4⟩
    have hpok := (parseF_ok (d.read (Z.at_ first size which + 0)))
    have hnx32 : nxE d (Z.at_ first size which) 0 0 < 4294967296 := by unfold nxE; rw [if_pos rfl]; exact hpok.1.e
    have HOK : Hid (nxOk d (Z.at_ first size which) which 0 0 = true → Q.good d ((Z.at_ first size which + 0 : Nat) : Int) (nxE d (Z.at_ first size which) 0 0) 0 (decide (0 = 0)) = some (parseF (d.read (Z.at_ first size which + 0))) ∧ (nxE d (Z.at_ first size which) 0 0 ≠ 0 ∧ nxE d (Z.at_ first size which) 0 0 % 2 = which) ∧ (Z.rest d (Z.at_ first size which) (nxE d (Z.at_ first size which) 0 0) (size - 0) 0 []).map (fun b => (nxE d (Z.at_ first size which) 0 0, b)) = all) := Lib.hid (fun g => ⟨(ok_good (by rw [← HN.out]; omega) g).1, (ok_good (by rw [← HN.out]; omega) g).2, by rw [HAll.out]; exact one_begin HM.out hw g⟩)
    have HNO : Hid (nxOk d (Z.at_ first size which) which 0 0 = false → all = none) := Lib.hid (fun g => by rw [HAll.out]; exact one_none HM.out hw g)
    generalize nxOk d (Z.at_ first size which) which 0 0 = ok0 at *
    generalize nxE d (Z.at_ first size which) 0 0 = e0 at *
    generalize parseF (d.read (Z.at_ first size which + 0)) = f at *
    obtain ⟨vb, rfl, hB4⟩ := hFV
    obtain ⟨Ab, capb, rfl, hcb⟩ := Sg_form hB4
    have hbw4 : Below w.heap.size w w4 := hbw3.trans (ht4.below (by have := hbw3.size; omega) (fun b g => by rcases g with rfl | rfl <;> omega))
    have hs4 := ht4.size
    have hba : Below w4.heap.size w4 (w4.alloc (.cells #[.int .u32 (f.epoch : Int), .int .u32 (f.seq : Int), .int .u8 (f.flag.toNat : Int), .slice Ab f.body.length capb] 77)) := (Below.refl _ _).alloc (Nat.le_refl _) _
    have R5 := Bk.new w4 [.int .u32 (f.epoch : Int), .int .u32 (f.seq : Int), .int .u8 (f.flag.toNat : Int), .slice Ab f.body.length capb] 77 rfl
    have hz5 : (w4.alloc (.cells #[.int .u32 (f.epoch : Int), .int .u32 (f.seq : Int), .int .u8 (f.flag.toNat : Int), .slice Ab f.body.length capb] 77)).heap.size = w4.heap.size + 1 := by simp
    have HS : Hid (OI w w3 (w4.alloc (.cells #[.int .u32 (f.epoch : Int), .int .u32 (f.seq : Int), .int .u8 (f.flag.toNat : Int), .slice Ab f.body.length capb] 77)) d va pd pa pw pf pu pe first size which all 0 e0 1 [] f Ab capb ok0 w4.heap.size (.slice none 0 0) (S.New w3 w4)) := Lib.hid
      { x := hx4.step hba, ok := (fun g => ⟨rfl, by omega, (HOK.out g).1, (HOK.out g).2.1, (HOK.out g).2.2⟩), no := HNO.out, e32 := hnx32, fk := R5, fB := hB4.below hba (fun b g => g.2), fl := hpok.2, row := S.own_nil _ _ _ _, len := by simp, il := by omega, g := (fun b g => ⟨g.1, by have := g.2; omega, fun e => by cases e⟩), fb3 := ⟨hs4, fun e => by cases e⟩, low := below_two hbw4 hba, l3 := by omega }
    have hp6 : pd < w3.heap.size ∧ pa < w3.heap.size ∧ pw < w3.heap.size ∧ pf < w3.heap.size := ⟨hx3.d.lt, hx3.a.lt, hx3.wh.lt, hx3.f.lt⟩
    clear hba R5 hB4 hx4 hx3 HNx HOK HNO hpok hnx32 ht4
    go_wp2_with fail
    generalize w4.alloc (.cells #[.int .u32 (f.epoch : Int), .int .u32 (f.seq : Int), .int .u8 (f.flag.toNat : Int), .slice Ab f.body.length capb] 77) = w5 at *
    go_loopw [9, 11, 12] (fun bd fp ok wr => ∃ i e due body f Ab capb okb fb G, fp = .pointer (some ⟨fb, 0, none⟩) ∧ ok = .bool okb ∧ OI w w3 wr d va pd pa pw pf pu pe first size which all i e due body f Ab capb okb fb bd G) (fun _ _ ok wr => 2 * (size - (intOf ((wr.cell? ⟨pu, 0, none⟩).getD undef)).toNat) + (match ok with | .bool true => 1 | _ => 0))
    case atStart => exact ⟨_, _, _, _, _, _, _, _, _, _, rfl, rfl, HS.out⟩
    case round =>
      clear HS
      obtain ⟨i, e, due, body, f, Ab, capb, okb, fb, G, rfl, rfl, hI⟩ := hrel
      obtain ⟨Ar, capr, rfl, hcr⟩ : ∃ A cap, u9 = .slice A body.length cap ∧ body.length ≤ cap := by
        obtain ⟨_, A, cap, e, hc, _⟩ := S.Sg.of_own hI.row
        exact ⟨A, cap, e, hc⟩
      cases okb with
      | false =>
        have HNo := Lib.hid (hI.no rfl)
        have HLw := Lib.hid hI.low
        clear hI
        go_wp2_with fail
        go_ret3
        refine ⟨.slice none 0 0, ret_v (by rw [HNo.out]; rfl), ?_, HLw.out⟩
        rw [HNo.out]
        exact S.Sg.nil _ _ _ _ _
      | true =>
        obtain ⟨hdue, hil, hgood, hbel, heq⟩ := hI.ok rfl
        have HI := Lib.hid hI
        have HG := Lib.hid hgood
        have HEq := Lib.hid heq
        have hsr := hI.low.size
        have hl3 := hI.l3
        have hfl := hI.fl
        have hlen := hI.len
        have r3 : wr.cell? ⟨fb, 3, none⟩ = some (.slice Ab f.body.length capb) := hI.fk.cell 3 _ rfl
        have hown0 := hI.row
        have hB0 := hI.fB
        have hbl0 := fun j hj => World.ownsRow.lt hown0 j hj
        have hfb := hI.fb3
        have hfbl := hI.fk.lt
        subst hdue
        clear hI hgood heq
        go_wp2_with (at_builtin; refine S.wpList_append_sg elB rfl _ _ rfl (base := w3.heap.size) (xs := bytesV body) (cs := bytesV f.body) rfl rfl hown0 hB0 (bytesV_one _) (by omega) (by omega) (by omega) ?_)
        intro v6 w6 hown6 hgrow6 hbl6
        have hs6 := hgrow6.size
        have hlow6 : Below w.heap.size w w6 := HI.out.low.grown hgrow6 hsr (fun k hk => by have := (hbl0 k hk).1; have := hbw3.size; omega)
        have hnb : ∀ b, b < w3.heap.size → (Value.slice Ar body.length capr).ownBlock ≠ some b := fun b hb e => by have := (hbl0 b e).1; omega
        have hX := HI.out.x
        have kp : ∀ b, b < wr.heap.size → (Value.slice Ar body.length capr).ownBlock ≠ some b → w6.heap[b]? = wr.heap[b]? := fun b hb hn => hgrow6.block b hb (fun e => hn e.symm)
        have X6 : Rx w6 pd pa pw pf pu pe (.pointer (some va)) first size which (Z.at_ first size which) (i + 1) e := ⟨hX.d.keep (kp _ hX.d.lt (hnb _ hp6.1)) hs6, hX.a.keep (kp _ hX.a.lt (hnb _ hp6.2.1)) hs6, hX.wh.keep (kp _ hX.wh.lt (hnb _ hp6.2.2.1)) hs6, hX.f.keep (kp _ hX.f.lt (hnb _ hp6.2.2.2)) hs6, hX.u.keep (kp _ hX.u.lt (hnb _ hlu)) hs6, hX.e.keep (kp _ hX.e.lt (hnb _ hle)) hs6, hX.n1, hX.n2⟩
        have R6 : Bk w6 fb [.int .u32 (f.epoch : Int), .int .u32 (f.seq : Int), .int .u8 (f.flag.toNat : Int), .slice Ab f.body.length capb] := HI.out.fk.keep (kp _ hfbl hfb.2) hs6
        have hB6 : SlB w6 G (.slice Ab f.body.length capb) f.body := hB0.keep fun a ha => World.cell?_of_block (kp _ (HI.out.g _ ha).2.1 (HI.out.g _ ha).2.2)
        have hown6 : w6.ownsRow w3.heap.size 5 1 v6 (body ++ f.body).length (bytesV (body ++ f.body)) := by rw [List.length_append, bytesV_append]; exact hown6
        obtain ⟨Zb, hZ⟩ : ∃ Zb, Zb = body ++ f.body := ⟨_, rfl⟩
        rw [← hZ] at hown6
        have hZl : Zb.length ≤ 50 * (i + 1) := by rw [hZ, List.length_append]; omega
        have HZ := Lib.hid hZ
        obtain ⟨Az, capz, rfl, hcz⟩ : ∃ A cap, v6 = .slice A Zb.length cap ∧ Zb.length ≤ cap := by
          obtain ⟨_, A, cap, e, hc, _⟩ := S.Sg.of_own hown6
          exact ⟨A, cap, e, hc⟩
        have HX6 := Lib.hid X6
        have HR6 := Lib.hid R6
        have HO6 := Lib.hid hown6
        have HHl := Lib.hid (has_last (w := w6) (F := G) (v := .agg #[.int .u32 (f.epoch : Int), .int .u32 (f.seq : Int), .int .u8 (f.flag.toNat : Int), .slice Ab f.body.length capb]) (f := f) ⟨_, rfl, hB6⟩)
        obtain ⟨lb, hlb⟩ : ∃ lb, lb = (f.flag.toNat / 2 % 2 == 1) := ⟨_, rfl⟩
        rw [← hlb] at HHl
        have HLB := Lib.hid hlb
        have q0 := R6.cell 0 _ rfl
        have q1 := R6.cell 1 _ rfl
        have q2 := R6.cell 2 _ rfl
        have q3 := R6.cell 3 _ rfl
        clear hlb hZ hown6 hB6 X6 R6 hX hB0 hown0 r3 hgrow6 kp hnb hbl0
        go_wp2_with fail
        refine HHl.out.mono ?_
        rintro e7 w7 ⟨rfl, hb7⟩
        have hs7 := hb7.size
        have R7 := HR6.out.step hb7
        have HO7 := Lib.hid (S.own_below HO6.out hb7)
        have HX7 := Lib.hid (HX6.out.step hb7)
        have hbw7 := below_two hlow6 hb7
        have hblz := fun j hj => World.ownsRow.lt HO6.out j hj
        clear q0 q1 q2 q3 HHl HO6 HX6 HR6 hbl6
        have q0 := R7.cell 0 _ rfl
        cases lb with
        | true =>
          have HAl := Lib.hid (one_last HEq.out hil HG.out (beq_last HLB.out.symm))
          have HFe := Lib.hid ((Q.good_some HG.out).2.2.2.1)
          clear R7
          go_wp2_with fail
          go_ret3
          refine ⟨.slice Az Zb.length capz, ret_v (by rw [HAl.out, ← HFe.out]; rfl), ?_, hbw7⟩
          rw [HAl.out]
          show SlB w7 _ _ (body ++ f.body)
          rw [← HZ.out]
          exact S.Sg.wider (S.Sg.of_own HO7.out) (fun b g => ⟨by have := g.1; have := hbw3.size; omega, g.2⟩)
        | false =>
          have HMo := Lib.hid (one_more HEq.out hil HG.out (beq_more HLB.out.symm))
          rw [← HZ.out] at HMo
          have q1 := R7.cell 1 _ rfl
          have q2 := R7.cell 2 _ rfl
          have q3 := R7.cell 3 _ rfl
          have hba : Below w7.heap.size w7 (w7.alloc (.cells #[.int .u32 (f.epoch : Int), .int .u32 (f.seq : Int), .int .u8 (f.flag.toNat : Int), .slice Ab f.body.length capb] 77)) := (Below.refl _ _).alloc (Nat.le_refl _) _
          have hza : (w7.alloc (.cells #[.int .u32 (f.epoch : Int), .int .u32 (f.seq : Int), .int .u8 (f.flag.toNat : Int), .slice Ab f.body.length capb] 77)).heap.size = w7.heap.size + 1 := by simp
          have hbw8 := below_two hbw7 hba
          have hX8 := HX7.out.step hba
          have HX8 := Lib.hid hX8
          have R8 := Bk.new w7 [.int .u32 (f.epoch : Int), .int .u32 (f.seq : Int), .int .u8 (f.flag.toNat : Int), .slice Ab f.body.length capb] 77 rfl
          have HR8 := Lib.hid R8
          have HO8 := Lib.hid (S.own_below HO7.out hba)
          have hxl := hX8.u.lt
          by_cases hend : i + 1 < size
          · have HNx := Lib.hid (next_any K KF (K.below HH.out hbw8) hX8 hend hs2 (by rw [← HN.out]; exact hslot) HI.out.e32)
            have hee : nxE d (Z.at_ first size which) (i + 1) e = e := by unfold nxE; rw [if_neg (by omega)]
            have HOK : Hid (nxOk d (Z.at_ first size which) which (i + 1) e = true → Q.good d ((Z.at_ first size which + (i + 1) : Nat) : Int) e (i + 1) (decide (i + 1 = 0)) = some (parseF (d.read (Z.at_ first size which + (i + 1))))) := Lib.hid (fun g => by have := (ok_good (by rw [← HN.out]; omega) g).1; rw [hee] at this; exact this)
            have HNO : Hid (nxOk d (Z.at_ first size which) which (i + 1) e = false → all = none) := Lib.hid (fun g => one_stop HMo.out (by have := not_good g (by rw [hee]; exact hbel); rw [hee] at this; exact this))
            rw [hee] at HNx
            have hpok := (parseF_ok (d.read (Z.at_ first size which + (i + 1)))).2
            clear hX8 R8 hee
            go_wp2_with fail
            refine HNx.out.mono ?_
            rintro e9 w9 ⟨vf, rfl, hFV, hx9, ht9⟩
            generalize nxOk d (Z.at_ first size which) which (i + 1) e = ok1 at *
            generalize parseF (d.read (Z.at_ first size which + (i + 1))) = g at *
            obtain ⟨vb, rfl, hB9⟩ := hFV
            obtain ⟨Ag, capg, rfl, hcg⟩ := Sg_form hB9
            have hs9 := ht9.size
            have R9 := HR8.out.turn ht9 (by rintro (g1 | g1) <;> omega)
            have O9 := V.own_keep HO8.out fun j hj => ht9.block j (World.ownsRow.lt HO8.out j hj).2 (fun g1 => by have := (World.ownsRow.lt HO8.out j hj).1; rcases g1 with rfl | rfl <;> omega)
            have low9 : Below w.heap.size w w9 := hbw8.trans (ht9.below hbw8.size (fun b g1 => by rcases g1 with rfl | rfl <;> omega))
            have z0 := R9.cell 0 _ rfl
            have z1 := R9.cell 1 _ rfl
            have z2 := R9.cell 2 _ rfl
            have z3 := R9.cell 3 _ rfl
            have y0 := R9.fz 0 (by simp)
            have y1 := R9.fz 1 (by simp)
            have y2 := R9.fz 2 (by simp)
            have y3 := R9.fz 3 (by simp)
            obtain ⟨w10, hw10⟩ : ∃ w10, w10 = ((((w9.setCell ⟨w7.heap.size, 0, none⟩ (.int .u32 (g.epoch : Int))).setCell ⟨w7.heap.size, 1, none⟩ (.int .u32 (g.seq : Int))).setCell ⟨w7.heap.size, 2, none⟩ (.int .u8 (g.flag.toNat : Int))).setCell ⟨w7.heap.size, 3, none⟩ (.slice Ag g.body.length capg)) := ⟨_, rfl⟩
            have ht10 := turn4 w9 w7.heap.size (.int .u32 (g.epoch : Int)) (.int .u32 (g.seq : Int)) (.int .u8 (g.flag.toNat : Int)) (.slice Ag g.body.length capg)
            have hs10 : ((((w9.setCell ⟨w7.heap.size, 0, none⟩ (.int .u32 (g.epoch : Int))).setCell ⟨w7.heap.size, 1, none⟩ (.int .u32 (g.seq : Int))).setCell ⟨w7.heap.size, 2, none⟩ (.int .u8 (g.flag.toNat : Int))).setCell ⟨w7.heap.size, 3, none⟩ (.slice Ag g.body.length capg)).heap.size = w9.heap.size := by simp [World.setCell]
            have R10 := R9.all4 (.int .u32 (g.epoch : Int)) (.int .u32 (g.seq : Int)) (.int .u8 (g.flag.toNat : Int)) (.slice Ag g.body.length capg)
            rw [← hw10] at ht10 hs10 R10
            have hx10 := hx9.turn ht10 (fun b _ g1 => by rcases g1 with rfl | rfl | rfl | rfl | rfl | rfl <;> omega)
            have hB10 := hB9.keep (w' := w10) fun a ha => ht10.cell ha.2 (fun ee => by have := ha.1; omega)
            have O10 := V.own_keep O9 (w' := w10) fun j hj => ht10.block j (World.ownsRow.lt O9 j hj).2 (fun ee => by have := (hblz j hj).2; omega)
            have low10 : Below w.heap.size w w10 := low9.trans (ht10.below (by omega) (fun b g1 => by omega))
            have hsw := hbw8.size
            have HNX : Hid (OI w w3 w10 d va pd pa pw pf pu pe first size which all (i + 1) e (i + 1 + 1) Zb g Ag capg ok1 w7.heap.size (.slice Az Zb.length capz) (S.New (w7.alloc (.cells #[.int .u32 (f.epoch : Int), .int .u32 (f.seq : Int), .int .u8 (f.flag.toNat : Int), .slice Ab f.body.length capb] 77)) w9)) := Lib.hid
              { x := hx10, ok := (fun gg => ⟨rfl, by omega, HOK.out gg, hbel, HMo.out⟩), no := HNO.out, e32 := HI.out.e32, fk := R10, fB := hB10, fl := hpok, row := O10, len := hZl, il := by omega, g := (fun b gg => ⟨by have := gg.1; omega, by have := gg.2; omega, fun ee => by have := (hblz b ee).2; have := gg.1; omega⟩), fb3 := ⟨by omega, fun ee => by have := (hblz _ ee).2; omega⟩, low := low10, l3 := by omega }
            have HW10 := Lib.hid hw10
            clear hw10 R9 R10 O9 O10 hB9 hB10 hx9 hx10 ht9 ht10 low9 low10 HNx
            go_wp2_with fail
            rw [← HW10.out]
            go_roundw
            case rel => exact ⟨_, _, _, _, _, _, _, _, _, _, rfl, rfl, HNX.out⟩
            case measure =>
              have u0 := HI.out.x.u.cell 0 _ rfl
              have u1 := HNX.out.x.u.cell 0 _ rfl
              rw [u0, u1]
              cases ok1 <;> simp [intOf] <;> omega
          · have HOut := Lib.hid (one_out HMo.out (by omega))
            have hie : i + 1 = size := by omega
            have HNx := Lib.hid (next_end (w := w7.alloc (.cells #[.int .u32 (f.epoch : Int), .int .u32 (f.seq : Int), .int .u8 (f.flag.toNat : Int), .slice Ab f.body.length capb] 77)) (size := size) (by rw [hie] at hX8; exact hX8))
            clear hX8 R8
            go_wp2_with fail
            refine HNx.out.mono ?_
            rintro e9 w9 ⟨vf, rfl, hFV, hb9⟩
            have ht9 : Turn (fun b => b = pu ∨ b = pe) (w7.alloc (.cells #[.int .u32 (f.epoch : Int), .int .u32 (f.seq : Int), .int .u8 (f.flag.toNat : Int), .slice Ab f.body.length capb] 77)) w9 := Turn.of_below hb9
            have hx9 := HX8.out.step hb9
            obtain ⟨g, hg⟩ : ∃ g, g = fr0 := ⟨_, rfl⟩
            rw [← hg] at hFV
            have hpok : g.body.length ≤ 50 := by rw [hg]; decide
            clear hg
            obtain ⟨vb, rfl, hB9⟩ := hFV
            obtain ⟨Ag, capg, rfl, hcg⟩ := Sg_form hB9
            have hs9 := ht9.size
            have R9 := HR8.out.turn ht9 (by rintro (g1 | g1) <;> omega)
            have O9 := V.own_keep HO8.out fun j hj => ht9.block j (World.ownsRow.lt HO8.out j hj).2 (fun g1 => by have := (World.ownsRow.lt HO8.out j hj).1; rcases g1 with rfl | rfl <;> omega)
            have low9 : Below w.heap.size w w9 := hbw8.trans (ht9.below hbw8.size (fun b g1 => by rcases g1 with rfl | rfl <;> omega))
            have z0 := R9.cell 0 _ rfl
            have z1 := R9.cell 1 _ rfl
            have z2 := R9.cell 2 _ rfl
            have z3 := R9.cell 3 _ rfl
            have y0 := R9.fz 0 (by simp)
            have y1 := R9.fz 1 (by simp)
            have y2 := R9.fz 2 (by simp)
            have y3 := R9.fz 3 (by simp)
            obtain ⟨w10, hw10⟩ : ∃ w10, w10 = ((((w9.setCell ⟨w7.heap.size, 0, none⟩ (.int .u32 (g.epoch : Int))).setCell ⟨w7.heap.size, 1, none⟩ (.int .u32 (g.seq : Int))).setCell ⟨w7.heap.size, 2, none⟩ (.int .u8 (g.flag.toNat : Int))).setCell ⟨w7.heap.size, 3, none⟩ (.slice Ag g.body.length capg)) := ⟨_, rfl⟩
            have ht10 := turn4 w9 w7.heap.size (.int .u32 (g.epoch : Int)) (.int .u32 (g.seq : Int)) (.int .u8 (g.flag.toNat : Int)) (.slice Ag g.body.length capg)
            have hs10 : ((((w9.setCell ⟨w7.heap.size, 0, none⟩ (.int .u32 (g.epoch : Int))).setCell ⟨w7.heap.size, 1, none⟩ (.int .u32 (g.seq : Int))).setCell ⟨w7.heap.size, 2, none⟩ (.int .u8 (g.flag.toNat : Int))).setCell ⟨w7.heap.size, 3, none⟩ (.slice Ag g.body.length capg)).heap.size = w9.heap.size := by simp [World.setCell]
            have R10 := R9.all4 (.int .u32 (g.epoch : Int)) (.int .u32 (g.seq : Int)) (.int .u8 (g.flag.toNat : Int)) (.slice Ag g.body.length capg)
            rw [← hw10] at ht10 hs10 R10
            have hx10 := hx9.turn ht10 (fun b _ g1 => by rcases g1 with rfl | rfl | rfl | rfl | rfl | rfl <;> omega)
            have hB10 := hB9.keep (w' := w10) fun a ha => ht10.cell ha.2 (fun ee => by have := ha.1; omega)
            have O10 := V.own_keep O9 (w' := w10) fun j hj => ht10.block j (World.ownsRow.lt O9 j hj).2 (fun ee => by have := (hblz j hj).2; omega)
            have low10 : Below w.heap.size w w10 := low9.trans (ht10.below (by omega) (fun b g1 => by omega))
            have hsw := hbw8.size
            have HNX : Hid (OI w w3 w10 d va pd pa pw pf pu pe first size which all (i + 1) e (i + 1) Zb g Ag capg false w7.heap.size (.slice Az Zb.length capz) (S.New (w7.alloc (.cells #[.int .u32 (f.epoch : Int), .int .u32 (f.seq : Int), .int .u8 (f.flag.toNat : Int), .slice Ab f.body.length capb] 77)) w9)) := Lib.hid
              { x := hx10, ok := (fun gg => by cases gg), no := (fun _ => HOut.out), e32 := HI.out.e32, fk := R10, fB := hB10, fl := hpok, row := O10, len := hZl, il := by omega, g := (fun b gg => ⟨by have := gg.1; omega, by have := gg.2; omega, fun ee => by have := (hblz b ee).2; have := gg.1; omega⟩), fb3 := ⟨by omega, fun ee => by have := (hblz _ ee).2; omega⟩, low := low10, l3 := by omega }
            have HW10 := Lib.hid hw10
            clear hw10 R9 R10 O9 O10 hB9 hB10 hx9 hx10 ht9 ht10 low9 low10 HNx
            go_wp2_with fail
            rw [← HW10.out]
            go_roundw
            case rel => exact ⟨_, _, _, _, _, _, _, _, _, _, rfl, rfl, HNX.out⟩
            case measure =>
              have u0 := HI.out.x.u.cell 0 _ rfl
              have u1 := HNX.out.x.u.cell 0 _ rfl
              rw [u0, u1]
              simp [intOf])

end

end Go.Proofs.Ytbjbnjpdackloaa
