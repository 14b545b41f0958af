/-
  The walk of the law RingKeeps.
-/
import Derived.Test.YtfpojbnidoeohaaRgRun
namespace Go.Proofs.Ytfpojbnidoeohaa
open Go.RowKit

theorem kp_next (l : List Dd) : ∀ {r : G.Rg}, (∀ X ∈ l, X.rc.length ≤ 400) → (rsteps r l).next ≤ r.next + 8 * l.length := by
  induction l with
  | nil => intro r _; simp [rsteps]
  | cons X t ih =>
    intro r hX
    have h1 := ih (r := r.step X) (fun Y hY => hX Y (List.mem_cons_of_mem _ hY))
    have h2 : (r.step X).next ≤ r.next + 8 := by
      unfold G.Rg.step
      split
      · unfold G.Rg.append
        split
        · have := many_le (hX X (List.mem_cons_self ..))
          show r.next + R.many X.rc.length ≤ _
          omega
        · omega
      · split
        · unfold G.Rg.trunc
          split <;> (show r.next ≤ _; omega)
        · show r.next ≤ _; omega
    simp only [rsteps, List.foldl_cons, List.length_cons] at h1 ⊢
    omega
theorem kp_first (l : List Dd) : ∀ {r : G.Rg}, (rsteps r l).first = r.first ∧ (rsteps r l).many = r.many ∧ (rsteps r l).epoch = r.epoch := by
  induction l with
  | nil => intro r; exact ⟨rfl, rfl, rfl⟩
  | cons X t ih =>
    intro r
    have h1 := ih (r := r.step X)
    have h2 : (r.step X).first = r.first ∧ (r.step X).many = r.many ∧ (r.step X).epoch = r.epoch := by
      unfold G.Rg.step
      split
      · unfold G.Rg.append
        split <;> exact ⟨rfl, rfl, rfl⟩
      · split
        · unfold G.Rg.trunc
          split <;> exact ⟨rfl, rfl, rfl⟩
        · exact ⟨rfl, rfl, rfl⟩
    exact ⟨h1.1.trans h2.1, h1.2.1.trans h2.2.1, h1.2.2.trans h2.2.2⟩

theorem rdV_at {d : D.Dk} {k : Nat} (hk : k < d.secs.length) {l : List UInt8} {e : Int} (h : rdV d (k : Int) = .tuple #[.string ⟨l.toArray⟩, .int .i64 e]) : l = d.read k ∧ e = 0 := by
  have ht : d.there (k : Int) := ⟨by omega, by omega⟩
  rw [rdV, if_pos ht, Int.toNat_natCast] at h
  simp at h
  exact ⟨h.1.symm, h.2.symm⟩

/-- each record begins where the one ahead of it ends -/
theorem chain_start {a n : Nat} {l : List (Nat × List UInt8)} (h : G.Chain a l n) : (∀ i (hi : i < l.length), (a :: ends l)[i]? = some l[i].1) ∧ (a :: ends l)[l.length]? = some n := by
  induction h with
  | nil => exact ⟨fun i hi => by simp at hi, rfl⟩
  | @snoc n l rec _ ih =>
    have e : a :: ends (l ++ [(n, rec)]) = (a :: ends l) ++ [n + R.many rec.length] := by simp [ends]
    have hl : (a :: ends l).length = l.length + 1 := by simp [ends]
    rw [e]
    refine ⟨fun i hi => ?_, ?_⟩
    · rw [List.length_append] at hi
      simp only [List.length_cons, List.length_nil] at hi
      rw [List.getElem?_append_left (by omega)]
      by_cases h1 : i < l.length
      · rw [List.getElem_append_left h1]; exact ih.1 i h1
      · obtain rfl : i = l.length := by omega
        rw [ih.2, List.getElem_append_right (Nat.le_refl _)]
        simp
    · rw [List.length_append, List.getElem?_append_right (by simp [ends])]
      simp [ends]

theorem hs6_all (r : G.Rg) {l : List Dd} (h : ∀ X ∈ l, X.rc.length ≤ 400) : ∀ x ∈ hs6 r l, x.2.length ≤ 400 := by
  have : ∀ (l : List Dd) (p : G.Rg × List (Nat × List UInt8)), (∀ X ∈ l, X.rc.length ≤ 400) → (∀ x ∈ p.2, x.2.length ≤ 400) → ∀ x ∈ (l.foldl hstep p).2, x.2.length ≤ 400 := by
    intro l
    induction l with
    | nil => intro p _ hp; exact hp
    | cons X t ih =>
      intro p hX hp
      refine ih (hstep p X) (fun Y hY => hX Y (List.mem_cons_of_mem _ hY)) ?_
      intro x hx
      unfold hstep at hx
      split at hx
      · rcases List.mem_append.1 hx with hx | hx
        · exact hp x hx
        · simp at hx
          subst hx
          exact hX X (List.mem_cons_self ..)
      · exact hp x hx
  exact this l (r, []) h (fun x hx => by simp at hx)

theorem take_more (rec : List UInt8) (j : Nat) : rec.take (50 * j) ++ (rec.drop (50 * j)).take 50 = rec.take (50 * (j + 1)) := by
  rw [show 50 * (j + 1) = 50 * j + 50 by omega, List.take_add]
theorem take_all (rec : List UInt8) : rec.take (50 * R.many rec.length) = rec := by
  rw [List.take_of_length_le]
  unfold R.many
  split <;> omega

theorem st_add (a b : List UInt8) : (⟨a.toArray⟩ ++ ⟨b.toArray⟩ : ByteArray) = ⟨(a ++ b).toArray⟩ := by
  apply ByteArray.ext
  apply Array.toList_inj.1
  simp

section
variable {H : World → (Nat → Prop) → Value → D.Dk → Prop}

set_option maxRecDepth 100000 in
set_option maxHeartbeats 8000000 in
theorem keeps6_any (K : DiskOk H) (KF : FrameOk) (v : Value) (l : List Dd) (w : World) (Gd : Nat → Prop) (hd : Dds w Gd v l) (hG : ∀ b, Gd b → b < w.heap.size) (hl : l.length ≤ 9223372036854775807) :
    Calls Try.prog 4 #[v] w fun e w' => e = .returned (.bool true) ∧ Below w.heap.size w w' := by
  have HA := Lib.hid (awake6_any K KF w)
  have HD := Lib.hid hd
  obtain ⟨A, cap, rfl, hc, _, _⟩ := hd
  obtain ⟨fw, hfw⟩ : ∃ fw, fw = few6 l := ⟨_, rfl⟩
  have HFE := Lib.hid hfw
  go_enter Try.func4, Try.ntmps4
  go_wp2_with fail
  refine HA.out.mono ?_
  rintro e w1 ⟨rfl, hb1⟩
  have hs1 := hb1.size
  have HFw := Lib.hid (few6_any _ l w1 Gd (HD.out.below hb1 hG) hl)
  rw [← hfw] at HFw
  clear hfw HA
  go_wp2_with fail
  refine HFw.out.mono ?_
  rintro e w1' ⟨rfl, rfl⟩
  clear HFw
  cases fw
  · go_wp2
    go_ret
    exact ⟨rfl, hb1⟩
  · have hfew := few6_of HFE.out.symm
    have HRun := Lib.hid (run6_any K KF _ l w1 Gd (HD.out.below hb1 hG) (fun b g => Nat.lt_of_lt_of_le (hG b g) hs1) HFE.out.symm)
    go_wp2_with fail
    refine HRun.out.mono ?_
    rintro e w2 ⟨da, pa, vs, ve, F, Fs, rfl, hP, hF, hS, hE, hFs', hb2⟩
    have hs2 := hb2.size
    have hbw2 := below_two hb1 hb2
    clear HRun
    have hnx := kp_next l (r := rk0) hfew.2
    have hpl := kp_first l (r := rk0)
    have hsec : (rsteps rk0 l).d.secs.length = 12 := rsteps_secs l (r := rk0)
    have hist := hist_all rk0_may l
    have h30 := hfew.1
    have h400 := hs6_all rk0 hfew.2
    have hhl := hs6_len rk0 l
    obtain ⟨r, hr⟩ : ∃ r, r = rsteps rk0 l := ⟨_, rfl⟩
    obtain ⟨L, hL⟩ : ∃ L, L = hs6 rk0 l := ⟨_, rfl⟩
    rw [← hr] at hP hnx hpl hsec hist
    rw [← hL] at hist h400 hhl hS hE
    have hist : G.Hist r 0 L := hist
    have hnx' : r.next ≤ 240 := by have : rk0.next = 0 := rfl; omega
    have HR1 : Hid (r.first = 2 ∧ r.many = 8 ∧ r.epoch = 3 ∧ r.d.secs.length = 12) := Lib.hid ⟨hpl.1, hpl.2.1, hpl.2.2, hsec⟩
    have HHi := Lib.hid hist
    have HCh := Lib.hid (chain_start hist.chain)
    have H400 := Lib.hid h400
    clear hr hL hnx hpl hsec hist h400
    have HP := Lib.hid hP
    have hFl := hP.lt
    obtain ⟨Fd, hFd, hDk⟩ := hP.disk
    have HDk := Lib.hid hDk
    have hLl : L.length ≤ 30 := by omega
    have lr : (recs L).length = L.length := by simp [recs]
    have le : (ends L).length = L.length := by simp [ends]
    have hS : S.Sg w2 Fs 1 vs (recs L).length (strV (recs L)) := hS
    have hE : S.Sg w2 Fs 1 ve (ends L).length (uV (ends L)) := hE
    rw [lr] at hS
    rw [le] at hE
    obtain ⟨As, caps, rfl, hcs⟩ := Sg_form hS
    obtain ⟨Ae, cape, rfl, hce⟩ := Sg_form hE
    have HS := Lib.hid hS
    have HE := Lib.hid hE
    have HFs : Hid (∀ b, Fs b → b < w2.heap.size) := Lib.hid (fun b g => (hFs' b g).1)
    clear hP hDk lr le hS hE hFs'
    go_wp2_with fail
    go_loopw [8, 9] (fun t i wr => ∃ (k m : Nat), k ≤ L.length ∧ i = .int .i64 k ∧ t = .int .u32 m ∧ Hid ((0 :: ends L)[k]? = some m) ∧ Hid (Below w2.heap.size w2 wr)) (fun _ i _ => L.length - (intOf i).toNat)
    case atStart => exact ⟨0, 0, Nat.zero_le _, rfl, rfl, Lib.hid rfl, Lib.hid (Below.refl _ _)⟩
    case round =>
      obtain ⟨k, m, hk, rfl, rfl, HMk, HW⟩ := hrel
      by_cases hkl : k < L.length
      · have hkl' : (k : Int) < (L.length : Int) := by omega
        have hk0 : (0 : Int) ≤ (k : Int) := by omega
        have hm : m = L[k].1 := by have := HCh.out.1 k hkl; rw [HMk.out] at this; exact Option.some.inj this
        have hend := HHi.out.ends L[k] (List.getElem_mem hkl)
        have hrc := H400.out L[k] (List.getElem_mem hkl)
        have hms := many_le hrc
        have hmp := R.many_pos L[k].2.length
        have hSt := HHi.out.stands L[k] (List.getElem_mem hkl)
        have hMk2 : (0 :: ends L)[k + 1]? = some (L[k].1 + R.many L[k].2.length) := by simp [ends, hkl]
        obtain ⟨ae, cape', ee, _, hFe, hce'⟩ := Sg_at HE.out k hkl
        cases ee
        obtain ⟨asl, caps', es, _, hFs1, hcs'⟩ := Sg_at HS.out k hkl
        cases es
        have ce : wr.cell? (ae.add k) = some (.int .u32 ((L[k].1 + R.many L[k].2.length : Nat) : Int)) := by
          rw [HW.out.cell (by rw [S.add_block]; exact HFs.out _ hFe), hce', uV_at _ _ (by simp [ends]; exact hkl)]
          simp [ends]
        have HCs : Hid (∀ w', Below w2.heap.size w2 w' → w'.cell? (asl.add k) = some (.string ⟨L[k].2.toArray⟩)) := Lib.hid (fun w' hb => by
          rw [hb.cell (by rw [S.add_block]; exact HFs.out _ hFs1), hcs', strV_at _ _ (by simp [recs]; exact hkl)]
          simp [recs])
        obtain ⟨rc, hrcE⟩ : ∃ rc, rc = L[k].2 := ⟨_, rfl⟩
        rw [← hrcE] at hend hrc hms hmp ce HCs hMk2
        have hSt' : r.low ≤ m → ∀ j, j < R.many rc.length → r.d.read (G.at_ 2 8 (m + j)) = R.sector (R.frameOf 3 m rc j) := fun h j hj => by
          have := hSt (by rw [← hm]; exact h) j (by rw [← hrcE]; exact hj)
          rw [HR1.out.1, HR1.out.2.1, HR1.out.2.2.1, ← hm, ← hrcE] at this
          exact this
        have HSt := Lib.hid hSt'
        rw [← hm] at hend ce hMk2
        have HMk2 := Lib.hid hMk2
        obtain ⟨M, hM⟩ : ∃ M, M = R.many rc.length := ⟨_, rfl⟩
        have HTA := Lib.hid (take_all rc)
        rw [← hM] at hend hms hmp ce HMk2 HSt HTA
        clear hSt hSt' hm hrcE hMk2 hce' hcs' HMk hM
        have ht0 : ((m + M : Nat) : Int) = (m : Int) + (M : Int) := by omega
        rw [ht0] at ce
        clear ht0
        have HLo := Lib.hid (ring_low (HP.out.below K HW.out))
        go_wp2_with fail
        refine HLo.out.mono ?_
        rintro e w3 ⟨rfl, hb3⟩
        have HW3 := Lib.hid (below_two HW.out hb3)
        clear HLo HW hb3 ce
        by_cases hlo : m < r.low
        · have hlo' : (m : Int) < (r.low : Int) := by omega
          go_wp2_with fail
          go_roundw
          case rel => exact ⟨k + 1, m + M, by omega, by go_num, by go_num, HMk2, HW3⟩
          case measure => simp [intOf]; omega
        · have hlo' : ¬ (m : Int) < (r.low : Int) := by omega
          have hloN : r.low ≤ m := by omega
          go_wp2_with fail
          go_loopw [11, 12] (fun a n wr => ∃ j : Nat, j ≤ M ∧ a = .string ⟨(rc.take (50 * j)).toArray⟩ ∧ n = .int .u32 ((m : Int) + (j : Int)) ∧ Hid (Below w2.heap.size w2 wr)) (fun _ n _ => m + M - (intOf n).toNat)
          case atStart => exact ⟨0, Nat.zero_le _, by simp, by simp, HW3⟩
          case round =>
            clear HW3
            obtain ⟨j, hj, rfl, rfl, HW⟩ := hrel
            by_cases hjM : j < M
            · have hjM' : (m : Int) + (j : Int) < (m : Int) + (M : Int) := by omega
              have hst := HSt.out hloN j hjM
              obtain ⟨t, ht⟩ : ∃ t, t = G.at_ 2 8 (m + j) := ⟨_, rfl⟩
              have htl : t < 12 := by rw [ht]; have := G.at_range (first := 2) (many := 8) (seq := m + j) (by decide); omega
              have HAt : Hid (Calls Try.prog 24 #[.agg #[.int .i64 2, .int .i64 8, .int .u32 3], .int .u32 ((m : Int) + (j : Int))] wr fun e w' => e = .returned (.int .i64 (t : Int)) ∧ Below wr.heap.size wr w') := Lib.hid (by
                have := ring_at 2 8 3 (m + j) wr (by decide) (by decide) (by decide) (by omega)
                rw [← ht, show ((m + j : Nat) : Int) = (m : Int) + (j : Int) by omega] at this
                exact this)
              rw [← ht] at hst
              obtain ⟨g, hg⟩ : ∃ g, g = R.frameOf 3 m rc j := ⟨_, rfl⟩
              rw [← hg] at hst
              have hgn : g.Num := by rw [hg]; exact ⟨by show 3 < 4294967296; decide, Nat.mod_lt _ (by decide)⟩
              have hgb : g.body.length ≤ 50 := by rw [hg]; exact G.frameOf_fits _ _ _ _
              have hgs : g.seq = m + j := by rw [hg]; exact Nat.mod_eq_of_lt (by omega)
              have hge : g.epoch = 3 := by rw [hg]; rfl
              have HGb : Hid (g.body = (rc.drop (50 * j)).take 50) := Lib.hid (by rw [hg]; rfl)
              have hpe : parseE (R.sector g) = 0 ∧ parseF (R.sector g) = g := by
                have := R.parse_sector hgn hgb
                unfold parseE parseF
                rw [this]
                exact ⟨rfl, rfl⟩
              clear ht hg
              go_wp2_with fail
              refine HAt.out.mono ?_
              rintro e w4 ⟨rfl, hb4⟩
              have hW4 := below_two HW.out hb4
              have HRd := Lib.hid (K.read (t : Int) (K.below HDk.out hW4) (by omega) (by omega))
              clear HAt
              go_wp2_with fail
              refine HRd.out.mono ?_
              rintro e w5 ⟨vb5, l5, k5, rfl, hrd5, hsl5, hb5⟩
              obtain ⟨hl5, rfl⟩ := rdV_at (by rw [HR1.out.2.2.2]; exact htl) hrd5
              rw [hst] at hl5
              have hlen5 : l5.length ≤ 1000 := by rw [hl5, R.sector_len hgb]; decide
              have hW5 := below_two hW4 hb5
              have HPa := Lib.hid (KF.parse hsl5 (fun b g => g.2) hlen5)
              rw [hl5, hpe.1, hpe.2] at HPa
              obtain ⟨A5, cap5, rfl, hc5⟩ := Sg_form hsl5
              clear HRd hrd5 hsl5 hl5 hpe hst
              go_wp2_with fail
              refine HPa.out.mono ?_
              rintro e w6 ⟨vf, rfl, ⟨vb6, rfl, hsl6⟩, hb6⟩
              have hW6 := below_two hW5 hb6
              obtain ⟨A6, cap6, rfl, hc6⟩ := Sg_form hsl6
              obtain ⟨ge, gs, gf, gb⟩ := g
              simp only at hgs hge hgb hsl6 HGb hc6 ⊢
              subst hge
              subst hgs
              have hba : Below w6.heap.size w6 (w6.alloc (.cells #[.int .u32 3, .int .u32 ((m + j : Nat) : Int), .int .u8 (gf.toNat : Int), .slice A6 gb.length cap6] 61)) := (Below.refl _ _).alloc (Nat.le_refl _) _
              have hcv := conv_sg (hsl6.below hba (fun b g => g.2))
              have HW7 := Lib.hid (below_two hW6 hba)
              obtain ⟨P, hP⟩ : ∃ P, P = rc.take (50 * j) := ⟨_, rfl⟩
              have hPl : P.length ≤ 400 := by rw [hP]; simp; omega
              have HNx : Hid ((⟨P.toArray⟩ ++ ⟨gb.toArray⟩ : ByteArray) = ⟨(rc.take (50 * (j + 1))).toArray⟩) := Lib.hid (by rw [st_add, hP, HGb.out, take_more])
              rw [← hP]
              have hadd : ¬ 9223372036854775807 < P.length + gb.length := by omega
              clear HPa hsl6 hP HGb
              rw [show ((m + j : Nat) : Int) = (m : Int) + (j : Int) by omega] at hcv hba HW7 ⊢
              go_wp2_with fail
              go_roundw
              case rel => exact ⟨j + 1, by omega, by rw [HNx.out], by go_num, HW7⟩
              case measure => simp [intOf]; omega
            · obtain rfl : M = j := by omega
              have hjM' : ¬ (m : Int) + (M : Int) < (m : Int) + (M : Int) := by omega
              rw [HTA.out]
              have cs := HCs.out wr HW.out
              go_wp2_with fail
              go_roundw
              case rel => exact ⟨k + 1, m + M, by omega, by go_num, by go_num, HMk2, HW⟩
              case measure => simp [intOf]; omega
      · have hkl' : ¬ (k : Int) < (L.length : Int) := by omega
        obtain rfl : k = L.length := by omega
        have hm : m = r.next := by have := HCh.out.2; rw [HMk.out] at this; exact Option.some.inj this
        subst hm
        have HNe := Lib.hid (ring_next (HP.out.below K HW.out))
        go_wp2_with fail
        refine HNe.out.mono ?_
        rintro e w3 ⟨rfl, hb3⟩
        have hbe := hbw2.trans ((below_two HW.out hb3).mono hbw2.size)
        go_wp2
        go_ret
        exact ⟨rfl, hbe⟩
end

end Go.Proofs.Ytfpojbnidoeohaa
