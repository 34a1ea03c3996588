/- QueueCounts: of however many reports as many wait as have room. -/
import Derived.Test.YtpgophkegjeheaaLaw11
namespace Go.Proofs.Ytpgophkegjeheaa
open Go.RowKit Go.Own
set_option linter.unusedVariables false
set_option linter.unusedSimpArgs false
theorem one_any (t : Bool) (w : World) : Calls Try.prog 52 #[.bool t] w fun e w' => e = .returned (.int .i64 (if t then 1 else 0)) ∧ w = w' := by
  cases t
  · go_enter Try.func52, Try.ntmps52
    go_wp2
    go_ret
    exact ⟨rfl, rfl⟩
  · go_enter Try.func52, Try.ntmps52
    go_wp2
    go_ret
    exact ⟨rfl, rfl⟩
/-- The first j of the reports that were put. -/
def Firsts (L : List Rq) : Prop := ∀ i, i < L.length → (L.getD i rq0).c = i ∧ (L.getD i rq0).u = i % 256
theorem Firsts.push {L : List Rq} {r : Rq} (h : Firsts L) (hc : r.c = L.length) (hu : r.u = L.length % 256) : Firsts (L ++ [r]) := by
  intro i hi
  simp only [List.length_append, List.length_singleton] at hi
  rcases Nat.lt_or_ge i L.length with h1 | h1
  · have e : (L ++ [r]).getD i rq0 = L.getD i rq0 := by simp [List.getD, List.getElem?_append, h1]
    rw [e]
    exact h i h1
  · obtain rfl : i = L.length := by omega
    have e : (L ++ [r]).getD L.length rq0 = r := by simp [List.getD]
    rw [e]
    exact ⟨hc, hu⟩
set_option maxRecDepth 100000 in
set_option maxHeartbeats 4000000 in
theorem walk_QueueCounts (a0 a1 a2 : Int) (w : World) (w0 : (Lit.int .u8 a0).wf = true) (w1 : (Lit.int .u16 a1).wf = true) (w2 : (Lit.int .u8 a2).wf = true) :
    Calls Try.prog 10 #[.int .u8 a0, .int .u16 a1, .int .u8 a2] w fun e w' => e = .returned (.bool true) ∧ Below w.heap.size w w' := by
  obtain ⟨p0, p1⟩ := bounds_u8 w0
  obtain ⟨q0, q1⟩ := bounds_u16 w1
  obtain ⟨r0, r1⟩ := bounds_u8 w2
  obtain ⟨a0, rfl⟩ := Int.eq_ofNat_of_zero_le p0
  obtain ⟨a1, rfl⟩ := Int.eq_ofNat_of_zero_le q0
  obtain ⟨a2, rfl⟩ := Int.eq_ofNat_of_zero_le r0
  obtain ⟨k, hk⟩ : ∃ k, k = 1 + a0 % 16 := ⟨_, rfl⟩
  obtain ⟨x0, hx0⟩ : ∃ x, x = a0 % 16 := ⟨_, rfl⟩
  have hkI : (a0 : Int) % 16 = (x0 : Int) := by omega
  have hkI2 : 1 + (x0 : Int) = (k : Int) := by omega
  obtain ⟨m, hm⟩ : ∃ m, m = a1 % 300 := ⟨_, rfl⟩
  have hmI : (a1 : Int) % 300 = (m : Int) := by omega
  have hmT : (a1 : Int).tmod 300 = (m : Int) := by rw [hm]; rfl
  obtain ⟨t, ht⟩ : ∃ t, t = a2 % 20 := ⟨_, rfl⟩
  have htI : (a2 : Int) % 20 = (t : Int) := by omega
  have hk1 : 1 ≤ k := by omega
  have hk16 : k ≤ 16 := by omega
  have hm300 : m < 300 := by omega
  have ht20 : t < 20 := by omega
  have hx16 : x0 < 16 := by omega
  clear w0 w1 w2 hk hx0 hm ht
  go_enter Try.func10, Try.ntmps10
  go_wp2_with fail
  go_at_call 41
  refine (awake11 _).mono ?_
  rintro e wa ⟨rfl, hba⟩
  have HBA := Lib.hid hba
  clear hba
  go_wp2_with fail
  go_at_call 42
  refine (qNew_ok k wa hk1 hk16).mono ?_
  rintro e wb ⟨gq, g, b, rfl, hq, l1, l2, l3, hbb⟩
  have hsa := HBA.out.size
  have HBB := Lib.hid (HBA.out.trans (hbb.mono hsa))
  have HQ := Lib.hid hq
  obtain ⟨B, hB⟩ : ∃ B, B = wb.heap.size := ⟨_, rfl⟩
  rw [← hB] at HQ
  have hBB : B ≤ wb.heap.size := by omega
  clear hbb hq hB HBA
  go_wp2
  go_loopw [31] (fun i wr => ∃ (j : Nat) (L : List Rq), j ≤ m ∧ i = .int .i64 j ∧ L.length = min j k ∧ Firsts L ∧ QuS wr B gq g b k (min j k) (j - k) L ∧ Below w.heap.size w wr ∧ B ≤ wr.heap.size) (fun i _ => m - (intOf i).toNat)
  case atStart => exact ⟨0, [], Nat.zero_le _, rfl, by simp, fun i hi => absurd hi (by simp), by rw [Nat.zero_min, Nat.zero_sub]; exact HQ.out, HBB.out, hBB⟩
  case round =>
    obtain ⟨j, L, hj, rfl, hlen, hfst, hqu, hB, hBr⟩ := hrel
    have hsr : w.heap.size ≤ wr.heap.size := hB.size
    by_cases hlt : j < m
    · have hw8 : (j : Int) % 256 = ((j % 256 : Nat) : Int) := by omega
      obtain ⟨j8, hj8⟩ : ∃ y, y = j % 256 := ⟨_, rfl⟩
      rw [← hj8] at hw8
      have hW8 : IntKind.u8.wrap (j : Int) = (j8 : Int) := by rw [IntKind.wrap_u8]; omega
      have hW32 : IntKind.u32.wrap (j : Int) = (j : Int) := by rw [IntKind.wrap_u32]; omega
      have HQU := Lib.hid hqu
      have HF := Lib.hid hfst
      have HB := Lib.hid hB
      have HL := Lib.hid hlen
      have HJ8 := Lib.hid hj8
      by_cases hroom : j < k
      · have hLk : L.length < k := by omega
        have hLj : L.length = j := by omega
        have HLJ := Lib.hid hLj
        have hc1 : (min j k + 1) % 65536 = min (j + 1) k := by omega
        have hd1 : j - k = j + 1 - k := by omega
        have HC1 := Lib.hid hc1
        have HD1 := Lib.hid hd1
        have hj8b : j8 < 256 := by omega
        clear hqu hfst hB hlen hj8 hLj hc1 hd1
        go_wp2_with fail
        go_at_call 46
        refine (qPut_room HQU.out hBr hLk 1 j8 j (by omega) hj8b (by omega) none 0 0 [] rfl (by intro x hx; simp at hx) (Rd.none_ _ _ _) (by omega)).mono ?_
        rintro e w3 ⟨rfl, r, hpi, hq3, hk3⟩
        rw [HC1.out, HD1.out] at hq3
        have HQ3 := Lib.hid hq3
        have HF3 := Lib.hid (HF.out.push (r := r) (by rw [hpi.c, HLJ.out]; omega) (by rw [hpi.u, HLJ.out, HJ8.out]))
        have HB3 := Lib.hid (HB.out.trans (hk3.below (by omega) (by omega) (by omega) hsr))
        have hBr3 : B ≤ w3.heap.size := Nat.le_trans hBr hk3.size
        have hlen3 : (L ++ [r]).length = min (j + 1) k := by rw [List.length_append, List.length_singleton, HLJ.out]; omega
        have HL3 := Lib.hid hlen3
        clear hpi hq3 hk3 hlen3 HQU HF HB HL HC1 HD1 HJ8
        go_wp2
        go_roundw
        case rel => exact ⟨j + 1, L ++ [r], by omega, by go_num, HL3.out, HF3.out, HQ3.out, HB3.out, hBr3⟩
        case measure => simp [intOf]; omega
      · have hLk : L.length = k := by omega
        have hc1 : min j k = min (j + 1) k := by omega
        have hd1 : min (j - k + 1) 65535 = j + 1 - k := by omega
        have HC1 := Lib.hid hc1
        have HD1 := Lib.hid hd1
        have hj8b : j8 < 256 := by omega
        clear hqu hfst hB hlen hj8 hc1 hd1
        go_wp2_with fail
        go_at_call 46
        refine (qPut_full HQU.out hBr hLk 1 j8 j (by omega) hj8b (by omega) none 0 0 [] rfl (by intro x hx; simp at hx) (Rd.none_ _ _ _) (by omega)).mono ?_
        rintro e w3 ⟨rfl, hq3, hk3⟩
        rw [HD1.out, HC1.out] at hq3
        have HQ3 := Lib.hid hq3
        have HB3 := Lib.hid (HB.out.trans (hk3.below (by omega) (by omega) (by omega) hsr))
        have hBr3 : B ≤ w3.heap.size := Nat.le_trans hBr hk3.size
        have hlen3 : L.length = min (j + 1) k := by rw [HL.out]; omega
        have HL3 := Lib.hid hlen3
        clear hq3 hk3 hlen3 HQU HB HL HC1 HD1 HJ8
        go_wp2
        go_roundw
        case rel => exact ⟨j + 1, L, by omega, by go_num, HL3.out, HF.out, HQ3.out, HB3.out, hBr3⟩
        case measure => simp [intOf]; omega
    · obtain rfl : j = m := by omega
      obtain ⟨c1, hc1⟩ : ∃ c, c = min j k := ⟨_, rfl⟩
      obtain ⟨k2, hk2⟩ : ∃ c, c = min t c1 := ⟨_, rfl⟩
      obtain ⟨d1, hd1⟩ : ∃ c, c = j - k := ⟨_, rfl⟩
      obtain ⟨lf, hlf⟩ : ∃ c, c = c1 - k2 := ⟨_, rfl⟩
      have hmn1 := fun (w : World) => run_minI (P := Try.prog) #[3, 3] 3 .i64 (j : Int) (k : Int) w
      rw [show min (j : Int) (k : Int) = (c1 : Int) by omega] at hmn1
      have hmn2 := fun (w : World) => run_minI (P := Try.prog) #[3, 3] 3 .i64 (t : Int) (c1 : Int) w
      rw [show min (t : Int) (c1 : Int) = (k2 : Int) by omega] at hmn2
      have hmx := fun (w : World) => run_maxI (P := Try.prog) #[3, 3] 3 .i64 ((j : Int) - (k : Int)) 0 w
      rw [show max ((j : Int) - (k : Int)) 0 = (d1 : Int) by omega] at hmx
      have hlfI : (c1 : Int) - (k2 : Int) = (lf : Int) := by omega
      rw [← hc1, ← hd1] at hqu
      rw [← hc1] at hlen
      have hk2l : k2 ≤ L.length := by omega
      have hk216 : k2 ≤ 16 := by omega
      have hc116 : c1 ≤ 16 := by omega
      have hld : (L.drop k2).length = lf := by rw [List.length_drop]; omega
      have hks : k2 = min (t : Int).toNat L.length := by rw [hlen, hk2]; rfl
      have HMN1 := Lib.hid hmn1
      have HMN2 := Lib.hid hmn2
      have HMX := Lib.hid hmx
      have HLF := Lib.hid hlfI
      have HQU := Lib.hid hqu
      have HF := Lib.hid hfst
      have HB := Lib.hid hB
      have HLD := Lib.hid hld
      have HKS := Lib.hid hks
      have hkk : ∀ i, i < k2 → ((L.take k2).getD i rq0).c = i ∧ ((L.take k2).getD i rq0).u = i % 256 := fun i hi => by
        have e : (L.take k2).getD i rq0 = L.getD i rq0 := by simp [List.getD, List.getElem?_take, hi]
        rw [e]
        exact hfst i (by omega)
      have HKK := Lib.hid hkk
      have hlt2 : (L.take k2).length = k2 := by rw [List.length_take]; omega
      have HLT2 := Lib.hid hlt2
      have HLFK := Lib.hid (show c1 = k2 + lf by omega)
      clear hmn1 hmn2 hmx hlfI hqu hfst hB hld hks hkk hlt2 hc1 hk2 hd1 hlf HQ HBB hlen
      go_wp2_with fail
      go_at_call 45
      refine (qTake HQU.out hBr (t : Int) k2 HKS.out).mono ?_
      rintro e wt ⟨v, rfl, hown, hqt, hkt⟩
      obtain ⟨av, cv, rfl⟩ : ∃ a c, v = .slice a k2 c := by
        rcases hown.2 with ⟨rfl, h⟩ | ⟨_, _, _, rfl, _⟩
        · exact ⟨none, 0, by rw [h]⟩
        · exact ⟨_, _, rfl⟩
      have HO := Lib.hid hown
      have HQT := Lib.hid hqt
      have hst : wr.heap.size ≤ wt.heap.size := hkt.size
      have HBT := Lib.hid (HB.out.trans (hkt.below (by omega) (by omega) (by omega) hsr))
      clear hown hqt hkt HQU HB
      go_wp2
      go_loopw [52] (fun i wu => ∃ i2 : Nat, i2 ≤ k2 ∧ i = .int .i64 i2 ∧ Below wt.heap.size wt wu) (fun i _ => k2 - (intOf i).toNat)
      case atStart => exact ⟨0, Nat.zero_le _, rfl, Below.refl _ _⟩
      case round =>
        obtain ⟨i2, hi2, rfl, hbu⟩ := hrel
        by_cases hlt3 : i2 < k2
        · obtain ⟨g', rfl, _, hgu, hra⟩ := own_range HO.out HLT2.out hlt3
          obtain ⟨hec, heu⟩ := HKK.out i2 hlt3
          obtain ⟨x, hx⟩ : ∃ x, x = (L.take k2).getD i2 rq0 := ⟨_, rfl⟩
          rw [← hx] at hra hec heu
          have hra2 := range_block hra (hbu.block g' hgu)
          have q0 : wr.cell? ⟨g', i2 * 5, none⟩ = some (.int .u8 (x.s : Nat)) := hra2 0 _ rfl
          have q1 := hra2 1 _ rfl
          have q2 := hra2 2 _ rfl
          have q3 := hra2 3 _ rfl
          have q4 := hra2 4 _ rfl
          rw [heu] at q1
          rw [hec] at q2
          have hu8 : i2 % 256 = i2 := by omega
          rw [hu8] at q1
          have hW8 : IntKind.u8.wrap (i2 : Int) = (i2 : Int) := by rw [IntKind.wrap_u8]; omega
          have HBU := Lib.hid hbu
          clear hra hra2 hx hec heu hbu hu8
          have hal : ∀ o, Below wt.heap.size wt (wr.alloc o) := fun o => HBU.out.alloc HBU.out.size o
          have HAL := Lib.hid hal
          clear hal
          go_wp2
          go_roundw
          case rel => exact ⟨i2 + 1, by omega, by go_num, HAL.out _⟩
          case measure => simp [intOf]; omega
        · obtain rfl : i2 = k2 := by omega
          have hsu : wt.heap.size ≤ wr.heap.size := hbu.size
          have hsw : w.heap.size ≤ wt.heap.size := HBT.out.size
          have HQ := Lib.hid (HQT.out.below hbu (Nat.le_refl _))
          have HB := Lib.hid (HBT.out.trans (hbu.mono hsw))
          have hmn1 := HMN1.out
          have hmn2 := HMN2.out
          have hmx := HMX.out
          have hlfI := HLF.out
          clear hbu HBT HQT HO HKK HF
          by_cases hroom : lf < k
          · have hone : (1 : Int) = 1 := rfl
            go_wp2_with fail
            go_at_call 47
            refine (qLen HQ.out).mono ?_
            rintro e w' ⟨rfl, rfl⟩
            rw [HLD.out]
            go_wp2_with fail
            go_at_call 48
            refine (qDropped HQ.out).mono ?_
            rintro e w' ⟨rfl, rfl⟩
            go_wp2_with fail
            go_at_call 46
            refine (qPut_room HQ.out (by omega) (by rw [HLD.out]; exact hroom) 9 9 9 (by omega) (by omega) (by omega) none 0 0 [] rfl (by intro x hx; simp at hx) (Rd.none_ _ _ _) (by omega)).mono ?_
            rintro e w5 ⟨rfl, r, _, hq5, hk5⟩
            have hc5 : (c1 + 1) % 65536 = c1 + 1 := by omega
            rw [hc5] at hq5
            have HQ5 := Lib.hid hq5
            have HB5 := Lib.hid (HB.out.trans (hk5.below (by omega) (by omega) (by omega) (by omega)))
            clear hq5 hk5
            go_wp2_with fail
            go_at_call 49
            refine (qCount HQ5.out).mono ?_
            rintro e w' ⟨rfl, rfl⟩
            go_wp2_with fail
            go_at_call 52
            refine (one_any true _).mono ?_
            rintro e w' ⟨rfl, rfl⟩
            go_wp2
            go_ret
            exact ⟨rfl, HB5.out⟩
          · go_wp2_with fail
            go_at_call 47
            refine (qLen HQ.out).mono ?_
            rintro e w' ⟨rfl, rfl⟩
            rw [HLD.out]
            go_wp2_with fail
            go_at_call 48
            refine (qDropped HQ.out).mono ?_
            rintro e w' ⟨rfl, rfl⟩
            go_wp2_with fail
            go_at_call 46
            refine (qPut_full HQ.out (by omega) (by rw [HLD.out]; have := HQ.out.ring.le.1; rw [HLD.out] at this; omega) 9 9 9 (by omega) (by omega) (by omega) none 0 0 [] rfl (by intro x hx; simp at hx) (Rd.none_ _ _ _) (by omega)).mono ?_
            rintro e w5 ⟨rfl, hq5, hk5⟩
            have HQ5 := Lib.hid hq5
            have HB5 := Lib.hid (HB.out.trans (hk5.below (by omega) (by omega) (by omega) (by omega)))
            clear hq5 hk5
            go_wp2_with fail
            go_at_call 49
            refine (qCount HQ5.out).mono ?_
            rintro e w' ⟨rfl, rfl⟩
            go_wp2_with fail
            go_at_call 52
            refine (one_any false _).mono ?_
            rintro e w' ⟨rfl, rfl⟩
            go_wp2
            go_ret
            exact ⟨rfl, HB5.out⟩
end Go.Proofs.Ytpgophkegjeheaa
