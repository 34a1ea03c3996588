/- StrapChooses: the walk. -/
import Derived.Test.YtioclbkgfbjpdaaLaw18c
import Derived.Deep.DeepCutAuto
import Derived.Laws.Slices
namespace Go.Proofs.Ytioclbkgfbjpdaa
open Go.RowKit Go.Own Bs
set_option linter.unusedVariables false
set_option linter.unusedSimpArgs false
theorem four_of {z : List Int} (h : z.length = 4) : ∃ x : Nat → Int, (z.map (Value.int .i64)).toArray = #[.int .i64 (x 0), .int .i64 (x 1), .int .i64 (x 2), .int .i64 (x 3)] := by
  match z, h with
  | [a, b, c, d], _ => exact ⟨fun i => [a, b, c, d].getD i 0, rfl⟩
theorem run_uptoC (a : Option Addr) (len cap k : Nat) (hk : k ≤ cap) (w : World) : (Instr.slice 89 (.slice a len cap) none (some (.int .i64 (k : Nat))) none).run Try.prog w = .ok (.slice a k cap) w := by
  rw [run_slice_h w 89 a len cap (by kernel_rfl) .i64 _ (by omega) (by omega)]
  have hz : (sizeOf (Try.prog.elem 89)).run Try.prog w = .ok 1 w := by kernel_rfl
  rw [hz]
  simp [sliced, Result.andThen]
  cases a <;> simp [Addr.add]
theorem svl_snocC (l : List Nat) (y : Nat) : svl (l ++ [y]) = svl l ++ [.int .u16 ((y : Nat) : Int)] := by simp [svl]
theorem good_succ (bad : Nat) (x : Nat → Int) (k : Nat) : goodL bad x (k + 1) = if takes bad (goodL bad x k) (x k) = true then goodL bad x k ++ [x k] else goodL bad x k := rfl
theorem good_len (bad : Nat) (x : Nat → Int) : ∀ k, (goodL bad x k).length ≤ k
  | 0 => Nat.le_refl _
  | k + 1 => by
    have := good_len bad x k
    rw [good_succ]
    split
    · rw [List.length_append, List.length_singleton]; omega
    · omega
set_option maxRecDepth 100000 in
set_option maxHeartbeats 2000000 in
theorem In_anyC (a : Option Addr) (len cap n : Nat) (l : List Int) (x : Int) (w : World) (hl : l.length = len) (hn : n ≤ w.heap.size) (hr : Rd n w a len cap (Bs.iv l)) :
    Calls Try.prog 44 #[.slice a len cap, .int .i64 x] w fun e w' => e = .returned (.bool (decide (x ∈ l))) ∧ w' = w := by
  have h1 := hr.le
  have h2 := hr.top
  unfold maxLen at h2
  have HR := Lib.hid hr
  clear hr
  go_enter Try.func44, Try.ntmps44
  go_wp2_with fail
  go_loopw [9] (fun i wr => ∃ k : Nat, k ≤ len ∧ i = .int .i64 k ∧ x ∉ l.take k ∧ wr = w) (fun i _ => len - (intOf i).toNat)
  case atStart => exact ⟨0, Nat.zero_le _, rfl, by simp, rfl⟩
  case round =>
    obtain ⟨k, hk, rfl, hno, rfl⟩ := hrel
    by_cases hlt : k < len
    · obtain ⟨bb, off, rfl, hbb, hcx⟩ := HR.out.at hlt
      unfold Bs.iv at hcx
      obtain ⟨y, hy⟩ : ∃ y, y = l.getD k 0 := ⟨_, rfl⟩
      rw [← hy] at hcx
      have ht : l.take (k + 1) = l.take k ++ [y] := by rw [hy]; exact Bs.takeI_succ l (by omega)
      have HT := Lib.hid ht
      have HNO := Lib.hid hno
      clear hy ht hno
      by_cases e : x = y
      · have hin : x ∈ l := List.mem_of_mem_take (i := k + 1) (by rw [HT.out, e]; simp)
        have HIN := Lib.hid (decide_eq_true hin)
        have e' : (x == y) = true := by simp [e]
        clear hin
        go_wp2_with fail
        go_ret
        exact ⟨by simp [of_decide_eq_true HIN.out], rfl⟩
      · have e' : (x == y) = false := by simp [e]
        have hno2 : x ∉ l.take (k + 1) := by rw [HT.out]; simp [HNO.out, e]
        have HNO2 := Lib.hid hno2
        clear hno2
        go_wp2_with fail
        go_roundw
        case rel => exact ⟨k + 1, by omega, by go_num, HNO2.out, trivial⟩
        case measure => simp [intOf]; omega
    · obtain rfl : k = len := by omega
      rw [List.take_of_length_le (by omega)] at hno
      have HNO := Lib.hid (decide_eq_false hno)
      clear hno
      go_wp2_with fail
      go_ret
      exact ⟨by simp [of_decide_eq_false HNO.out], rfl⟩

set_option maxRecDepth 100000 in
set_option maxHeartbeats 8000000 in
theorem walk_StrapChooses (z0 : List Int) (a1 a2 a3 : Int) (a4 : Option Addr) (len4 cap4 : Nat) (z4 : List Int) (w : World) (l0 : z0.length = 4) (w0 : ∀ x ∈ z0, (Lit.int .i64 x).wf = true) (w1 : (Lit.int .u16 a1).wf = true) (w2 : (Lit.int .u16 a2).wf = true) (w3 : (Lit.int .u16 a3).wf = true) (w4 : IsRow .u16 w a4 len4 cap4 z4) :
    Calls Try.prog 8 #[.agg (z0.map (Value.int .i64)).toArray, .int .u16 a1, .int .u16 a2, .int .u16 a3, .slice a4 len4 cap4] w fun e w' => e = .returned (.bool true) ∧ Below w.heap.size w w' := by
  obtain ⟨z, hzl, hzv, hzr⟩ := isRow_u16S w4
  obtain ⟨x, ex⟩ := four_of l0
  rw [ex]
  obtain ⟨a, rfl⟩ := Int.eq_ofNat_of_zero_le (bounds_u16 w1).1
  have ha : a < 65536 := by have := (bounds_u16 w1).2; omega
  obtain ⟨b, rfl⟩ := Int.eq_ofNat_of_zero_le (bounds_u16 w2).1
  have hbb : b < 65536 := by have := (bounds_u16 w2).2; omega
  obtain ⟨bad, rfl⟩ := Int.eq_ofNat_of_zero_le (bounds_u16 w3).1
  have hbad : bad < 65536 := by have := (bounds_u16 w3).2; omega
  have HZR := Lib.hid hzr
  have HZV := Lib.hid hzv
  obtain ⟨i0, hi, hz0, hz1, hz2⟩ := info_parts info_intZ
  have hq := (Bq.nil w).new #[.int .i64 (x 0), .int .i64 (x 1), .int .i64 (x 2), .int .i64 (x 3)] 93
  clear w0 w1 w2 w3 w4 l0 ex hzr hzv
  go_enter Try.func8, Try.ntmps8
  go_upto_region 1 with fail
  obtain ⟨w1, hw1⟩ : ∃ w1, w1 = w.alloc (.cells #[.int .i64 (x 0), .int .i64 (x 1), .int .i64 (x 2), .int .i64 (x 3)] 93) := ⟨_, rfl⟩
  obtain ⟨g5, hg5⟩ : ∃ b, b = w.heap.size := ⟨_, rfl⟩
  rw [← hw1, ← hg5] at hq
  rw [← hw1, ← hg5]
  have HQ1 := Lib.hid (show Bq w w1 [(g5, #[.int .i64 (x 0), .int .i64 (x 1), .int .i64 (x 2), .int .i64 (x 3)], 93)] from hq)
  clear hw1 hg5 hq
  go_wp2_with fail
  go_at_call 29
  refine (awake18 w1).mono ?_
  rintro e w2 ⟨rfl, hb⟩
  have HQ2 := Lib.hid (HQ1.out.step hb)
  clear hb HQ1
  have b5 := HQ2.out.of 0 rfl
  go_wp2_with ((with_reducible show wpList _ _ _ (_ :: _) _ _); refine wpList_load_row rfl 93 _ rfl _ rfl _ _ _ _ b5 Try.underlying93 rfl (by exact size_four) ?_; (try go_simp))
  obtain ⟨wk, hwk⟩ : ∃ wk, wk = w2 := ⟨_, rfl⟩
  rw [← hwk] at HQ2 ⊢
  clear hwk b5
  go_loopw [11, 29] (fun v i wr => ∃ k : Nat, k ≤ 4 ∧ i = .int .i64 (k : Nat) ∧ wr.ownsRow wk.heap.size 3 1 v (goodL bad x k).length (zil (goodL bad x k)) ∧ Below wk.heap.size wk wr) (fun _ i _ => 4 - (intOf i).toNat)
  case atStart => exact ⟨0, Nat.zero_le _, rfl, World.ownsRow_nil _ _ _ _, Below.refl _ _⟩
  case round =>
    obtain ⟨k, hk, rfl, ho, hB⟩ := hrel
    by_cases hlt : k < 4
    · --D
      have hix := fun w => four_index x hlt w
      have hS := good_succ bad x k
      have hgl := good_len bad x k
      obtain ⟨y, hy⟩ : ∃ y, x k = y := ⟨_, rfl⟩
      simp only [hy] at hix
      rw [hy] at hS
      obtain ⟨G, hG⟩ : ∃ G, goodL bad x k = G := ⟨_, rfl⟩
      rw [hG] at hS ho hgl
      have HO := Lib.hid ho
      have HB := Lib.hid hB
      clear hy hG ho hB
      rcases (by omega : y < 0 ∨ 0 ≤ y) with hy0 | hy0
      · have hy1 : ¬ (0 : Int) ≤ y := by omega
        have hy2 : decide ((0 : Int) ≤ y) = false := decide_eq_false hy1
        have HS := Lib.hid (show goodL bad x (k + 1) = G by rw [hS, if_neg (by simp [takes, hy2])])
        clear hy0 hS
        skip
        go_wp2_with fail
        go_roundw
        case rel => exact ⟨k + 1, by omega, by go_num, by rw [HS.out]; exact HO.out, HB.out⟩
        case measure => simp [intOf]; omega
      rcases (by omega : 16 ≤ y ∨ y < 16) with hy3 | hy3
      · have hy2 : decide ((0 : Int) ≤ y) = true := decide_eq_true hy0
        have hy5 : ¬ y < 16 := by omega
        have hy4 : decide (y < 16) = false := decide_eq_false hy5
        have HS := Lib.hid (show goodL bad x (k + 1) = G by rw [hS, if_neg (by simp [takes, hy4])])
        clear hy3 hS
        skip
        go_wp2_with fail
        go_roundw
        case rel => exact ⟨k + 1, by omega, by go_num, by rw [HS.out]; exact HO.out, HB.out⟩
        case measure => simp [intOf]; omega
      have hy2 : decide ((0 : Int) ≤ y) = true := decide_eq_true hy0
      have hy4 : decide (y < 16) = true := decide_eq_true hy3
      have hT : takes bad G y = (!hasI bad y && !decide (y ∈ G)) := by simp [takes, hy2, hy4]
      rw [hT] at hS
      have HSS := Lib.hid hS
      clear hS hT
      go_wp2_with fail
      go_at_call 41
      refine (Has_any bad y wr hbad).mono ?_
      rintro e w3 ⟨rfl, hb3⟩
      have HB3 := Lib.hid (HB.out.trans (hb3.mono HB.out.size))
      have HO3 := Lib.hid (own_keepZ HO.out hb3)
      have hS := HSS.out
      obtain ⟨p, hp⟩ : ∃ p, hasI bad y = p := ⟨_, rfl⟩
      rw [show decide (bad &&& bit1 y ≠ 0) = p from hp]
      rw [hp] at hS
      have HSS := Lib.hid hS
      clear hS hp hb3 HB HO
      rcases (by cases p <;> simp : p = true ∨ p = false) with rfl | rfl
      · have HS := Lib.hid (show goodL bad x (k + 1) = G by rw [HSS.out]; rfl)
        skip
        go_wp2_with fail
        go_roundw
        case rel => exact ⟨k + 1, by omega, by go_num, by rw [HS.out]; exact HO3.out, HB3.out⟩
        case measure => simp [intOf]; omega
      obtain ⟨aG, cG, rfl⟩ := own_form HO3.out
      have hrd : Rd w3.heap.size w3 aG G.length cG (iv G) := rd_of_own HO3.out (fun i hi => zil_at _ i hi)
      have HRD := Lib.hid hrd
      clear hrd
      go_wp2_with fail
      go_at_call 44
      refine (In_anyC aG G.length cG w3.heap.size G y w3 rfl (Nat.le_refl _) HRD.out).mono ?_
      rintro e w4 ⟨rfl, rfl⟩
      have hS := HSS.out
      obtain ⟨p, hp⟩ : ∃ p, decide (y ∈ G) = p := ⟨_, rfl⟩
      rw [hp] at hS ⊢
      have HSS := Lib.hid hS
      clear hS hp HRD
      rcases (by cases p <;> simp : p = true ∨ p = false) with rfl | rfl
      · have HS := Lib.hid (show goodL bad x (k + 1) = G by rw [HSS.out]; rfl)
        skip
        go_wp2_with fail
        go_roundw
        case rel => exact ⟨k + 1, by omega, by go_num, by rw [HS.out]; exact HO3.out, HB3.out⟩
        case measure => simp [intOf]; omega
      have HS := Lib.hid (show goodL bad x (k + 1) = G ++ [y] by rw [HSS.out]; rfl)
      have hs3 := HB3.out.size
      clear HSS
      go_wp2_with (at_builtin; refine wpList_append_own _ rfl _ _ 89 rfl wk.heap.size 3 i0 (.int .i64 0) 1 8 Try.underlying89 hi hz0 hz1 hz2 rfl (by decide) _ _ _ rfl (HO3.out.alloc _) ⟨w4.heap.size, 0, none⟩ 1 1 [.int .i64 y] rfl rfl (cell_one_new _ _ _) (by simp [Value.oneCell']) (by unfold maxLen; omega) (by omega) (by simp; omega) ?_; intro v6 w6 hown4 hgr4 _; have HO6 := Lib.hid hown4; have HB6 := Lib.hid ((HB3.out.alloc hs3 _).grown hgr4 (by simp; omega) (fun j hj => (HO3.out.lt j hj).1)); clear hown4 hgr4)
      go_roundw
      case rel => exact ⟨k + 1, by omega, by go_num, by rw [HS.out, List.length_append, zil_snoc]; exact HO6.out, HB6.out⟩
      case measure => simp [intOf]; omega
    · obtain rfl : k = 4 := by omega
      obtain ⟨aG, cG, rfl⟩ := own_form ho
      have hrd : Rd wr.heap.size wr aG (goodL bad x 4).length cG (iv (goodL bad x 4)) := rd_of_own ho (fun i hi => zil_at _ i hi)
      have ht : threeR bad x 4 0 0 = if 3 ≤ (goodL bad x 4).length then (withS 0 ((goodL bad x 4).take 3), true) else (0, false) := three_is hbad x 4 0 (by show 0 < 3; omega)
      have hgl := good_len bad x 4
      obtain ⟨G, hG⟩ : ∃ G, goodL bad x 4 = G := ⟨_, rfl⟩
      rw [hG] at hrd ht hgl ⊢
      obtain ⟨n, hn⟩ : ∃ n, G.length = n := ⟨_, rfl⟩
      rw [hn] at hrd ht hgl ⊢
      have HQ3 := Lib.hid (HQ2.out.step hB)
      have HRD := Lib.hid hrd
      have HT := Lib.hid ht
      have HN := Lib.hid hn
      have b5 := HQ3.out.of 0 rfl
      clear hG hn hrd ht ho hB HQ2
      go_wp2_with ((with_reducible show wpList _ _ _ (_ :: _) _ _); refine wpList_load_row rfl 93 _ rfl _ rfl _ _ _ _ b5 Try.underlying93 rfl (by exact size_four) ?_; (try go_simp))
      go_at_call 45
      refine (Three_any x bad wr hbad).mono ?_
      rintro e w3 ⟨rfl, hb⟩
      rw [HT.out]
      have HQ4 := Lib.hid (HQ3.out.step hb)
      have HR4 := Lib.hid (HRD.out.below hb)
      have hs3 := hb.size
      obtain ⟨T0, hT0⟩ : ∃ T, (if 3 ≤ n then (withS 0 (G.take 3), true) else ((0 : Nat), false)).1 = T := ⟨_, rfl⟩
      obtain ⟨B0, hB0⟩ : ∃ T, (if 3 ≤ n then (withS 0 (G.take 3), true) else ((0 : Nat), false)).2 = T := ⟨_, rfl⟩
      rw [hT0, hB0]
      have HT0 := Lib.hid hT0
      have HB0 := Lib.hid hB0
      clear hb b5 HT HRD HQ3 hT0 hB0
      go_upto_region 11 with fail
      go_cut [14, 15, 83] (fun s14 s15 s83 wx => s83 = .bool false ∧ Bq w wx [(g5, #[.int .i64 (x 0), .int .i64 (x 1), .int .i64 (x 2), .int .i64 (x 3)], 93)])
      case first => --D
        have hT0 := HT0.out
        have hB0 := HB0.out
        rcases (by omega : 3 ≤ n ∨ n < 3) with h3 | h3
        · rw [if_pos h3] at hT0 hB0
          obtain rfl : B0 = true := hB0.symm
          have HTT := Lib.hid hT0
          have h4 : decide ((3 : Int) ≤ ((n : Nat) : Int)) = true := decide_eq_true (by omega)
          have h5 : (3 : Int) ≤ ((n : Nat) : Int) := by omega
          have hsl : ∀ w : World, (Instr.slice 89 (.slice aG n cG) none (some (.int .i64 3)) none).run Try.prog w = .ok (.slice aG 3 cG) w := fun w => run_uptoC aG n cG 3 (by have := HR4.out.le; omega) w
          have HR5 := Lib.hid ((HR4.out.first h3).same (g := iv (G.take 3)) (fun i hi => by unfold iv; simp [List.getD, hi]))
          have HL3 := Lib.hid (show (G.take 3).length = 3 by rw [List.length_take, HN.out]; omega)
          clear hT0 hB0 HR4 HT0 HB0
          go_wp2_with fail
          go_at_call 46
          refine (Of_any aG 3 cG wr.heap.size (G.take 3) w3 HL3.out hs3 HR5.out).mono ?_
          rintro e w4 ⟨rfl, hb⟩
          rw [show withS 0 (G.take 3) = T0 from HTT.out]
          have HQ5 := Lib.hid (HQ4.out.step hb)
          clear hb HQ4 HR5
          go_wp2_with fail
          go_meet
          case rel => exact ⟨rfl, HQ5.out⟩
        · rw [if_neg (by omega)] at hT0 hB0
          obtain rfl : B0 = false := hB0.symm
          obtain rfl : T0 = 0 := hT0.symm
          have h4 : decide ((3 : Int) ≤ ((n : Nat) : Int)) = false := decide_eq_false (by omega)
          have h5 : ¬ (3 : Int) ≤ ((n : Nat) : Int) := by omega
          clear hT0 hB0 HR4 HT0 HB0
          go_wp2_with fail
          go_meet
          case rel => exact ⟨rfl, HQ4.out⟩
      case rest =>
        obtain ⟨rfl, hcut⟩ := hcut
        have HQ5 := Lib.hid hcut
        clear hcut HQ4 HR4 HT0 HB0 hs3 HN hgl
        obtain ⟨wv, rfl⟩ : ∃ wv, wv = wc := ⟨_, rfl⟩
        go_wp2_with fail
        go_at_call 47
        refine (Branch_any a b bad wv ha hbb hbad).mono ?_
        rintro e w5 ⟨rfl, rfl⟩
        obtain ⟨GT, hGT⟩ : ∃ g, (if soundB a bad = true then a else if soundB b bad = true then b else 0) = g := ⟨_, rfl⟩
        obtain ⟨OK, hOK⟩ : ∃ g, (soundB a bad || soundB b bad) = g := ⟨_, rfl⟩
        rw [hGT, hOK]
        have HGT := Lib.hid hGT
        have HOK := Lib.hid hOK
        clear hGT hOK
        go_upto_region 14 with fail
        go_cut [18, 19] (fun s18 s19 wx => s18 = .bool (soundB a bad) ∧ s19 = .bool (soundB b bad) ∧ wx = wv)
        case first => --D
          have HA := Lib.hid (fun w => And_any a bad w ha hbad)
          have HB := Lib.hid (fun w => And_any b bad w hbb hbad)
          clear HQ5
          rcases Nat.eq_zero_or_pos a with ha | ha
          · have na : (((a : Nat) : Int) != 0) = false := by simp [ha]
            have Sa := Lib.hid (show soundB a bad = false by simp [soundB, ha])
            clear ha
            rcases Nat.eq_zero_or_pos b with hb | hb
            · have nb : (((b : Nat) : Int) != 0) = false := by simp [hb]
              have Sb := Lib.hid (show soundB b bad = false by simp [soundB, hb])
              clear hb
              go_wp2_with fail
              go_meet
              case rel => exact ⟨by rw [Sa.out], by rw [Sb.out], rfl⟩
            · by_cases qb : b &&& bad = 0
              · have nb : (((b : Nat) : Int) != 0) = true := by simp only [bne_iff_ne]; omega
                have Sb := Lib.hid (show soundB b bad = true by (simp [soundB, qb]; omega))
                have eb := Lib.hid (show (((b &&& bad : Nat) : Int) == 0) = true by simp [qb])
                clear hb qb
                go_wp2_with fail
                go_at_call 38
                refine (HB.out _).mono ?_
                rintro e wb ⟨rfl, rfl⟩
                have eb' := eb.out
                obtain ⟨qb, hq⟩ : ∃ qb, b &&& bad = qb := ⟨_, rfl⟩
                rw [hq] at eb' ⊢
                clear hq
                go_wp2_with fail
                go_meet
                case rel => exact ⟨by rw [Sa.out], by rw [Sb.out], rfl⟩
              · have nb : (((b : Nat) : Int) != 0) = true := by simp only [bne_iff_ne]; omega
                have Sb := Lib.hid (show soundB b bad = false by simp [soundB, qb])
                have eb := Lib.hid (show (((b &&& bad : Nat) : Int) == 0) = false by rw [beq_eq_false_iff_ne]; omega)
                clear hb qb
                go_wp2_with fail
                go_at_call 38
                refine (HB.out _).mono ?_
                rintro e wb ⟨rfl, rfl⟩
                have eb' := eb.out
                obtain ⟨qb, hq⟩ : ∃ qb, b &&& bad = qb := ⟨_, rfl⟩
                rw [hq] at eb' ⊢
                clear hq
                go_wp2_with fail
                go_meet
                case rel => exact ⟨by rw [Sa.out], by rw [Sb.out], rfl⟩
          · by_cases qa : a &&& bad = 0
            · have na : (((a : Nat) : Int) != 0) = true := by simp only [bne_iff_ne]; omega
              have Sa := Lib.hid (show soundB a bad = true by (simp [soundB, qa]; omega))
              have ea := Lib.hid (show (((a &&& bad : Nat) : Int) == 0) = true by simp [qa])
              clear ha qa
              rcases Nat.eq_zero_or_pos b with hb | hb
              · have nb : (((b : Nat) : Int) != 0) = false := by simp [hb]
                have Sb := Lib.hid (show soundB b bad = false by simp [soundB, hb])
                clear hb
                go_wp2_with fail
                go_at_call 38
                refine (HA.out _).mono ?_
                rintro e wa ⟨rfl, rfl⟩
                have ea' := ea.out
                obtain ⟨qa, hq⟩ : ∃ qa, a &&& bad = qa := ⟨_, rfl⟩
                rw [hq] at ea' ⊢
                clear hq
                go_wp2_with fail
                go_meet
                case rel => exact ⟨by rw [Sa.out], by rw [Sb.out], rfl⟩
              · by_cases qb : b &&& bad = 0
                · have nb : (((b : Nat) : Int) != 0) = true := by simp only [bne_iff_ne]; omega
                  have Sb := Lib.hid (show soundB b bad = true by (simp [soundB, qb]; omega))
                  have eb := Lib.hid (show (((b &&& bad : Nat) : Int) == 0) = true by simp [qb])
                  clear hb qb
                  go_wp2_with fail
                  go_at_call 38
                  refine (HA.out _).mono ?_
                  rintro e wa ⟨rfl, rfl⟩
                  have ea' := ea.out
                  obtain ⟨qa, hq⟩ : ∃ qa, a &&& bad = qa := ⟨_, rfl⟩
                  rw [hq] at ea' ⊢
                  clear hq
                  go_wp2_with fail
                  go_at_call 38
                  refine (HB.out _).mono ?_
                  rintro e wb ⟨rfl, rfl⟩
                  have eb' := eb.out
                  obtain ⟨qb, hq⟩ : ∃ qb, b &&& bad = qb := ⟨_, rfl⟩
                  rw [hq] at eb' ⊢
                  clear hq
                  go_wp2_with fail
                  go_meet
                  case rel => exact ⟨by rw [Sa.out], by rw [Sb.out], rfl⟩
                · have nb : (((b : Nat) : Int) != 0) = true := by simp only [bne_iff_ne]; omega
                  have Sb := Lib.hid (show soundB b bad = false by simp [soundB, qb])
                  have eb := Lib.hid (show (((b &&& bad : Nat) : Int) == 0) = false by rw [beq_eq_false_iff_ne]; omega)
                  clear hb qb
                  go_wp2_with fail
                  go_at_call 38
                  refine (HA.out _).mono ?_
                  rintro e wa ⟨rfl, rfl⟩
                  have ea' := ea.out
                  obtain ⟨qa, hq⟩ : ∃ qa, a &&& bad = qa := ⟨_, rfl⟩
                  rw [hq] at ea' ⊢
                  clear hq
                  go_wp2_with fail
                  go_at_call 38
                  refine (HB.out _).mono ?_
                  rintro e wb ⟨rfl, rfl⟩
                  have eb' := eb.out
                  obtain ⟨qb, hq⟩ : ∃ qb, b &&& bad = qb := ⟨_, rfl⟩
                  rw [hq] at eb' ⊢
                  clear hq
                  go_wp2_with fail
                  go_meet
                  case rel => exact ⟨by rw [Sa.out], by rw [Sb.out], rfl⟩
            · have na : (((a : Nat) : Int) != 0) = true := by simp only [bne_iff_ne]; omega
              have Sa := Lib.hid (show soundB a bad = false by simp [soundB, qa])
              have ea := Lib.hid (show (((a &&& bad : Nat) : Int) == 0) = false by rw [beq_eq_false_iff_ne]; omega)
              clear ha qa
              rcases Nat.eq_zero_or_pos b with hb | hb
              · have nb : (((b : Nat) : Int) != 0) = false := by simp [hb]
                have Sb := Lib.hid (show soundB b bad = false by simp [soundB, hb])
                clear hb
                go_wp2_with fail
                go_at_call 38
                refine (HA.out _).mono ?_
                rintro e wa ⟨rfl, rfl⟩
                have ea' := ea.out
                obtain ⟨qa, hq⟩ : ∃ qa, a &&& bad = qa := ⟨_, rfl⟩
                rw [hq] at ea' ⊢
                clear hq
                go_wp2_with fail
                go_meet
                case rel => exact ⟨by rw [Sa.out], by rw [Sb.out], rfl⟩
              · by_cases qb : b &&& bad = 0
                · have nb : (((b : Nat) : Int) != 0) = true := by simp only [bne_iff_ne]; omega
                  have Sb := Lib.hid (show soundB b bad = true by (simp [soundB, qb]; omega))
                  have eb := Lib.hid (show (((b &&& bad : Nat) : Int) == 0) = true by simp [qb])
                  clear hb qb
                  go_wp2_with fail
                  go_at_call 38
                  refine (HA.out _).mono ?_
                  rintro e wa ⟨rfl, rfl⟩
                  have ea' := ea.out
                  obtain ⟨qa, hq⟩ : ∃ qa, a &&& bad = qa := ⟨_, rfl⟩
                  rw [hq] at ea' ⊢
                  clear hq
                  go_wp2_with fail
                  go_at_call 38
                  refine (HB.out _).mono ?_
                  rintro e wb ⟨rfl, rfl⟩
                  have eb' := eb.out
                  obtain ⟨qb, hq⟩ : ∃ qb, b &&& bad = qb := ⟨_, rfl⟩
                  rw [hq] at eb' ⊢
                  clear hq
                  go_wp2_with fail
                  go_meet
                  case rel => exact ⟨by rw [Sa.out], by rw [Sb.out], rfl⟩
                · have nb : (((b : Nat) : Int) != 0) = true := by simp only [bne_iff_ne]; omega
                  have Sb := Lib.hid (show soundB b bad = false by simp [soundB, qb])
                  have eb := Lib.hid (show (((b &&& bad : Nat) : Int) == 0) = false by rw [beq_eq_false_iff_ne]; omega)
                  clear hb qb
                  go_wp2_with fail
                  go_at_call 38
                  refine (HA.out _).mono ?_
                  rintro e wa ⟨rfl, rfl⟩
                  have ea' := ea.out
                  obtain ⟨qa, hq⟩ : ∃ qa, a &&& bad = qa := ⟨_, rfl⟩
                  rw [hq] at ea' ⊢
                  clear hq
                  go_wp2_with fail
                  go_at_call 38
                  refine (HB.out _).mono ?_
                  rintro e wb ⟨rfl, rfl⟩
                  have eb' := eb.out
                  obtain ⟨qb, hq⟩ : ∃ qb, b &&& bad = qb := ⟨_, rfl⟩
                  rw [hq] at eb' ⊢
                  clear hq
                  go_wp2_with fail
                  go_meet
                  case rel => exact ⟨by rw [Sa.out], by rw [Sb.out], rfl⟩
        case rest =>
          obtain ⟨rfl, rfl, rfl⟩ := hcut
          obtain ⟨pa, hpa⟩ : ∃ g, soundB a bad = g := ⟨_, rfl⟩
          obtain ⟨pb, hpb⟩ : ∃ g, soundB b bad = g := ⟨_, rfl⟩
          have hGT := HGT.out
          have hOK := HOK.out
          rw [hpa, hpb] at hGT hOK ⊢
          have HGT := Lib.hid hGT
          have HOK := Lib.hid hOK
          clear hGT hOK hpa hpb
          go_upto_if 107 with fail
          go_cut [20] (fun s20 wx => s20 = .int .u16 ((if pb = true then b else 0 : Nat) : Int) ∧ wx = wc)
          case first => --D
            cases pb
            · go_wp2_with fail
              go_meet
              case rel => exact ⟨rfl, rfl⟩
            · go_wp2_with fail
              go_meet
              case rel => exact ⟨rfl, rfl⟩
          case rest =>
            obtain ⟨rfl, rfl⟩ := hcut
            obtain ⟨Q, hQ⟩ : ∃ g, (if pb = true then b else 0) = g := ⟨_, rfl⟩
            rw [hQ]
            rw [hQ] at HGT
            clear hQ
            go_upto_if 109 with fail
            go_cut [20] (fun s20 wx => s20 = .int .u16 ((if pa = true then a else Q : Nat) : Int) ∧ wx = wc)
            case first => --D
              cases pa
              · go_wp2_with fail
                go_meet
                case rel => exact ⟨rfl, rfl⟩
              · go_wp2_with fail
                go_meet
                case rel => exact ⟨rfl, rfl⟩
            case rest =>
              obtain ⟨rfl, rfl⟩ := hcut
              rw [HGT.out]
              obtain ⟨wv, rfl⟩ : ∃ wv, wv = wc := ⟨_, rfl⟩
              have hzm := zero_mp
              have hqn := Lib.hid (HQ5.out.new #[.slice none 0 0, .int .u16 0, .int .u16 0, .int .u16 0, .int .u16 0, .int .u16 0, .int .u16 0, .int .u16 0, .int .u16 0, .int .u16 0, .int .u16 0, .int .u16 0, .int .u16 0, .int .u16 0, .int .u16 0, .int .u16 0, .int .u16 0] 65)
              go_upto_region 21 with fail
              obtain ⟨w6, hw6⟩ : ∃ w6, w6 = wv.alloc (.cells #[.slice none 0 0, .int .u16 0, .int .u16 0, .int .u16 0, .int .u16 0, .int .u16 0, .int .u16 0, .int .u16 0, .int .u16 0, .int .u16 0, .int .u16 0, .int .u16 0, .int .u16 0, .int .u16 0, .int .u16 0, .int .u16 0, .int .u16 0] 65) := ⟨_, rfl⟩
              obtain ⟨gm, hgm⟩ : ∃ g, g = wv.heap.size := ⟨_, rfl⟩
              have hqn := hqn.out
              rw [← hw6, ← hgm] at hqn
              rw [← hw6, ← hgm]
              have HQ6 := Lib.hid (show Bq w w6 [(g5, #[.int .i64 (x 0), .int .i64 (x 1), .int .i64 (x 2), .int .i64 (x 3)], 93), (gm, #[.slice none 0 0, .int .u16 0, .int .u16 0, .int .u16 0, .int .u16 0, .int .u16 0, .int .u16 0, .int .u16 0, .int .u16 0, .int .u16 0, .int .u16 0, .int .u16 0, .int .u16 0, .int .u16 0, .int .u16 0, .int .u16 0, .int .u16 0], 65)] from hqn)
              clear hw6 hgm hqn HQ5 HGT
              go_upto_region 22 with fail
              obtain ⟨s6, hs6⟩ : ∃ g, decide (((len4 : Nat) : Int) ≤ 6) = g := ⟨_, rfl⟩
              rw [hs6]
              have HS6 := Lib.hid hs6
              clear hs6
              obtain ⟨ir, hir, hir0, hir1, hir2⟩ := info_parts info_role
              have hlc := HZR.out.le
              have hct := HZR.out.top
              unfold maxLen at hct
              go_wp2_with fail
              go_loopw [22, 23, 116] (fun r v i wr => ∃ (k : Nat) (v1 : Value), k ≤ len4 ∧ i = .int .i64 (k : Nat) ∧ r = .bool (s6 && rightL (z.take (min k 12)) 0) ∧ v = .int .u16 (orS 0 (z.take (min k 12)) : Nat) ∧ Bq w wr [(g5, #[.int .i64 (x 0), .int .i64 (x 1), .int .i64 (x 2), .int .i64 (x 3)], 93), (gm, #[v1, .int .u16 0, .int .u16 0, .int .u16 0, .int .u16 0, .int .u16 0, .int .u16 0, .int .u16 0, .int .u16 0, .int .u16 0, .int .u16 0, .int .u16 0, .int .u16 0, .int .u16 0, .int .u16 0, .int .u16 0, .int .u16 0], 65)] ∧ wr.ownsRow w.heap.size 100 1 v1 (z.take (min k 12)).length (svl (z.take (min k 12)))) (fun _ _ i _ => len4 - (intOf i).toNat)
              case atStart => exact ⟨0, _, Nat.zero_le _, rfl, by cases s6 <;> rfl, rfl, HQ6.out, World.ownsRow_nil _ _ _ _⟩
              case round =>
                clear HQ6
                obtain ⟨k, v1, hk, rfl, rfl, rfl, hq, ho⟩ := hrel
                by_cases hlt : k < len4
                · --D
                  obtain ⟨bb, off, rfl, hbn, hc⟩ := HZR.out.at hlt
                  have hc := (hq.be.cell (p := ⟨bb, off + k, none⟩) hbn).trans hc
                  unfold sv at hc
                  have hy16 : z.getD k 0 < 65536 := HZV.out _ (by
                    unfold List.getD
                    rw [List.getElem?_eq_getElem (show k < z.length by omega)]
                    exact List.getElem_mem _)
                  have hd : z.take (k + 1) = z.take k ++ [z.getD k 0] := by
                    rw [List.take_add_one, List.getElem?_eq_getElem (show k < z.length by omega)]
                    simp [List.getD, show k < z.length by omega]
                  by_cases h12 : k < 12
                  · have h12d : decide (((k : Nat) : Int) < 12) = true := decide_eq_true (by omega)
                    have h12i : ((k : Nat) : Int) < 12 := by omega
                    rw [show min k 12 = k by omega] at ho ⊢
                    have hA : orS 0 (z.take k) < 65536 := orS_lt (by omega) _ (fun t h => HZV.out t (List.mem_of_mem_take h))
                    have hkl : (z.take k).length = k := by rw [List.length_take]; omega
                    obtain ⟨y, hy⟩ : ∃ y, z.getD k 0 = y := ⟨_, rfl⟩
                    rw [hy] at hc hy16 hd
                    have HTK := Lib.hid (show z.take (min (k + 1) 12) = z.take k ++ [y] by rw [show min (k + 1) 12 = k + 1 by omega]; exact hd)
                    obtain ⟨L, hL⟩ : ∃ L, z.take k = L := ⟨_, rfl⟩
                    rw [hL] at ho HTK hkl hA ⊢
                    have hrs : rightL (L ++ [y]) 0 = (rightL L 0 && decide (orS 0 L &&& y = 0)) := rightL_snoc _ _ _
                    have has : orS 0 (L ++ [y]) = orS 0 L ||| y := by simp [orS]
                    obtain ⟨A, hAe⟩ : ∃ A, orS 0 L = A := ⟨_, rfl⟩
                    rw [hAe] at hA hrs has ⊢
                    have hrs2 : (s6 && rightL (L ++ [y]) 0) = ((s6 && rightL L 0) && decide (A &&& y = 0)) := by rw [hrs, Bool.and_assoc]
                    obtain ⟨R, hR⟩ : ∃ R, (s6 && rightL L 0) = R := ⟨_, rfl⟩
                    rw [hR] at hrs2 ⊢
                    have HRS := Lib.hid hrs2
                    have HAS := Lib.hid has
                    have EO := Lib.hid (show orS A [y] = A ||| y by simp [orS])
                    have HQ := Lib.hid hq
                    have HO := Lib.hid ho
                    have hL12 : L.length < 12 := by omega
                    clear hy hAe hR hrs hrs2 has hd hq hbn ho hL hkl
                    obtain ⟨a1, c1, rfl⟩ := own_form HO.out
                    have c6 := cell_of_row _ gm 0 _ _ _ (HQ.out.of 1 rfl)
                    have f6 := frozen_of_row _ gm 0 _ _ (HQ.out.of 1 rfl)
                    simp at c6
                    have hal := (Below.refl wr.heap.size wr).alloc (Nat.le_refl _) (.cells #[.int .u16 ((y : Nat) : Int)] 100)
                    have HQ3 := Lib.hid (HQ.out.step hal)
                    have HO3 := Lib.hid (own_keepZ HO.out hal)
                    have hws : w.heap.size ≤ wr.heap.size := HQ.out.be.size
                    clear hal
                    go_upto_region 28 with (at_builtin; refine wpList_append_own _ rfl _ _ 63 rfl w.heap.size 100 ir (.agg #[.int .u16 0]) 1 2 Try.underlying63 hir hir0 hir1 hir2 rfl (by decide) _ _ _ rfl HO3.out ⟨wr.heap.size, 0, none⟩ 1 1 [.int .u16 ((y : Nat) : Int)] rfl rfl (cell_one_new _ _ _) (by simp [Value.oneCell']) (by unfold maxLen; omega) (by omega) (by simp; omega) ?_; intro v' w4 hown4 hgr4 _; obtain ⟨a3, c3, rfl⟩ := own_form hown4; have hq4 := HQ3.out.app HO3.out (Nat.le_refl _) hgr4 (by simp); have d6 : w4.cell? ⟨gm, 0, none⟩ = some (.slice a1 L.length c1) := cell_of_row _ gm 0 _ _ _ (hq4.of 1 rfl); have e6 := frozen_of_row _ gm 0 _ _ (hq4.of 1 rfl); have HQ4 := Lib.hid hq4; have HO4 := Lib.hid hown4; clear hown4 hgr4 hq4)
                    obtain ⟨w5, hw5⟩ : ∃ w5, w5 = w4.setCell ⟨gm, 0, none⟩ (.slice a3 (L.length + 1) c3) := ⟨_, rfl⟩
                    have hgS := grown_set w4 ⟨gm, 0, none⟩ (.slice a3 (L.length + 1) c3)
                    have hq5 := HQ4.out.set 1 rfl 0 (.slice a3 (L.length + 1) c3)
                    have ho5 := HO4.out.kept hgS (.inr (Ne.symm (box_apart (HQ4.out.of 1 rfl) HO4.out (by decide))))
                    rw [← hw5] at hq5 ho5 ⊢
                    have HQ5 := Lib.hid (show Bq w w5 [(g5, #[.int .i64 (x 0), .int .i64 (x 1), .int .i64 (x 2), .int .i64 (x 3)], 93), (gm, #[.slice a3 (L.length + 1) c3, .int .u16 0, .int .u16 0, .int .u16 0, .int .u16 0, .int .u16 0, .int .u16 0, .int .u16 0, .int .u16 0, .int .u16 0, .int .u16 0, .int .u16 0, .int .u16 0, .int .u16 0, .int .u16 0, .int .u16 0, .int .u16 0], 65)] from hq5)
                    have HO5 := Lib.hid (show w5.ownsRow w.heap.size 100 1 (.slice a3 (L.length + 1) c3) (L ++ [y]).length (svl (L ++ [y])) by rw [svl_snocC, List.length_append]; exact ho5)
                    clear hw5 hgS hq5 ho5 HO4 HQ4 HQ3 HO3 d6 e6 c6 f6 HO HQ hc
                    skip
                    cases R
                    · have HRS := Lib.hid (show (s6 && rightL (L ++ [y]) 0) = (false && decide (A &&& y = 0)) from HRS.out)
                      have HAQ := Lib.hid (show (false && decide (A &&& y = 0)) = false from rfl)
                      skip
                      have hal8 := (Below.refl w5.heap.size w5).alloc (Nat.le_refl _) (.cells #[.int .u16 ((y : Nat) : Int)] 61)
                      have HQ8 := Lib.hid (HQ5.out.step hal8)
                      have HO8 := Lib.hid (own_keepZ HO5.out hal8)
                      clear hal8
                      go_wp2_with fail
                      go_at_call 48
                      refine (Or_any _ 1 1 _ A [y] _ hA rfl (fun z hz => by simp at hz; omega) (Nat.le_refl _) (rd_set (heap_alloc_new _ _))).mono ?_
                      rintro e w9 ⟨rfl, rfl⟩
                      rw [EO.out]
                      go_wp2_with fail
                      go_roundw
                      case rel => exact ⟨k + 1, _, by omega, by go_num, by rw [HTK.out, HRS.out, HAQ.out], by rw [HTK.out, HAS.out], HQ8.out, by rw [HTK.out]; exact HO8.out⟩
                      case measure => simp [intOf]; omega
                    · go_wp2_with fail
                      go_at_call 38
                      refine (And_any A y _ hA hy16).mono ?_
                      rintro e w7 ⟨rfl, rfl⟩
                      have HRS := Lib.hid (show (s6 && rightL (L ++ [y]) 0) = (true && decide (A &&& y = 0)) from HRS.out)
                      by_cases hq : A &&& y = 0
                      · have HAQ := Lib.hid (show (true && decide (A &&& y = 0)) = true by rw [hq]; rfl)
                        have hq2 : (((A &&& y : Nat) : Int) == 0) = true := by simp [hq]
                        obtain ⟨q, hqq⟩ : ∃ q, A &&& y = q := ⟨_, rfl⟩
                        rw [hqq] at hq2 ⊢
                        clear hq hqq
                        skip
                        have hal8 := (Below.refl w5.heap.size w5).alloc (Nat.le_refl _) (.cells #[.int .u16 ((y : Nat) : Int)] 61)
                        have HQ8 := Lib.hid (HQ5.out.step hal8)
                        have HO8 := Lib.hid (own_keepZ HO5.out hal8)
                        clear hal8
                        go_wp2_with fail
                        go_at_call 48
                        refine (Or_any _ 1 1 _ A [y] _ hA rfl (fun z hz => by simp at hz; omega) (Nat.le_refl _) (rd_set (heap_alloc_new _ _))).mono ?_
                        rintro e w9 ⟨rfl, rfl⟩
                        rw [EO.out]
                        go_wp2_with fail
                        go_roundw
                        case rel => exact ⟨k + 1, _, by omega, by go_num, by rw [HTK.out, HRS.out, HAQ.out], by rw [HTK.out, HAS.out], HQ8.out, by rw [HTK.out]; exact HO8.out⟩
                        case measure => simp [intOf]; omega
                      · have HAQ := Lib.hid (show (true && decide (A &&& y = 0)) = false by rw [decide_eq_false hq]; rfl)
                        have hq2 : (((A &&& y : Nat) : Int) == 0) = false := by rw [beq_eq_false_iff_ne]; omega
                        obtain ⟨q, hqq⟩ : ∃ q, A &&& y = q := ⟨_, rfl⟩
                        rw [hqq] at hq2 ⊢
                        clear hq hqq
                        skip
                        have hal8 := (Below.refl w5.heap.size w5).alloc (Nat.le_refl _) (.cells #[.int .u16 ((y : Nat) : Int)] 61)
                        have HQ8 := Lib.hid (HQ5.out.step hal8)
                        have HO8 := Lib.hid (own_keepZ HO5.out hal8)
                        clear hal8
                        go_wp2_with fail
                        go_at_call 48
                        refine (Or_any _ 1 1 _ A [y] _ hA rfl (fun z hz => by simp at hz; omega) (Nat.le_refl _) (rd_set (heap_alloc_new _ _))).mono ?_
                        rintro e w9 ⟨rfl, rfl⟩
                        rw [EO.out]
                        go_wp2_with fail
                        go_roundw
                        case rel => exact ⟨k + 1, _, by omega, by go_num, by rw [HTK.out, HRS.out, HAQ.out], by rw [HTK.out, HAS.out], HQ8.out, by rw [HTK.out]; exact HO8.out⟩
                        case measure => simp [intOf]; omega
                  · have h12d : decide (((k : Nat) : Int) < 12) = false := decide_eq_false (by omega)
                    have h12i : ¬ ((k : Nat) : Int) < 12 := by omega
                    have HTK := Lib.hid (show min (k + 1) 12 = min k 12 by omega)
                    have HO := Lib.hid ho
                    have HQ := Lib.hid hq
                    obtain ⟨L, hL⟩ : ∃ L, z.take (min k 12) = L := ⟨_, rfl⟩
                    rw [hL] at HO
                    rw [hL]
                    have HL := Lib.hid (show z.take (min (k + 1) 12) = L by rw [HTK.out, hL])
                    obtain ⟨R, hR⟩ : ∃ R, (s6 && rightL L 0) = R := ⟨_, rfl⟩
                    obtain ⟨A, hAe⟩ : ∃ A, orS 0 L = A := ⟨_, rfl⟩
                    rw [hR, hAe]
                    have HR := Lib.hid hR
                    have HA := Lib.hid hAe
                    clear ho hq hd hL hR hAe hbn
                    go_wp2_with fail
                    go_roundw
                    case rel => exact ⟨k + 1, _, by omega, by go_num, by rw [HL.out, HR.out], by rw [HL.out, HA.out], HQ.out, by rw [HL.out]; exact HO.out⟩
                    case measure => simp [intOf]; omega
                · obtain rfl : k = len4 := by omega
                  have hlt4 : ∀ t ∈ z.take (min k 12), t < 65536 := fun t h => HZV.out t (List.mem_of_mem_take h)
                  have hll : (z.take (min k 12)).length = min k 12 := by rw [List.length_take]; omega
                  have hs6 : decide ((min k 12 : Nat) ≤ 6) = s6 := by rw [← HS6.out]; exact decide_eq_decide.2 (by omega)
                  obtain ⟨a1, c1, rfl⟩ := own_form ho
                  have hrd : Rd wr.heap.size wr a1 (z.take (min k 12)).length c1 (sv (z.take (min k 12))) := rd_of_own ho (fun i hi => svl_at _ i hi)
                  obtain ⟨L, hL⟩ : ∃ L, z.take (min k 12) = L := ⟨_, rfl⟩
                  rw [hL] at hlt4 hll hrd hq ⊢
                  rw [← hll] at hs6
                  obtain ⟨m, hm⟩ : ∃ m, L.length = m := ⟨_, rfl⟩
                  rw [hm] at hs6 hrd hq
                  have HLT := Lib.hid hlt4
                  have HRD := Lib.hid hrd
                  have HQ := Lib.hid hq
                  have HM := Lib.hid hm
                  have hY : (rightL L 0 && decide (m ≤ 6)) = (s6 && rightL L 0) := by rw [hs6, Bool.and_comm]
                  obtain ⟨Y, hYe⟩ : ∃ Y, (s6 && rightL L 0) = Y := ⟨_, rfl⟩
                  rw [hYe] at hY ⊢
                  have HY := Lib.hid hY
                  have hok := HOK.out
                  have bm := HQ.out.of 1 rfl
                  clear hlt4 hrd hq hL hm hll hs6 hY hYe HOK HS6 ho
                  have hee : (((GT : Nat) : Int) == ((GT : Nat) : Int)) = true := by simp
                  cases pa <;> cases pb <;> (obtain rfl := hok; go_wp2_with (refine wpLoadGT (by (first | exact Go.Mix.wanted_none rfl | exact Go.Mix.wanted_tt rfl rfl rfl | exact Go.Mix.wanted_ff rfl rfl rfl)) 65 _ rfl _ rfl _ _ _ _ bm Try.underlying65 rfl (by exact size_mp) ?_; (try go_simp)); go_at_call 33; refine (Right_any a1 m c1 wr.heap.size L (fun _ => 0) wr HM.out HLT.out (Nat.le_refl _) HRD.out).mono ?_; rintro e w9 ⟨rfl, hb9⟩; rw [HY.out]; have HQ9 := Lib.hid (HQ.out.step hb9); clear hb9 bm HQ; cases Y <;> (go_wp2_with fail; go_ret; exact ⟨rfl, HQ9.out.be⟩))
end Go.Proofs.Ytioclbkgfbjpdaa
