/- FdirClimbs. -/
import Derived.Test.YtinaimacocgemaaLaw22e
import Derived.Test.YtinaimacocgemaaFd4
import Derived.Test.YtinaimacocgemaaFdP
namespace Go.Proofs.Ytinaimacocgemaa
open Go.RowKit Go.Own Bs
set_option linter.unusedVariables false
set_option linter.unusedSimpArgs false
theorem fi_of {z : List Int} (hl : z.length = 5) (hw : ∀ x ∈ z, (Lit.int .u8 x).wf = true) : ∃ Z : Nat → Nat, Lb Z ∧ (z.map (Value.int .u8)).toArray = #[.int .u8 ((Z 0 : Nat) : Int), .int .u8 ((Z 1 : Nat) : Int), .int .u8 ((Z 2 : Nat) : Int), .int .u8 ((Z 3 : Nat) : Int), .int .u8 ((Z 4 : Nat) : Int)] := by
  match z, hl, hw with
  | [a, b, c, d, e], _, hw =>
    have ha := bounds_u8 (hw a (by simp))
    have hb := bounds_u8 (hw b (by simp))
    have hc := bounds_u8 (hw c (by simp))
    have hd := bounds_u8 (hw d (by simp))
    have he := bounds_u8 (hw e (by simp))
    obtain ⟨a, rfl⟩ := Int.eq_ofNat_of_zero_le ha.1
    obtain ⟨b, rfl⟩ := Int.eq_ofNat_of_zero_le hb.1
    obtain ⟨c, rfl⟩ := Int.eq_ofNat_of_zero_le hc.1
    obtain ⟨d, rfl⟩ := Int.eq_ofNat_of_zero_le hd.1
    obtain ⟨e, rfl⟩ := Int.eq_ofNat_of_zero_le he.1
    exact ⟨fiF a b c d e, lb_fi (by omega) (by omega) (by omega) (by omega) (by omega), rfl⟩
theorem set_limC (L C : Nat → Nat) {l : Nat} (hl : l < 5) (x : Nat) : (#[.int .u8 ((L 0 : Nat) : Int), .int .u8 ((L 1 : Nat) : Int), .int .u8 ((L 2 : Nat) : Int), .int .u8 ((L 3 : Nat) : Int), .int .u8 ((L 4 : Nat) : Int), .int .u8 ((C 0 : Nat) : Int), .int .u8 ((C 1 : Nat) : Int), .int .u8 ((C 2 : Nat) : Int), .int .u8 ((C 3 : Nat) : Int), .int .u8 ((C 4 : Nat) : Int)] : Array Value).setIfInBounds l (.int .u8 ((x : Nat) : Int)) = #[.int .u8 ((upd L l x 0 : Nat) : Int), .int .u8 ((upd L l x 1 : Nat) : Int), .int .u8 ((upd L l x 2 : Nat) : Int), .int .u8 ((upd L l x 3 : Nat) : Int), .int .u8 ((upd L l x 4 : Nat) : Int), .int .u8 ((C 0 : Nat) : Int), .int .u8 ((C 1 : Nat) : Int), .int .u8 ((C 2 : Nat) : Int), .int .u8 ((C 3 : Nat) : Int), .int .u8 ((C 4 : Nat) : Int)] := by
  rcases (by omega : l = 0 ∨ l = 1 ∨ l = 2 ∨ l = 3 ∨ l = 4) with rfl | rfl | rfl | rfl | rfl <;> rfl
theorem set_ni (n : Nat → Nat) {l : Nat} (hl : l < 5) (x : Nat) : (#[.int .i64 ((n 0 : Nat) : Int), .int .i64 ((n 1 : Nat) : Int), .int .i64 ((n 2 : Nat) : Int), .int .i64 ((n 3 : Nat) : Int), .int .i64 ((n 4 : Nat) : Int)] : Array Value).setIfInBounds l (.int .i64 ((x : Nat) : Int)) = #[.int .i64 ((upd n l x 0 : Nat) : Int), .int .i64 ((upd n l x 1 : Nat) : Int), .int .i64 ((upd n l x 2 : Nat) : Int), .int .i64 ((upd n l x 3 : Nat) : Int), .int .i64 ((upd n l x 4 : Nat) : Int)] := by
  rcases (by omega : l = 0 ∨ l = 1 ∨ l = 2 ∨ l = 3 ∨ l = 4) with rfl | rfl | rfl | rfl | rfl <;> rfl
theorem ni_at (n : Nat → Nat) {k : Nat} (hk : k < 5) : (#[.int .i64 ((n 0 : Nat) : Int), .int .i64 ((n 1 : Nat) : Int), .int .i64 ((n 2 : Nat) : Int), .int .i64 ((n 3 : Nat) : Int), .int .i64 ((n 4 : Nat) : Int)] : Array Value)[k]? = some (.int .i64 ((n k : Nat) : Int)) := by
  rcases (by omega : k = 0 ∨ k = 1 ∨ k = 2 ∨ k = 3 ∨ k = 4) with rfl | rfl | rfl | rfl | rfl <;> rfl
/-- The limits, the first k of them laid. -/
def mdL (Z : Nat → Nat) (k : Nat) : Nat → Nat := fun j => if j < k then Z j % 9 else 0
theorem mdL_succ (Z : Nat → Nat) (k : Nat) : upd (mdL Z k) k (Z k % 9) = mdL Z (k + 1) := by
  funext j
  unfold upd mdL
  by_cases h : j = k
  · subst h; rw [if_pos rfl, if_pos (by omega)]
  · rw [if_neg h]
    by_cases h2 : j < k
    · rw [if_pos h2, if_pos (by omega)]
    · rw [if_neg h2, if_neg (by omega)]
theorem mdL_zero (Z : Nat → Nat) (k : Nat) : mdL Z 0 k = 0 := if_neg (by omega)
def m9 (Z : Nat → Nat) : Nat → Nat := fun j => Z j % 9
theorem m9_le (Z : Nat → Nat) (k : Nat) : m9 Z k ≤ 8 := by unfold m9; omega
theorem mdL_all (Z : Nat → Nat) {j : Nat} (h : j < 5) : mdL Z 5 j = m9 Z j := if_pos h
theorem ld_ext {L L2 C : Nat → Nat} (h : ∀ j, j < 5 → L j = L2 j) : (#[.int .u8 ((L 0 : Nat) : Int), .int .u8 ((L 1 : Nat) : Int), .int .u8 ((L 2 : Nat) : Int), .int .u8 ((L 3 : Nat) : Int), .int .u8 ((L 4 : Nat) : Int), .int .u8 ((C 0 : Nat) : Int), .int .u8 ((C 1 : Nat) : Int), .int .u8 ((C 2 : Nat) : Int), .int .u8 ((C 3 : Nat) : Int), .int .u8 ((C 4 : Nat) : Int)] : Array Value) = #[.int .u8 ((L2 0 : Nat) : Int), .int .u8 ((L2 1 : Nat) : Int), .int .u8 ((L2 2 : Nat) : Int), .int .u8 ((L2 3 : Nat) : Int), .int .u8 ((L2 4 : Nat) : Int), .int .u8 ((C 0 : Nat) : Int), .int .u8 ((C 1 : Nat) : Int), .int .u8 ((C 2 : Nat) : Int), .int .u8 ((C 3 : Nat) : Int), .int .u8 ((C 4 : Nat) : Int)] := by
  rw [h 0 (by decide), h 1 (by decide), h 2 (by decide), h 3 (by decide), h 4 (by decide)]
set_option maxRecDepth 100000 in
set_option maxHeartbeats 8000000 in
theorem walk_FdirClimbs (z0 : List Int) (a1 a2 a3 : Int) (w : World) (l0 : z0.length = 5) (w0 : ∀ x ∈ z0, (Lit.int .u8 x).wf = true) (w1 : (Lit.int .u8 a1).wf = true) (w2 : (Lit.int .u8 a2).wf = true) (w3 : (Lit.int .u8 a3).wf = true) :
    Calls Try.prog 8 #[.agg (z0.map (Value.int .u8)).toArray, .int .u8 a1, .int .u8 a2, .int .u8 a3] w fun e w' => e = .returned (.bool true) ∧ Below w.heap.size w w' := by
  obtain ⟨Z, hZ, e0⟩ := fi_of l0 w0
  rw [e0]
  obtain ⟨r0, r1⟩ := bounds_u8 w1
  obtain ⟨s0, s1⟩ := bounds_u8 w2
  obtain ⟨t0, t1⟩ := bounds_u8 w3
  obtain ⟨st, rfl⟩ := Int.eq_ofNat_of_zero_le r0
  obtain ⟨inh, rfl⟩ := Int.eq_ofNat_of_zero_le s0
  obtain ⟨mo, rfl⟩ := Int.eq_ofNat_of_zero_le t0
  have hst : st < 256 := by omega
  have hinh : inh < 256 := by omega
  have hmo : mo < 256 := by omega
  have HZ := Lib.hid hZ
  clear e0 l0 w0 w1 w2 w3 r0 r1 s0 s1 t0 t1 hZ z0
  have hz := zero_ld
  have hz2 := zero_al
  have hzn : ∀ w, (zeroValue 107).run Try.prog w = .ok (.agg #[.int .i64 0, .int .i64 0, .int .i64 0, .int .i64 0, .int .i64 0]) w := fun w => by kernel_rfl
  have hq := (Bq.nil w).new #[.int .u8 ((Z 0 : Nat) : Int), .int .u8 ((Z 1 : Nat) : Int), .int .u8 ((Z 2 : Nat) : Int), .int .u8 ((Z 3 : Nat) : Int), .int .u8 ((Z 4 : Nat) : Int)] 98
  go_enter Try.func8, Try.ntmps8
  go_upto_region 1 with fail
  obtain ⟨w1, hw1⟩ : ∃ w1, w1 = w.alloc (.cells #[.int .u8 ((Z 0 : Nat) : Int), .int .u8 ((Z 1 : Nat) : Int), .int .u8 ((Z 2 : Nat) : Int), .int .u8 ((Z 3 : Nat) : Int), .int .u8 ((Z 4 : Nat) : Int)] 98) := ⟨_, rfl⟩
  rw [← hw1] at hq ⊢
  obtain ⟨g4, hg4⟩ : ∃ g, g = w.heap.size := ⟨_, rfl⟩
  rw [← hg4] at hq
  rw [show (Value.pointer (some ⟨w.heap.size, 0, none⟩)) = .pointer (some ⟨g4, 0, none⟩) by rw [hg4]]
  have HQ := Lib.hid (show Bq w w1 [(g4, #[.int .u8 ((Z 0 : Nat) : Int), .int .u8 ((Z 1 : Nat) : Int), .int .u8 ((Z 2 : Nat) : Int), .int .u8 ((Z 3 : Nat) : Int), .int .u8 ((Z 4 : Nat) : Int)], 98)] from hq)
  clear hq hw1 hg4
  go_wp2_with fail
  go_at_call 42
  refine (awake22 _).mono ?_
  rintro e w2 ⟨rfl, hb⟩
  have HQ2 := Lib.hid (HQ.out.step hb)
  clear hb HQ
  go_upto_region 3 with fail
  go_upto_region 4 with ((with_reducible show wpList _ _ _ (_ :: _) _ _); refine wpList_store_row rfl 100 _ _ rfl _ _ rfl rfl _ _ (heap_alloc_new _ _) (by exact size_ld) (by rfl) (by simp [Value.oneCell']) ?_; rw [World.setRow_alloc_new])
  have HQ3 := Lib.hid (show Bq w (w2.alloc (.cells #[.int .u8 0, .int .u8 0, .int .u8 0, .int .u8 0, .int .u8 0, .int .u8 0, .int .u8 0, .int .u8 0, .int .u8 0, .int .u8 0] 100)) [(g4, #[.int .u8 ((Z 0 : Nat) : Int), .int .u8 ((Z 1 : Nat) : Int), .int .u8 ((Z 2 : Nat) : Int), .int .u8 ((Z 3 : Nat) : Int), .int .u8 ((Z 4 : Nat) : Int)], 98), (w2.heap.size, #[.int .u8 0, .int .u8 0, .int .u8 0, .int .u8 0, .int .u8 0, .int .u8 0, .int .u8 0, .int .u8 0, .int .u8 0, .int .u8 0], 100)] from HQ2.out.new #[.int .u8 0, .int .u8 0, .int .u8 0, .int .u8 0, .int .u8 0, .int .u8 0, .int .u8 0, .int .u8 0, .int .u8 0, .int .u8 0] 100)
  obtain ⟨w3, hw3⟩ : ∃ w3, w3 = w2.alloc (.cells #[.int .u8 0, .int .u8 0, .int .u8 0, .int .u8 0, .int .u8 0, .int .u8 0, .int .u8 0, .int .u8 0, .int .u8 0, .int .u8 0] 100) := ⟨_, rfl⟩
  obtain ⟨g9, hg9⟩ : ∃ g, g = w2.heap.size := ⟨_, rfl⟩
  rw [← hw3, ← hg9] at HQ3
  rw [← hw3, ← hg9]
  clear hw3 hg9 HQ2
  obtain ⟨fi, hfi⟩ : ∃ fi, fi = st % 5 := ⟨_, rfl⟩
  have hf5 : fi < 5 := by omega
  have e1 : (st : Int) % 5 = (fi : Int) := by omega
  have E1 := Lib.hid e1
  clear hfi e1
  simp only [Act.put]
  go_upto_region 6 with fail
  rw [E1.out]
  go_wp2_with fail
  have HF := Lib.hid hf5
  go_loopw [10, 11, 27] (fun v10 v11 v27 wr => ∃ (k : Nat) (r : Option Nat), k ≤ 5 ∧ v27 = .int .i64 (k : Nat) ∧ v10 = .int .i64 ((smk inh fi (m9 Z) k : Nat) : Int) ∧ v11 = .int .i64 (lvI r) ∧ ((k ≤ fi ∧ r = none) ∨ (fi ≤ k ∧ tp inh (5 - k) r = tp inh (5 - fi) none)) ∧ Bq w wr [(g4, #[.int .u8 ((Z 0 : Nat) : Int), .int .u8 ((Z 1 : Nat) : Int), .int .u8 ((Z 2 : Nat) : Int), .int .u8 ((Z 3 : Nat) : Int), .int .u8 ((Z 4 : Nat) : Int)], 98), (g9, #[.int .u8 ((mdL Z k 0 : Nat) : Int), .int .u8 ((mdL Z k 1 : Nat) : Int), .int .u8 ((mdL Z k 2 : Nat) : Int), .int .u8 ((mdL Z k 3 : Nat) : Int), .int .u8 ((mdL Z k 4 : Nat) : Int), .int .u8 ((zF 0 : Nat) : Int), .int .u8 ((zF 1 : Nat) : Int), .int .u8 ((zF 2 : Nat) : Int), .int .u8 ((zF 3 : Nat) : Int), .int .u8 ((zF 4 : Nat) : Int)], 100)]) (fun _ _ v _ => 5 - (intOf v).toNat)
  case atStart => exact ⟨0, none, Nat.zero_le _, rfl, rfl, rfl, .inl ⟨Nat.zero_le _, rfl⟩, HQ3.out⟩
  case round =>
    clear HQ3
    obtain ⟨k, r, hk, rfl, rfl, rfl, hinv, hq⟩ := hrel
    have HQ := Lib.hid hq
    have HI := Lib.hid hinv
    clear hq hinv
    have hsb := smk_le inh fi (m9_le Z) k
    have hss : smk inh fi (m9 Z) (k + 1) = smk inh fi (m9 Z) k + (if fi ≤ k ∧ al inh k = true then m9 Z k else 0) := rfl
    obtain ⟨s, hs⟩ : ∃ s, s = smk inh fi (m9 Z) k := ⟨_, rfl⟩
    have HS := Lib.hid hs
    rw [← hs] at hsb hss ⊢
    have HSS := Lib.hid hss
    clear hs hss
    by_cases h5 : k < 5
    · have b0 := HQ.out.of 0 rfl
      have c0 := cell_of_row _ _ k _ _ _ b0
      rw [fi_at Z h5] at c0
      have b1 := HQ.out.of 1 rfl
      have c1 := cell_of_row _ _ k _ _ _ b1
      rw [ld_lim _ zF h5] at c1
      have f1 := frozen_of_row _ _ k _ _ b1
      obtain ⟨x, hx⟩ : ∃ x, x = Z k % 9 := ⟨_, rfl⟩
      have hx8 : x ≤ 8 := by omega
      have ex : (Z k : Int) % 9 = (x : Int) := by omega
      have hv := HQ.out.set 1 rfl k (.int .u8 ((Z k % 9 : Nat) : Int))
      rw [set_limC _ zF h5, mdL_succ, ← hx] at hv
      have HV := Lib.hid hv
      have EX := Lib.hid ex
      have HX := Lib.hid hx
      clear b0 b1 hv ex hx
      go_upto_region 10 with fail
      rw [EX.out]
      obtain ⟨w4, hw4⟩ : ∃ w4, w4 = wr.setCell ⟨g9, k, none⟩ (.int .u8 (x : Nat)) := ⟨_, rfl⟩
      rw [← hw4]
      have hV : Bq w w4 [(g4, #[.int .u8 ((Z 0 : Nat) : Int), .int .u8 ((Z 1 : Nat) : Int), .int .u8 ((Z 2 : Nat) : Int), .int .u8 ((Z 3 : Nat) : Int), .int .u8 ((Z 4 : Nat) : Int)], 98), (g9, #[.int .u8 ((mdL Z (k + 1) 0 : Nat) : Int), .int .u8 ((mdL Z (k + 1) 1 : Nat) : Int), .int .u8 ((mdL Z (k + 1) 2 : Nat) : Int), .int .u8 ((mdL Z (k + 1) 3 : Nat) : Int), .int .u8 ((mdL Z (k + 1) 4 : Nat) : Int), .int .u8 ((zF 0 : Nat) : Int), .int .u8 ((zF 1 : Nat) : Int), .int .u8 ((zF 2 : Nat) : Int), .int .u8 ((zF 3 : Nat) : Int), .int .u8 ((zF 4 : Nat) : Int)], 100)] := by rw [hw4]; exact HV.out
      have b1 := hV.of 1 rfl
      have c2 := cell_of_row _ _ k _ _ _ b1
      rw [ld_lim _ zF h5, show mdL Z (k + 1) k = x by rw [HX.out]; exact if_pos (by omega)] at c2
      have HV2 := Lib.hid hV
      clear hV b1 c0 c1 f1 hw4 HV HQ
      have hxm : m9 Z k = x := HX.out.symm
      by_cases hfk : fi ≤ k
      · have hT : tp inh (5 - k) r = tp inh (5 - fi) none := by
          rcases HI.out with ⟨h1, h2⟩ | ⟨_, h2⟩
          · rw [h2, show k = fi by omega]
          · exact h2
        have hts := tp_step inh h5 r
        rw [hT] at hts
        have HTS := Lib.hid hts
        have HXM := Lib.hid hxm
        clear hT hts hxm
        go_wp2_with fail
        go_at_call 51
        refine (rAllowed_any inh k _ hinh h5).mono ?_
        rintro e w' ⟨rfl, rfl⟩
        cases ha : al inh k
        · have hn : smk inh fi (m9 Z) (k + 1) = s := by rw [HSS.out, if_neg (fun h => by rw [ha] at h; cases h.2)]; omega
          have ht : tp inh (5 - (k + 1)) r = tp inh (5 - fi) none := by rw [HTS.out, ha]; rfl
          have HN := Lib.hid hn
          have HT := Lib.hid ht
          clear ha hn ht c2
          go_wp2
          go_roundw
          case rel => exact ⟨k + 1, r, by omega, by go_num, by rw [HN.out], rfl, .inr ⟨by omega, HT.out⟩, HV2.out⟩
          case measure => simp [intOf]; omega
        · have hn : smk inh fi (m9 Z) (k + 1) = s + x := by rw [HSS.out, if_pos ⟨hfk, ha⟩, HXM.out]
          have ht : tp inh (5 - (k + 1)) (some k) = tp inh (5 - fi) none := by rw [HTS.out, if_pos ha]
          have HN := Lib.hid hn
          have HT := Lib.hid ht
          clear ha hn ht
          go_wp2
          go_roundw
          case rel => exact ⟨k + 1, some k, by omega, by go_num, by rw [HN.out]; go_num, rfl, .inr ⟨by omega, HT.out⟩, HV2.out⟩
          case measure => simp [intOf]; omega
      · have hn : smk inh fi (m9 Z) (k + 1) = s := by rw [HSS.out, if_neg (fun h => hfk h.1)]; omega
        have hr : r = none := by
          rcases HI.out with ⟨_, h2⟩ | ⟨h1, _⟩
          · exact h2
          · omega
        have HN := Lib.hid hn
        have HR := Lib.hid hr
        clear hn hr c2 hxm
        go_wp2
        go_roundw
        case rel => exact ⟨k + 1, r, by omega, by go_num, by rw [HN.out], rfl, .inl ⟨by omega, HR.out⟩, HV2.out⟩
        case measure => simp [intOf]; omega
    · obtain rfl : k = 5 := by omega
      obtain ⟨T, hT⟩ : ∃ T, T = tp inh (5 - fi) none := ⟨_, rfl⟩
      have hr : r = T := by
        rcases HI.out with ⟨h1, _⟩ | ⟨_, h2⟩
        · omega
        · rw [hT, ← h2]; rfl
      subst hr
      have hle : (#[.int .u8 ((mdL Z 5 0 : Nat) : Int), .int .u8 ((mdL Z 5 1 : Nat) : Int), .int .u8 ((mdL Z 5 2 : Nat) : Int), .int .u8 ((mdL Z 5 3 : Nat) : Int), .int .u8 ((mdL Z 5 4 : Nat) : Int), .int .u8 ((zF 0 : Nat) : Int), .int .u8 ((zF 1 : Nat) : Int), .int .u8 ((zF 2 : Nat) : Int), .int .u8 ((zF 3 : Nat) : Int), .int .u8 ((zF 4 : Nat) : Int)] : Array Value) = #[.int .u8 ((m9 Z 0 : Nat) : Int), .int .u8 ((m9 Z 1 : Nat) : Int), .int .u8 ((m9 Z 2 : Nat) : Int), .int .u8 ((m9 Z 3 : Nat) : Int), .int .u8 ((m9 Z 4 : Nat) : Int), .int .u8 ((zF 0 : Nat) : Int), .int .u8 ((zF 1 : Nat) : Int), .int .u8 ((zF 2 : Nat) : Int), .int .u8 ((zF 3 : Nat) : Int), .int .u8 ((zF 4 : Nat) : Int)] := ld_ext (fun j hj => mdL_all Z hj)
      have hq := HQ.out
      rw [hle] at hq
      have HQ4 := Lib.hid hq
      have HT := Lib.hid hT
      clear hT hle hq HQ HI HSS hk h5
      go_upto_region 16 with fail
      have HQ5 := Lib.hid (show Bq w (wr.alloc (.cells #[.int .i64 0, .int .i64 0, .int .i64 0, .int .i64 0, .int .i64 0] 107)) [(g4, #[.int .u8 ((Z 0 : Nat) : Int), .int .u8 ((Z 1 : Nat) : Int), .int .u8 ((Z 2 : Nat) : Int), .int .u8 ((Z 3 : Nat) : Int), .int .u8 ((Z 4 : Nat) : Int)], 98), (g9, #[.int .u8 ((m9 Z 0 : Nat) : Int), .int .u8 ((m9 Z 1 : Nat) : Int), .int .u8 ((m9 Z 2 : Nat) : Int), .int .u8 ((m9 Z 3 : Nat) : Int), .int .u8 ((m9 Z 4 : Nat) : Int), .int .u8 ((zF 0 : Nat) : Int), .int .u8 ((zF 1 : Nat) : Int), .int .u8 ((zF 2 : Nat) : Int), .int .u8 ((zF 3 : Nat) : Int), .int .u8 ((zF 4 : Nat) : Int)], 100), (wr.heap.size, #[.int .i64 ((zF 0 : Nat) : Int), .int .i64 ((zF 1 : Nat) : Int), .int .i64 ((zF 2 : Nat) : Int), .int .i64 ((zF 3 : Nat) : Int), .int .i64 ((zF 4 : Nat) : Int)], 107)] from HQ4.out.new #[.int .i64 ((zF 0 : Nat) : Int), .int .i64 ((zF 1 : Nat) : Int), .int .i64 ((zF 2 : Nat) : Int), .int .i64 ((zF 3 : Nat) : Int), .int .i64 ((zF 4 : Nat) : Int)] 107)
      obtain ⟨w5, hw5⟩ : ∃ w5, w5 = wr.alloc (.cells #[.int .i64 0, .int .i64 0, .int .i64 0, .int .i64 0, .int .i64 0] 107) := ⟨_, rfl⟩
      obtain ⟨g15, hg15⟩ : ∃ g, g = wr.heap.size := ⟨_, rfl⟩
      rw [← hw5, ← hg15] at HQ5
      rw [← hw5, ← hg15]
      clear hw5 hg15 HQ4
      obtain ⟨q, hq⟩ : ∃ q, q = mo % 8 := ⟨_, rfl⟩
      have e2 : (mo : Int) % 8 = (q : Int) := by omega
      have hq7 : q ≤ 7 := by omega
      have hsum : s = smk inh fi (m9 Z) 5 := HS.out
      have HSUM := Lib.hid hsum
      clear hq hsum HS
      have hcl0 := Clm.start inh fi (m9 Z) HF.out
      rw [← HT.out] at hcl0
      have HC0 := Lib.hid (show Clm inh fi (m9 Z) zF r fi 0 from hcl0)
      clear hcl0
      go_wp2_with fail
      go_loopw [14, 16] (fun v14 v16 wx => ∃ (n : Nat → Nat) (last i : Nat), v14 = .int .i64 (last : Nat) ∧ v16 = .int .i64 (i : Nat) ∧ i ≤ s + q ∧ Clm inh fi (m9 Z) n r last i ∧ Bq w wx [(g4, #[.int .u8 ((Z 0 : Nat) : Int), .int .u8 ((Z 1 : Nat) : Int), .int .u8 ((Z 2 : Nat) : Int), .int .u8 ((Z 3 : Nat) : Int), .int .u8 ((Z 4 : Nat) : Int)], 98), (g9, #[.int .u8 ((m9 Z 0 : Nat) : Int), .int .u8 ((m9 Z 1 : Nat) : Int), .int .u8 ((m9 Z 2 : Nat) : Int), .int .u8 ((m9 Z 3 : Nat) : Int), .int .u8 ((m9 Z 4 : Nat) : Int), .int .u8 ((n 0 : Nat) : Int), .int .u8 ((n 1 : Nat) : Int), .int .u8 ((n 2 : Nat) : Int), .int .u8 ((n 3 : Nat) : Int), .int .u8 ((n 4 : Nat) : Int)], 100), (g15, #[.int .i64 ((n 0 : Nat) : Int), .int .i64 ((n 1 : Nat) : Int), .int .i64 ((n 2 : Nat) : Int), .int .i64 ((n 3 : Nat) : Int), .int .i64 ((n 4 : Nat) : Int)], 107)]) (fun _ v _ => s + q - (intOf v).toNat)
      case atStart => exact ⟨zF, fi, 0, rfl, rfl, Nat.zero_le _, HC0.out, HQ5.out⟩
      case round =>
        clear HC0 HQ5
        obtain ⟨n, last, i, rfl, rfl, his, hcl, hqq⟩ := hrel
        have HC := Lib.hid hcl
        have HQ6 := Lib.hid hqq
        clear hcl hqq
        by_cases hlt : i < s + q
        · have b9 := HQ6.out.of 1 rfl
          go_wp2_with ((with_reducible show wpList _ _ _ (_ :: _) _ _); refine wpList_load_row rfl 100 _ rfl _ rfl _ _ _ _ b9 Try.underlying100 rfl (by exact size_ld) ?_; (try go_simp))
          have hrs : rsL inh (m9 Z) n fi 3 = act inh (m9 Z) n (5 - fi) none := by
            unfold rsL
            rw [if_pos (show rgt fi 3 = true by unfold rgt; rw [decide_eq_true HF.out]; rfl)]
          cases r with
          | none =>
            have hno : rsL inh (m9 Z) n fi 3 = none := hrs.trans (Clm.none_ (m9 Z) n HF.out HT.out.symm)
            have hi0 : i = 0 := HC.out.z rfl
            refine (Raise_no (m9 Z) n fi 3 0 inh _ (by omega) hinh hno).mono ?_
            rintro e w6 ⟨rfl, hb⟩
            have HQ7 := Lib.hid (HQ6.out.step hb)
            subst hi0
            clear hb hno hrs b9 HQ6 HC his hlt
            skip
            obtain ⟨hq0, q1, q2⟩ := HQ7.out.pair #[.int .u8 0, .int .u8 0, .int .u8 0, .int .u8 0, .int .u8 0, .int .u8 0, .int .u8 0, .int .u8 0, .int .u8 0, .int .u8 0] #[.int .u8 0, .int .i64 0, .int .u8 0] #[.int .u8 ((m9 Z 0 : Nat) : Int), .int .u8 ((m9 Z 1 : Nat) : Int), .int .u8 ((m9 Z 2 : Nat) : Int), .int .u8 ((m9 Z 3 : Nat) : Int), .int .u8 ((m9 Z 4 : Nat) : Int), .int .u8 ((n 0 : Nat) : Int), .int .u8 ((n 1 : Nat) : Int), .int .u8 ((n 2 : Nat) : Int), .int .u8 ((n 3 : Nat) : Int), .int .u8 ((n 4 : Nat) : Int)] #[.int .u8 0, .int .i64 0, .int .u8 0] 100 84
            obtain ⟨wA, hwA⟩ : ∃ xW, (w6.alloc (.cells #[.int .u8 0, .int .u8 0, .int .u8 0, .int .u8 0, .int .u8 0, .int .u8 0, .int .u8 0, .int .u8 0, .int .u8 0, .int .u8 0] 100)).alloc (.cells #[.int .u8 0, .int .i64 0, .int .u8 0] 84) = xW := ⟨_, rfl⟩
            rw [hwA] at hq0 q1 q2
            obtain ⟨wB, hwB⟩ : ∃ xW, wA.setRow w6.heap.size #[.int .u8 ((m9 Z 0 : Nat) : Int), .int .u8 ((m9 Z 1 : Nat) : Int), .int .u8 ((m9 Z 2 : Nat) : Int), .int .u8 ((m9 Z 3 : Nat) : Int), .int .u8 ((m9 Z 4 : Nat) : Int), .int .u8 ((n 0 : Nat) : Int), .int .u8 ((n 1 : Nat) : Int), .int .u8 ((n 2 : Nat) : Int), .int .u8 ((n 3 : Nat) : Int), .int .u8 ((n 4 : Nat) : Int)] = xW := ⟨_, rfl⟩
            rw [hwB] at hq0 q2
            obtain ⟨wC, hwC⟩ : ∃ xW, wB.setRow (w6.heap.size + 1) #[.int .u8 0, .int .i64 0, .int .u8 0] = xW := ⟨_, rfl⟩
            rw [hwC] at hq0
            have HQ8 := Lib.hid hq0
            clear hq0 HQ7
            dsimp only [lvI]
            go_wp2_with (first | ((with_reducible show wpList _ _ _ (_ :: _) _ _); (try rw [hwA]); refine wpList_store_row rfl 100 _ _ rfl _ _ rfl rfl _ _ q1 (by exact size_ld) (by rfl) (by simp [Value.oneCell']) ?_; rw [hwB]) | ((with_reducible show wpList _ _ _ (_ :: _) _ _); refine wpList_store_row rfl 84 _ _ rfl _ _ rfl rfl _ _ q2 (by exact size_al) (by rfl) (by simp [Value.oneCell']) ?_; rw [hwC]))
            go_ret
            exact ⟨rfl, HQ8.out.be⟩
          | some t =>
            obtain ⟨k, hk1, hk5, hkl, hka, hks, hkM, hcn⟩ := HC.out.step HF.out HT.out rfl
            have hyes : rsL inh (m9 Z) n fi 3 = some k := hrs.trans hk1
            have hnb : ∀ j, n j ≤ 47 := fun j => by have := HC.out.c j; omega
            refine (Raise_yes (m9 Z) n fi 3 0 inh k _ (by omega) hinh (fun j _ => by have := hnb j; omega) hyes).mono ?_
            rintro e w6 ⟨rfl, hb⟩
            have hbu : bump n k = upd n k (n k + 1) := if_pos (by have := hnb k; omega)
            rw [hbu]
            have HQ7 := Lib.hid (HQ6.out.step hb)
            have HKS := Lib.hid hks
            have HKM := Lib.hid hkM
            have HCN := Lib.hid hcn
            have hnk := hnb k
            clear hb hyes hrs b9 HQ6 hk1 hks hkM hcn hbu hnb
            skip
            obtain ⟨hq0, q1, q2⟩ := HQ7.out.pair #[.int .u8 0, .int .u8 0, .int .u8 0, .int .u8 0, .int .u8 0, .int .u8 0, .int .u8 0, .int .u8 0, .int .u8 0, .int .u8 0] #[.int .u8 0, .int .i64 0, .int .u8 0] #[.int .u8 ((m9 Z 0 : Nat) : Int), .int .u8 ((m9 Z 1 : Nat) : Int), .int .u8 ((m9 Z 2 : Nat) : Int), .int .u8 ((m9 Z 3 : Nat) : Int), .int .u8 ((m9 Z 4 : Nat) : Int), .int .u8 ((upd n k (n k + 1) 0 : Nat) : Int), .int .u8 ((upd n k (n k + 1) 1 : Nat) : Int), .int .u8 ((upd n k (n k + 1) 2 : Nat) : Int), .int .u8 ((upd n k (n k + 1) 3 : Nat) : Int), .int .u8 ((upd n k (n k + 1) 4 : Nat) : Int)] #[.int .u8 (k : Nat), .int .i64 3, .int .u8 0] 100 84
            obtain ⟨wA, hwA⟩ : ∃ xW, (w6.alloc (.cells #[.int .u8 0, .int .u8 0, .int .u8 0, .int .u8 0, .int .u8 0, .int .u8 0, .int .u8 0, .int .u8 0, .int .u8 0, .int .u8 0] 100)).alloc (.cells #[.int .u8 0, .int .i64 0, .int .u8 0] 84) = xW := ⟨_, rfl⟩
            rw [hwA] at hq0 q1 q2
            obtain ⟨wB, hwB⟩ : ∃ xW, wA.setRow w6.heap.size #[.int .u8 ((m9 Z 0 : Nat) : Int), .int .u8 ((m9 Z 1 : Nat) : Int), .int .u8 ((m9 Z 2 : Nat) : Int), .int .u8 ((m9 Z 3 : Nat) : Int), .int .u8 ((m9 Z 4 : Nat) : Int), .int .u8 ((upd n k (n k + 1) 0 : Nat) : Int), .int .u8 ((upd n k (n k + 1) 1 : Nat) : Int), .int .u8 ((upd n k (n k + 1) 2 : Nat) : Int), .int .u8 ((upd n k (n k + 1) 3 : Nat) : Int), .int .u8 ((upd n k (n k + 1) 4 : Nat) : Int)] = xW := ⟨_, rfl⟩
            rw [hwB] at hq0 q2
            obtain ⟨wC, hwC⟩ : ∃ xW, wB.setRow (w6.heap.size + 1) #[.int .u8 (k : Nat), .int .i64 3, .int .u8 0] = xW := ⟨_, rfl⟩
            rw [hwC] at hq0
            have HQ8 := Lib.hid hq0
            clear hq0 HQ7
            dsimp only [lvI]
            go_upto_region 20 with (first | ((with_reducible show wpList _ _ _ (_ :: _) _ _); (try rw [hwA]); refine wpList_store_row rfl 100 _ _ rfl _ _ rfl rfl _ _ q1 (by exact size_ld) (by rfl) (by simp [Value.oneCell']) ?_; rw [hwB]) | ((with_reducible show wpList _ _ _ (_ :: _) _ _); refine wpList_store_row rfl 84 _ _ rfl _ _ rfl rfl _ _ q2 (by exact size_al) (by rfl) (by simp [Value.oneCell']) ?_; rw [hwC]))
            clear q1 q2 hwA hwB hwC
            obtain ⟨w7, hw7⟩ : ∃ w7, w7 = wC := ⟨_, rfl⟩
            obtain ⟨g18, hg18⟩ : ∃ g, g = w6.heap.size + 1 := ⟨_, rfl⟩
            rw [← hw7, ← hg18] at HQ8
            rw [← hw7, ← hg18]
            obtain ⟨g17, hg17⟩ : ∃ g, g = w6.heap.size := ⟨_, rfl⟩
            rw [← hg17] at HQ8
            rw [← hg17]
            clear hw7 hg18 hg17
            have b18 := HQ8.out.of 4 rfl
            have c18 := cell_of_row _ _ 0 _ _ _ b18
            clear b18
            have hA := fun w => rAllowed_any inh k w hinh hk5
            rw [hka] at hA
            have HAL := Lib.hid hA
            clear hA hka
            go_upto_region 23 with fail
            go_cut [103] (fun c wx => c = .bool false ∧ wx = w7)
            case first =>
              by_cases hsi : s ≤ i
              · have hkt : ((k : Int) != (t : Int)) = false := by rw [HKS.out (by rw [← HSUM.out]; exact hsi)]; simp
                go_wp2_with (go_at_call 51; refine (HAL.out _).mono ?_; rintro e w' ⟨rfl, rfl⟩)
                go_meet
                case rel => exact ⟨by first | rfl | rw [decide_eq_false (by omega)], rfl⟩
              · go_wp2_with (go_at_call 51; refine (HAL.out _).mono ?_; rintro e w' ⟨rfl, rfl⟩)
                go_meet
                case rel => exact ⟨by first | rfl | rw [decide_eq_false (by omega)], rfl⟩
            case rest =>
            obtain ⟨rfl, hwc⟩ := hcut
            have hwc2 := hwc.symm
            clear hwc
            subst hwc2
            have b15 := HQ8.out.of 2 rfl
            have c15 := cell_of_row _ _ k _ _ _ b15
            rw [ni_at n hk5] at c15
            have f15 := frozen_of_row _ _ k _ _ b15
            have hv := HQ8.out.set 2 rfl k (.int .i64 ((n k + 1 : Nat) : Int))
            rw [set_ni n hk5] at hv
            have HV := Lib.hid hv
            clear b15 hv c18
            go_upto_region 26 with fail
            have hV : Bq w (w7.setCell ⟨g15, k, none⟩ (.int .i64 ((n k : Int) + 1))) [(g4, #[.int .u8 ((Z 0 : Nat) : Int), .int .u8 ((Z 1 : Nat) : Int), .int .u8 ((Z 2 : Nat) : Int), .int .u8 ((Z 3 : Nat) : Int), .int .u8 ((Z 4 : Nat) : Int)], 98), (g9, #[.int .u8 ((m9 Z 0 : Nat) : Int), .int .u8 ((m9 Z 1 : Nat) : Int), .int .u8 ((m9 Z 2 : Nat) : Int), .int .u8 ((m9 Z 3 : Nat) : Int), .int .u8 ((m9 Z 4 : Nat) : Int), .int .u8 ((n 0 : Nat) : Int), .int .u8 ((n 1 : Nat) : Int), .int .u8 ((n 2 : Nat) : Int), .int .u8 ((n 3 : Nat) : Int), .int .u8 ((n 4 : Nat) : Int)], 100), (g15, #[.int .i64 ((upd n k (n k + 1) 0 : Nat) : Int), .int .i64 ((upd n k (n k + 1) 1 : Nat) : Int), .int .i64 ((upd n k (n k + 1) 2 : Nat) : Int), .int .i64 ((upd n k (n k + 1) 3 : Nat) : Int), .int .i64 ((upd n k (n k + 1) 4 : Nat) : Int)], 107), (g17, #[.int .u8 ((m9 Z 0 : Nat) : Int), .int .u8 ((m9 Z 1 : Nat) : Int), .int .u8 ((m9 Z 2 : Nat) : Int), .int .u8 ((m9 Z 3 : Nat) : Int), .int .u8 ((m9 Z 4 : Nat) : Int), .int .u8 ((upd n k (n k + 1) 0 : Nat) : Int), .int .u8 ((upd n k (n k + 1) 1 : Nat) : Int), .int .u8 ((upd n k (n k + 1) 2 : Nat) : Int), .int .u8 ((upd n k (n k + 1) 3 : Nat) : Int), .int .u8 ((upd n k (n k + 1) 4 : Nat) : Int)], 100), (g18, #[.int .u8 (k : Nat), .int .i64 3, .int .u8 0], 84)] := HV.out
            obtain ⟨w8, hw8⟩ : ∃ w8, w8 = w7.setCell ⟨g15, k, none⟩ (.int .i64 ((n k : Int) + 1)) := ⟨_, rfl⟩
            rw [← hw8] at hV ⊢
            have b15 := hV.of 2 rfl
            have c15 := cell_of_row _ _ k _ _ _ b15
            rw [ni_at _ hk5, upd_at] at c15
            have b9 := hV.of 1 rfl
            have c9 := cell_of_row _ _ k _ _ _ b9
            rw [ld_lim _ n hk5] at c9
            have HQ9 := Lib.hid hV
            clear hV b15 b9 hw8 f15 HV HQ8
            obtain ⟨x, hx⟩ : ∃ x, x = n k + 1 := ⟨_, rfl⟩
            rw [← hx] at c15
            have hxk : k ≠ t → x ≤ m9 Z k := fun h => by rw [hx]; exact HKM.out h
            have hx48 : x ≤ 48 := by omega
            have hm8 := m9_le Z k
            have ex : (n k : Int) + 1 = (x : Int) := by omega
            rw [ex]
            clear hx
            go_cut [122] (fun c wx => c = .bool false ∧ ∃ m, wx = w8.drewN m)
            case first =>
              clear ex
              by_cases hkt : k = t
              · have hb : ((k : Int) != (t : Int)) = false := by rw [hkt]; simp
                clear hxk hkt
                go_quiet (fail)
                go_wp2_with fail
                go_meet
                case rel => exact ⟨by first | rfl | rw [decide_eq_false (by omega)], _, rfl⟩
              · have hb : ((k : Int) != (t : Int)) = true := by simp; omega
                have hle := hxk hkt
                clear hxk hkt
                go_quiet (fail)
                go_wp2_with fail
                go_meet
                case rel => exact ⟨by first | rfl | rw [decide_eq_false (by omega)], _, rfl⟩
            case rest =>
            obtain ⟨rfl, m, hwc⟩ := hcut
            have hQ := HQ9.out.step (bel_drewV w8 m)
            rw [← hwc] at hQ
            have HQA := Lib.hid hQ
            clear hwc hQ HQ9 c15 c9 hxk ex
            go_upto_region 28 with fail
            have b9 : wc.drew.heap[g9]? = _ := HQA.out.of 1 rfl
            have b17 := HQA.out.of 3 rfl
            have hQ : Bq w (wc.drew.setRow g9 #[.int .u8 ((m9 Z 0 : Nat) : Int), .int .u8 ((m9 Z 1 : Nat) : Int), .int .u8 ((m9 Z 2 : Nat) : Int), .int .u8 ((m9 Z 3 : Nat) : Int), .int .u8 ((m9 Z 4 : Nat) : Int), .int .u8 ((upd n k (n k + 1) 0 : Nat) : Int), .int .u8 ((upd n k (n k + 1) 1 : Nat) : Int), .int .u8 ((upd n k (n k + 1) 2 : Nat) : Int), .int .u8 ((upd n k (n k + 1) 3 : Nat) : Int), .int .u8 ((upd n k (n k + 1) 4 : Nat) : Int)]) [(g4, #[.int .u8 ((Z 0 : Nat) : Int), .int .u8 ((Z 1 : Nat) : Int), .int .u8 ((Z 2 : Nat) : Int), .int .u8 ((Z 3 : Nat) : Int), .int .u8 ((Z 4 : Nat) : Int)], 98), (g9, #[.int .u8 ((m9 Z 0 : Nat) : Int), .int .u8 ((m9 Z 1 : Nat) : Int), .int .u8 ((m9 Z 2 : Nat) : Int), .int .u8 ((m9 Z 3 : Nat) : Int), .int .u8 ((m9 Z 4 : Nat) : Int), .int .u8 ((upd n k (n k + 1) 0 : Nat) : Int), .int .u8 ((upd n k (n k + 1) 1 : Nat) : Int), .int .u8 ((upd n k (n k + 1) 2 : Nat) : Int), .int .u8 ((upd n k (n k + 1) 3 : Nat) : Int), .int .u8 ((upd n k (n k + 1) 4 : Nat) : Int)], 100), (g15, #[.int .i64 ((upd n k (n k + 1) 0 : Nat) : Int), .int .i64 ((upd n k (n k + 1) 1 : Nat) : Int), .int .i64 ((upd n k (n k + 1) 2 : Nat) : Int), .int .i64 ((upd n k (n k + 1) 3 : Nat) : Int), .int .i64 ((upd n k (n k + 1) 4 : Nat) : Int)], 107), (g17, #[.int .u8 ((m9 Z 0 : Nat) : Int), .int .u8 ((m9 Z 1 : Nat) : Int), .int .u8 ((m9 Z 2 : Nat) : Int), .int .u8 ((m9 Z 3 : Nat) : Int), .int .u8 ((m9 Z 4 : Nat) : Int), .int .u8 ((upd n k (n k + 1) 0 : Nat) : Int), .int .u8 ((upd n k (n k + 1) 1 : Nat) : Int), .int .u8 ((upd n k (n k + 1) 2 : Nat) : Int), .int .u8 ((upd n k (n k + 1) 3 : Nat) : Int), .int .u8 ((upd n k (n k + 1) 4 : Nat) : Int)], 100), (g18, #[.int .u8 (k : Nat), .int .i64 3, .int .u8 0], 84)] := (HQA.out.step (bel_drewV wc 1)).put 1 rfl #[.int .u8 ((m9 Z 0 : Nat) : Int), .int .u8 ((m9 Z 1 : Nat) : Int), .int .u8 ((m9 Z 2 : Nat) : Int), .int .u8 ((m9 Z 3 : Nat) : Int), .int .u8 ((m9 Z 4 : Nat) : Int), .int .u8 ((upd n k (n k + 1) 0 : Nat) : Int), .int .u8 ((upd n k (n k + 1) 1 : Nat) : Int), .int .u8 ((upd n k (n k + 1) 2 : Nat) : Int), .int .u8 ((upd n k (n k + 1) 3 : Nat) : Int), .int .u8 ((upd n k (n k + 1) 4 : Nat) : Int)]
            have m17 := hQ.of 3 rfl
            have HQB := Lib.hid hQ
            clear hQ HQA
            obtain ⟨I, W, hne, hWI, hIW⟩ := Go.Mix.family (fun v => v.heap[g17]? = some (.cells #[.int .u8 ((m9 Z 0 : Nat) : Int), .int .u8 ((m9 Z 1 : Nat) : Int), .int .u8 ((m9 Z 2 : Nat) : Int), .int .u8 ((m9 Z 3 : Nat) : Int), .int .u8 ((m9 Z 4 : Nat) : Int), .int .u8 ((upd n k (n k + 1) 0 : Nat) : Int), .int .u8 ((upd n k (n k + 1) 1 : Nat) : Int), .int .u8 ((upd n k (n k + 1) 2 : Nat) : Int), .int .u8 ((upd n k (n k + 1) 3 : Nat) : Int), .int .u8 ((upd n k (n k + 1) 4 : Nat) : Int)] 100 (0, 0))) b17
            have HJ := Lib.hid hIW
            have HW := Lib.hid hWI
            clear hWI hIW
            refine Go.Mix.wp_region (fun w' => ∃ i, w' = W i) (by kernel_rfl) (by kernel_rfl) (HJ.out _ b17) ?_
            simp only []
            (repeat (first | (refine Go.Mix.walk_calm rfl ?_ (fun K hK => ?_); (first | exact Go.Mix.wanted_none rfl | exact Go.Mix.wanted_tt rfl rfl rfl | exact Go.Mix.wanted_ff rfl rfl rfl); go_big_quiet_op; refine hK _ ?_; clear hK K) | (refine Go.Mix.walk_skip ?_ (fun K hK => ?_); (first | exact Go.Mix.wanted_tf rfl rfl rfl | exact Go.Mix.wanted_ft rfl rfl rfl); go_simp; refine hK _ ?_; clear hK K) | (refine Go.Mix.walk_loud rfl ?_ (fun K hK => ?_); (first | exact Go.Mix.wanted_none rfl | exact Go.Mix.wanted_tt rfl rfl rfl | exact Go.Mix.wanted_ff rfl rfl rfl); (first | go_big_op | go_simp); (first | (refine hK _ _ trivial ?_; clear hK K) | (fail; (try dsimp only); refine hK _ _ trivial ?_; clear hK K))) | (refine Go.Mix.walk_step (fun K hK => ?_); go_simp; (try (go_ints; try go_simp)); refine hK _ _ ?_; clear hK K)))
            (refine Go.Mix.walk_calm rfl ?_ (fun K hK => ?_); (first | exact Go.Mix.wanted_none rfl | exact Go.Mix.wanted_tt rfl rfl rfl | exact Go.Mix.wanted_ff rfl rfl rfl); refine Go.Flo.quiet_load_row 100 _ rfl _ rfl _ #[.int .u8 ((m9 Z 0 : Nat) : Int), .int .u8 ((m9 Z 1 : Nat) : Int), .int .u8 ((m9 Z 2 : Nat) : Int), .int .u8 ((m9 Z 3 : Nat) : Int), .int .u8 ((m9 Z 4 : Nat) : Int), .int .u8 ((upd n k (n k + 1) 0 : Nat) : Int), .int .u8 ((upd n k (n k + 1) 1 : Nat) : Int), .int .u8 ((upd n k (n k + 1) 2 : Nat) : Int), .int .u8 ((upd n k (n k + 1) 3 : Nat) : Int), .int .u8 ((upd n k (n k + 1) 4 : Nat) : Int)] _ (by rintro _ ⟨i, rfl⟩; exact HW.out i) Try.underlying100 rfl size_ld ?_; go_simp; refine hK _ ?_; clear hK K)
            (repeat (first | (refine Go.Mix.walk_calm rfl ?_ (fun K hK => ?_); (first | exact Go.Mix.wanted_none rfl | exact Go.Mix.wanted_tt rfl rfl rfl | exact Go.Mix.wanted_ff rfl rfl rfl); go_big_quiet_op; refine hK _ ?_; clear hK K) | (refine Go.Mix.walk_skip ?_ (fun K hK => ?_); (first | exact Go.Mix.wanted_tf rfl rfl rfl | exact Go.Mix.wanted_ft rfl rfl rfl); go_simp; refine hK _ ?_; clear hK K) | (refine Go.Mix.walk_loud rfl ?_ (fun K hK => ?_); (first | exact Go.Mix.wanted_none rfl | exact Go.Mix.wanted_tt rfl rfl rfl | exact Go.Mix.wanted_ff rfl rfl rfl); (first | go_big_op | go_simp); (first | (refine hK _ _ trivial ?_; clear hK K) | (fail; (try dsimp only); refine hK _ _ trivial ?_; clear hK K))) | (refine Go.Mix.walk_step (fun K hK => ?_); go_simp; (try (go_ints; try go_simp)); refine hK _ _ ?_; clear hK K)))
            (refine Go.Mix.walk_loud rfl ?_ (fun K hK => ?_); (first | exact Go.Mix.wanted_none rfl | exact Go.Mix.wanted_tt rfl rfl rfl | exact Go.Mix.wanted_ff rfl rfl rfl); refine wp_store_row 100 _ _ rfl _ #[.int .u8 ((m9 Z 0 : Nat) : Int), .int .u8 ((m9 Z 1 : Nat) : Int), .int .u8 ((m9 Z 2 : Nat) : Int), .int .u8 ((m9 Z 3 : Nat) : Int), .int .u8 ((m9 Z 4 : Nat) : Int), .int .u8 ((upd n k (n k + 1) 0 : Nat) : Int), .int .u8 ((upd n k (n k + 1) 1 : Nat) : Int), .int .u8 ((upd n k (n k + 1) 2 : Nat) : Int), .int .u8 ((upd n k (n k + 1) 3 : Nat) : Int), .int .u8 ((upd n k (n k + 1) 4 : Nat) : Int)] rfl rfl 100 _ b9 size_ld rfl (by simp [Value.oneCell']) (hK _ _ (HJ.out _ m17) ?_); clear hK K)
            refine Go.Mix.walk_nil ?_
            obtain ⟨wd, hwd⟩ : ∃ wd, wd = ({ heap := wc.heap, tape := wc.tape, drawn := wc.drawn + 1, os := wc.os, output := wc.output } : World).setRow g9 #[.int .u8 ((m9 Z 0 : Nat) : Int), .int .u8 ((m9 Z 1 : Nat) : Int), .int .u8 ((m9 Z 2 : Nat) : Int), .int .u8 ((m9 Z 3 : Nat) : Int), .int .u8 ((m9 Z 4 : Nat) : Int), .int .u8 ((upd n k (n k + 1) 0 : Nat) : Int), .int .u8 ((upd n k (n k + 1) 1 : Nat) : Int), .int .u8 ((upd n k (n k + 1) 2 : Nat) : Int), .int .u8 ((upd n k (n k + 1) 3 : Nat) : Int), .int .u8 ((upd n k (n k + 1) 4 : Nat) : Int)] := ⟨_, rfl⟩
            have hQ : Bq w wd [(g4, #[.int .u8 ((Z 0 : Nat) : Int), .int .u8 ((Z 1 : Nat) : Int), .int .u8 ((Z 2 : Nat) : Int), .int .u8 ((Z 3 : Nat) : Int), .int .u8 ((Z 4 : Nat) : Int)], 98), (g9, #[.int .u8 ((m9 Z 0 : Nat) : Int), .int .u8 ((m9 Z 1 : Nat) : Int), .int .u8 ((m9 Z 2 : Nat) : Int), .int .u8 ((m9 Z 3 : Nat) : Int), .int .u8 ((m9 Z 4 : Nat) : Int), .int .u8 ((upd n k (n k + 1) 0 : Nat) : Int), .int .u8 ((upd n k (n k + 1) 1 : Nat) : Int), .int .u8 ((upd n k (n k + 1) 2 : Nat) : Int), .int .u8 ((upd n k (n k + 1) 3 : Nat) : Int), .int .u8 ((upd n k (n k + 1) 4 : Nat) : Int)], 100), (g15, #[.int .i64 ((upd n k (n k + 1) 0 : Nat) : Int), .int .i64 ((upd n k (n k + 1) 1 : Nat) : Int), .int .i64 ((upd n k (n k + 1) 2 : Nat) : Int), .int .i64 ((upd n k (n k + 1) 3 : Nat) : Int), .int .i64 ((upd n k (n k + 1) 4 : Nat) : Int)], 107)] := by
              rw [hwd]
              have h9 : Bq w _ ([(g4, #[.int .u8 ((Z 0 : Nat) : Int), .int .u8 ((Z 1 : Nat) : Int), .int .u8 ((Z 2 : Nat) : Int), .int .u8 ((Z 3 : Nat) : Int), .int .u8 ((Z 4 : Nat) : Int)], 98), (g9, #[.int .u8 ((m9 Z 0 : Nat) : Int), .int .u8 ((m9 Z 1 : Nat) : Int), .int .u8 ((m9 Z 2 : Nat) : Int), .int .u8 ((m9 Z 3 : Nat) : Int), .int .u8 ((m9 Z 4 : Nat) : Int), .int .u8 ((upd n k (n k + 1) 0 : Nat) : Int), .int .u8 ((upd n k (n k + 1) 1 : Nat) : Int), .int .u8 ((upd n k (n k + 1) 2 : Nat) : Int), .int .u8 ((upd n k (n k + 1) 3 : Nat) : Int), .int .u8 ((upd n k (n k + 1) 4 : Nat) : Int)], 100), (g15, #[.int .i64 ((upd n k (n k + 1) 0 : Nat) : Int), .int .i64 ((upd n k (n k + 1) 1 : Nat) : Int), .int .i64 ((upd n k (n k + 1) 2 : Nat) : Int), .int .i64 ((upd n k (n k + 1) 3 : Nat) : Int), .int .i64 ((upd n k (n k + 1) 4 : Nat) : Int)], 107)] ++ [(g17, #[.int .u8 ((m9 Z 0 : Nat) : Int), .int .u8 ((m9 Z 1 : Nat) : Int), .int .u8 ((m9 Z 2 : Nat) : Int), .int .u8 ((m9 Z 3 : Nat) : Int), .int .u8 ((m9 Z 4 : Nat) : Int), .int .u8 ((upd n k (n k + 1) 0 : Nat) : Int), .int .u8 ((upd n k (n k + 1) 1 : Nat) : Int), .int .u8 ((upd n k (n k + 1) 2 : Nat) : Int), .int .u8 ((upd n k (n k + 1) 3 : Nat) : Int), .int .u8 ((upd n k (n k + 1) 4 : Nat) : Int)], 100), (g18, #[.int .u8 (k : Nat), .int .i64 3, .int .u8 0], 84)]) := HQB.out
              exact h9.front
            rw [← hwd]
            have HQC := Lib.hid hQ
            clear hQ HQB hwd HJ HW hne b9 b17 m17
            clear W I
            go_wp2_with fail
            go_roundw
            case rel => (repeat apply Exists.intro); exact ⟨⟨upd n k (n k + 1), k, i + 1, rfl, by go_num, by omega, HCN.out, HQC.out⟩, rfl⟩
            case measure => simp [intOf]; omega
        · clear his
          go_wp2
          go_ret
          exact ⟨rfl, HQ6.out.be⟩
end Go.Proofs.Ytinaimacocgemaa
