/- Layer 18: maps that may be. -/
import Derived.Test.YtioclbkgfbjpdaaSw5
namespace Go.Proofs.Ytioclbkgfbjpdaa
open Go.RowKit Go.Own Bs
set_option linter.unusedVariables false
set_option linter.unusedSimpArgs false
/-- Are the roles' units apart? -/
def rightL : List Nat → Nat → Bool
  | [], _ => true
  | u :: l, t => if t &&& u = 0 then rightL l (t ||| u) else false
theorem zero_role (w : World) : (zeroValue 100).run Try.prog w = .ok (.agg #[.int .u16 0]) w := by kernel_rfl
set_option maxRecDepth 100000 in
set_option maxHeartbeats 4000000 in
theorem Right_any (a : Option Addr) (len cap n : Nat) (l : List Nat) (lk : Nat → Nat) (w : World) (hl : l.length = len) (hv : ∀ t ∈ l, t < 65536) (hn : n ≤ w.heap.size) (hr : Rd n w a len cap (sv l)) :
    Calls Try.prog 33 #[.agg #[.slice a len cap, .int .u16 ((lk 0 : Nat) : Int), .int .u16 ((lk 1 : Nat) : Int), .int .u16 ((lk 2 : Nat) : Int), .int .u16 ((lk 3 : Nat) : Int), .int .u16 ((lk 4 : Nat) : Int), .int .u16 ((lk 5 : Nat) : Int), .int .u16 ((lk 6 : Nat) : Int), .int .u16 ((lk 7 : Nat) : Int), .int .u16 ((lk 8 : Nat) : Int), .int .u16 ((lk 9 : Nat) : Int), .int .u16 ((lk 10 : Nat) : Int), .int .u16 ((lk 11 : Nat) : Int), .int .u16 ((lk 12 : Nat) : Int), .int .u16 ((lk 13 : Nat) : Int), .int .u16 ((lk 14 : Nat) : Int), .int .u16 ((lk 15 : Nat) : Int)]] w fun e w' => e = .returned (.bool (rightL l 0 && decide (len ≤ 6))) ∧ Below w.heap.size w w' := by
  have h1 := hr.le
  have h2 := hr.top
  unfold maxLen at h2
  have HR := Lib.hid hr
  have HV := Lib.hid hv
  have HN := Lib.hid hn
  have h0 := heap_alloc_new w (.cells #[.slice a len cap, .int .u16 ((lk 0 : Nat) : Int), .int .u16 ((lk 1 : Nat) : Int), .int .u16 ((lk 2 : Nat) : Int), .int .u16 ((lk 3 : Nat) : Int), .int .u16 ((lk 4 : Nat) : Int), .int .u16 ((lk 5 : Nat) : Int), .int .u16 ((lk 6 : Nat) : Int), .int .u16 ((lk 7 : Nat) : Int), .int .u16 ((lk 8 : Nat) : Int), .int .u16 ((lk 9 : Nat) : Int), .int .u16 ((lk 10 : Nat) : Int), .int .u16 ((lk 11 : Nat) : Int), .int .u16 ((lk 12 : Nat) : Int), .int .u16 ((lk 13 : Nat) : Int), .int .u16 ((lk 14 : Nat) : Int), .int .u16 ((lk 15 : Nat) : Int)] 65)
  have hb0 : Below w.heap.size w (w.alloc (.cells #[.slice a len cap, .int .u16 ((lk 0 : Nat) : Int), .int .u16 ((lk 1 : Nat) : Int), .int .u16 ((lk 2 : Nat) : Int), .int .u16 ((lk 3 : Nat) : Int), .int .u16 ((lk 4 : Nat) : Int), .int .u16 ((lk 5 : Nat) : Int), .int .u16 ((lk 6 : Nat) : Int), .int .u16 ((lk 7 : Nat) : Int), .int .u16 ((lk 8 : Nat) : Int), .int .u16 ((lk 9 : Nat) : Int), .int .u16 ((lk 10 : Nat) : Int), .int .u16 ((lk 11 : Nat) : Int), .int .u16 ((lk 12 : Nat) : Int), .int .u16 ((lk 13 : Nat) : Int), .int .u16 ((lk 14 : Nat) : Int), .int .u16 ((lk 15 : Nat) : Int)] 65)) := (Below.refl _ _).alloc (Nat.le_refl _) _
  clear hr hv hn
  go_enter Try.func33, Try.ntmps33
  go_upto_region 1 with fail
  obtain ⟨w1, hw1⟩ : ∃ w1, w1 = w.alloc (.cells #[.slice a len cap, .int .u16 ((lk 0 : Nat) : Int), .int .u16 ((lk 1 : Nat) : Int), .int .u16 ((lk 2 : Nat) : Int), .int .u16 ((lk 3 : Nat) : Int), .int .u16 ((lk 4 : Nat) : Int), .int .u16 ((lk 5 : Nat) : Int), .int .u16 ((lk 6 : Nat) : Int), .int .u16 ((lk 7 : Nat) : Int), .int .u16 ((lk 8 : Nat) : Int), .int .u16 ((lk 9 : Nat) : Int), .int .u16 ((lk 10 : Nat) : Int), .int .u16 ((lk 11 : Nat) : Int), .int .u16 ((lk 12 : Nat) : Int), .int .u16 ((lk 13 : Nat) : Int), .int .u16 ((lk 14 : Nat) : Int), .int .u16 ((lk 15 : Nat) : Int)] 65) := ⟨_, rfl⟩
  obtain ⟨g, hg⟩ : ∃ g, g = w.heap.size := ⟨_, rfl⟩
  rw [← hw1] at h0 hb0 ⊢
  rw [← hg] at h0 ⊢
  have HB := Lib.hid hb0
  have H0 := Lib.hid h0
  have hgz := box_lt h0
  have k0 := cell_of_row _ g 0 _ _ _ h0
  simp at k0
  clear hw1 hb0 h0 hg
  go_wp2_with fail
  obtain ⟨res, hres⟩ : ∃ res, res = rightL l 0 := ⟨_, rfl⟩
  go_loopw [3, 9] (fun v i wr => ∃ k t : Nat, k ≤ len ∧ t < 65536 ∧ i = .int .i64 k ∧ v = .int .u16 (t : Nat) ∧ res = rightL (l.drop k) t ∧ Below w1.heap.size w1 wr) (fun _ i _ => len - (intOf i).toNat)
  case atStart => exact ⟨0, 0, Nat.zero_le _, by omega, rfl, rfl, hres, Below.refl _ _⟩
  case round =>
    obtain ⟨k, t, hk, ht, rfl, rfl, hq, hB⟩ := hrel
    have HBB := Lib.hid hB
    have HRES := Lib.hid hres
    have k0 := (hB.cell (p := ⟨g, 0, none⟩) hgz).trans k0
    clear hB hres
    by_cases hlt : k < len
    · have hbw := HB.out.trans (HBB.out.mono HB.out.size)
      obtain ⟨b, off, rfl, hbn, hc⟩ := HR.out.at hlt
      have hc := (hbw.cell (p := ⟨b, off + k, none⟩) (show b < w.heap.size by have := HN.out; omega)).trans hc
      unfold sv at hc
      have hy : l.getD k 0 < 65536 := HV.out _ (by
        unfold List.getD
        rw [List.getElem?_eq_getElem (show k < l.length by omega)]
        exact List.getElem_mem _)
      have hd : l.drop k = l.getD k 0 :: l.drop (k + 1) := by
        rw [List.drop_eq_getElem_cons (show k < l.length by omega)]
        simp [List.getD, show k < l.length by omega]
      rw [hd] at hq
      obtain ⟨u, hu⟩ : ∃ u, u = l.getD k 0 := ⟨_, rfl⟩
      rw [← hu] at hc hy hq
      have HQ := Lib.hid hq
      have HBW := Lib.hid hbw
      obtain ⟨q, hqq⟩ : ∃ q, q = t &&& u := ⟨_, rfl⟩
      have HQQ := Lib.hid hqq
      have hzr := zero_role
      have hal : Below wr.heap.size wr (wr.alloc (.cells #[.int .u16 (u : Nat)] 100)) := (Below.refl _ _).alloc (Nat.le_refl _) _
      have HAL := Lib.hid hal
      have hbx := heap_alloc_new wr (.cells #[.int .u16 (u : Nat)] 100)
      have HBX := Lib.hid hbx
      clear hd hq hbw hu hqq hal hbx
      go_wp2_with fail
      obtain ⟨w2, hw2⟩ : ∃ w2, w2 = wr.alloc (.cells #[.int .u16 (u : Nat)] 100) := ⟨_, rfl⟩
      have HX2 := Lib.hid (show w2.heap[wr.heap.size]? = some (.cells #[.int .u16 (u : Nat)] 100 (0, 0)) by rw [hw2]; exact HBX.out)
      have HL2 := Lib.hid (show Below wr.heap.size wr w2 by rw [hw2]; exact HAL.out)
      rw [← hw2]
      obtain ⟨gu, hgu⟩ : ∃ g, g = wr.heap.size := ⟨_, rfl⟩
      rw [← hgu] at HX2 ⊢
      clear hw2 hgu
      have ku := cell_of_row _ gu 0 _ _ _ HX2.out
      simp at ku
      go_at_call 38
      refine (And_any t u _ ht hy).mono ?_
      rintro e w3 ⟨rfl, rfl⟩
      rw [← HQQ.out]
      by_cases hz : q = 0
      · have hz1 : ((q : Int) != 0) = false := by simp [hz]
        have hqr : res = rightL (l.drop (k + 1)) (t ||| u) := by
          rw [HQ.out]
          show (if t &&& u = 0 then _ else _) = _
          rw [← HQQ.out, if_pos hz]
        have eo : orS t [u] = t ||| u := by simp [orS]
        have htu : t ||| u < 65536 := Nat.or_lt_two_pow (n := 16) ht hy
        obtain ⟨t', ht'⟩ : ∃ t', t' = t ||| u := ⟨_, rfl⟩
        rw [← ht'] at hqr eo htu
        have hal : Below w2.heap.size w2 (w2.alloc (.cells #[.int .u16 (u : Nat)] 61)) := (Below.refl _ _).alloc (Nat.le_refl _) _
        have HB4 := Lib.hid (HBB.out.trans ((HL2.out.trans (hal.mono HL2.out.size)).mono HBB.out.size))
        have HQR := Lib.hid hqr
        have EO := Lib.hid eo
        clear hz hqr eo ht' hal
        go_wp2_with fail
        go_at_call 48
        refine (Or_any _ 1 1 _ t [u] _ ht rfl (fun z hz => by simp at hz; omega) (Nat.le_refl _) (rd_set (heap_alloc_new _ _))).mono ?_
        rintro e w4 ⟨rfl, rfl⟩
        rw [EO.out]
        go_wp2_with fail
        go_roundw
        case rel => exact ⟨k + 1, t', by omega, htu, by go_num, rfl, HQR.out, HB4.out⟩
        case measure => simp [intOf]; omega
      · have hz1 : ((q : Int) != 0) = true := by simp only [bne_iff_ne]; omega
        have hqr : res = false := by
          rw [HQ.out]
          show (if t &&& u = 0 then _ else _) = _
          rw [← HQQ.out, if_neg hz]
        have HQR := Lib.hid hqr
        have HB4 := Lib.hid (HBB.out.trans (HL2.out.mono HBB.out.size))
        clear hz hqr
        go_wp2_with fail
        go_ret
        exact ⟨by rw [← HRES.out, HQR.out]; rfl, HB.out.trans (HB4.out.mono HB.out.size)⟩
    · obtain rfl : k = len := by omega
      rw [List.drop_eq_nil_of_le (by omega)] at hq
      have HQ := Lib.hid hq
      clear hq
      by_cases h6 : k ≤ 6
      · have hd : decide ((k : Int) ≤ 6) = true := decide_eq_true (by omega)
        have H6 := Lib.hid (decide_eq_true h6)
        clear h6
        go_wp2_with fail
        go_ret
        exact ⟨by rw [← HRES.out, HQ.out, H6.out]; rfl, HB.out.trans (HBB.out.mono HB.out.size)⟩
      · have hd : decide ((k : Int) ≤ 6) = false := decide_eq_false (by omega)
        have H6 := Lib.hid (decide_eq_false h6)
        clear h6
        go_wp2_with fail
        go_ret
        exact ⟨by rw [← HRES.out, HQ.out, H6.out]; rfl, HB.out.trans (HBB.out.mono HB.out.size)⟩
end Go.Proofs.Ytioclbkgfbjpdaa
