/- PacketLong, walked. -/
import Derived.Test.YtdaknifdhhmlkaaPk5
import Derived.Test.YtdaknifdhhmlkaaPk6
import Derived.Test.YtdaknifdhhmlkaaLaw06l
namespace Go.Proofs.Ytdaknifdhhmlkaa
open Go.RowKit Go.Own
set_option linter.unusedVariables false
set_option linter.unusedSimpArgs false

theorem psize_app {K l : List Nat} (h : 6 ≤ K.length) : psize (K ++ l) = psize K := by
  unfold psize
  simp only [List.getD]
  rw [List.getElem?_append_left (by omega), List.getElem?_append_left (by omega)]
/-- Packets behind one another are parted in one way. -/
theorem split_uniq : ∀ (Ks Ls : List (List Nat)) (r rest : List Nat), (∀ x ∈ Ks, psize x + 7 = x.length) → (∀ x ∈ Ls, psize x + 7 = x.length) → (r.length < 6 ∨ r.length < psize r + 7) → Ls.flatten ++ r = Ks.flatten ++ rest → ∃ Ls', Ls = Ks ++ Ls' ∧ Ls'.flatten ++ r = rest
  | [], Ls, r, rest, _, _, _, h => ⟨Ls, rfl, by simpa using h⟩
  | K :: Ks, Ls, r, rest, hK, hL, hr, h => by
    have k1 := hK K (by simp)
    have e1 : (K :: Ks).flatten ++ rest = K ++ (Ks.flatten ++ rest) := by simp
    rw [e1] at h
    cases Ls with
    | nil =>
      exfalso
      simp at h
      have h1 : psize r = psize K := by rw [h, psize_app (by omega)]
      have h2 : r.length = K.length + (Ks.flatten ++ rest).length := by rw [h, List.length_append]
      omega
    | cons L Ls =>
      have l1 := hL L (by simp)
      have e2 : (L :: Ls).flatten ++ r = L ++ (Ls.flatten ++ r) := by simp
      rw [e2] at h
      have h1 : psize L = psize K := by
        have a := psize_app (K := L) (l := Ls.flatten ++ r) (by omega)
        have b := psize_app (K := K) (l := Ks.flatten ++ rest) (by omega)
        rw [← a, ← b, h]
      have h2 := List.append_inj h (by omega)
      obtain ⟨Ls', h3, h4⟩ := split_uniq Ks Ls r rest (fun x hx => hK x (by simp [hx])) (fun x hx => hL x (by simp [hx])) hr h2.2
      exact ⟨Ls', by rw [h2.1, h3]; rfl, h4⟩
theorem split_end {Ls : List (List Nat)} {r : List Nat} (hL : ∀ x ∈ Ls, psize x + 7 = x.length) (h : Ls.flatten ++ r = []) : Ls = [] ∧ r = [] := by
  have h1 := List.append_eq_nil_iff.1 h
  refine ⟨?_, h1.2⟩
  cases Ls with
  | nil => rfl
  | cons L Ls =>
    have l1 := hL L (by simp)
    have : L = [] := by
      have := h1.1
      simp at this
      exact this.1
    rw [this] at l1
    simp at l1
set_option maxRecDepth 100000 in
set_option maxHeartbeats 4000000 in
theorem walk_PacketLong (n b a : Int) (w : World) (wn : (Lit.int .u8 n).wf = true) (wb : (Lit.int .u8 b).wf = true) (wa : (Lit.int .u16 a).wf = true) :
    Calls Try.prog 8 #[.int .u8 n, .int .u8 b, .int .u16 a] w fun e w' => e = .returned (.bool true) ∧ Below w.heap.size w w' := by
  obtain ⟨i0, hi, hz0, hz1, hz2⟩ := info_parts info_u8
  obtain ⟨n0, n1⟩ := bounds_u8 wn
  obtain ⟨b0, b1⟩ := bounds_u8 wb
  obtain ⟨a0, a1⟩ := bounds_u16 wa
  obtain ⟨n, rfl⟩ := Int.eq_ofNat_of_zero_le n0
  obtain ⟨b, rfl⟩ := Int.eq_ofNat_of_zero_le b0
  obtain ⟨a, rfl⟩ := Int.eq_ofNat_of_zero_le a0
  obtain ⟨A, hA⟩ : ∃ A, A = a % 2048 := ⟨_, rfl⟩
  have hAl : A < 2048 := by omega
  have hAI : Int.tmod (a : Int) 2048 = (A : Int) := by rw [Int.tmod_eq_emod_of_nonneg (by omega)]; omega
  clear wn wb wa hA
  go_enter Try.func8, Try.ntmps8
  go_wp2_with (first | (go_at_call 32; refine (awake09 _).mono ?_; rintro e w1 ⟨rfl, hb1⟩) | (at_make; refine wpList_make_full w1 rfl _ _ 54 rfl w.heap.size 5 i0 (.int .u8 0) 1 Try.underlying54 hi hz0 hz1 .u8 .u8 _ _ n rfl rfl rfl rfl ?c1 ?c2 ?c3 ?_))
  case c1 => rw [hz2]; omega
  case c2 => unfold maxLen; omega
  case c3 => exact hb1.size
  intro w2 hown hgrow
  rw [zeros_bl] at hown
  have hB2 := hb1.grown hgrow hb1.size (fun k hk => by cases hk)
  obtain ⟨g, hg⟩ : ∃ g, g = w1.heap.size := ⟨_, rfl⟩
  rw [← hg] at hown ⊢
  have hgw : w.heap.size ≤ g := by rw [hg]; exact hb1.size
  clear hgrow hg hb1
  go_wp2
  go_loopw [21] (fun i wr => ∃ k : Nat, k ≤ n ∧ i = .int .i64 k ∧ wr.ownsRow w.heap.size 5 1 (.slice (some ⟨g, 0, none⟩) n n) n (bl (List.replicate k b ++ List.replicate (n - k) 0)) ∧ Below w.heap.size w wr) (fun i _ => n - (intOf i).toNat)
  case atStart => exact ⟨0, Nat.zero_le _, rfl, by simpa using hown, hB2⟩
  case round =>
    clear hown hB2
    obtain ⟨k, hk, rfl, hown, hB⟩ := hrel
    by_cases hlt : k < n
    · have hc := hown.cellAt k (by omega)
      have hf := hown.frozenAt k
      rw [bl_at _ (by rw [filled_len _ _ _ hk]; exact hlt)] at hc
      unfold bv at hc
      obtain ⟨y, hy⟩ : ∃ y, y = (List.replicate k b ++ List.replicate (n - k) 0).getD k 0 := ⟨_, rfl⟩
      rw [← hy] at hc
      have HS := Lib.hid (filled_set n k b hlt)
      have HO := Lib.hid hown
      clear hown hy
      go_wp2
      go_roundw
      case rel =>
        obtain ⟨h1, h2⟩ := HO.out.stored k (.int .u8 (b : Int))
        refine ⟨k + 1, by omega, by go_num, ?_, hB.grown h2 hB.size (fun i hi => by cases hi; omega)⟩
        rw [← HS.out]; exact h1
      case measure => simp [intOf]; omega
    · obtain rfl : k = n := by omega
      rw [Nat.sub_self, List.replicate_zero, List.append_nil] at hown
      have hlen : (List.replicate k b).length = k := List.length_replicate
      have hbb := filled_bytes k b (by omega)
      obtain ⟨P, hP⟩ : ∃ P, P = List.replicate k b := ⟨_, rfl⟩
      rw [← hP] at hown hlen hbb
      have hr := rd_of_own (f := bv P) hown (fun j hj => bl_at _ (by rw [hlen]; exact hj))
      have HLEN := Lib.hid hlen
      have HR := Lib.hid hr
      have HB := Lib.hid hB
      have hs : w.heap.size ≤ wr.heap.size := hB.size
      clear hown hlen hr hP hB
      go_wp2_with fail
      go_at_call 35
      refine (pBytes_any false A 0 (some ⟨g, 0, none⟩) k k _ P _ (by omega) (by decide) HLEN.out (Nat.le_refl _) HR.out hbb).mono ?_
      rintro e w3 ⟨hb3, ⟨h, rfl⟩ | ⟨h, v, rfl, hown⟩⟩
      · have hpr : pkRight A 0 k = 4 ∧ 200 < k := by
          unfold pkRight at h ⊢
          rw [if_neg (by omega)] at h ⊢
          split at h
          · rename_i h2; exact ⟨by rw [if_pos h2], h2⟩
          · exact absurd rfl h
        rw [hpr.1]
        have h200 := hpr.2
        clear hpr h
        go_wp2
        go_ret
        exact ⟨rfl, HB.out.trans (hb3.mono hs)⟩
      · have h200 : ¬ 200 < k := by
          unfold pkRight at h
          rw [if_neg (by omega)] at h
          split at h
          · cases h
          · assumption
        obtain ⟨K, hK⟩ : ∃ K, K = mkPkt 0 A 0 P := ⟨_, rfl⟩
        rw [if_neg (by decide), ← hK] at hown
        obtain ⟨va, vc, rfl⟩ := own_form hown
        have hKl := mkPkt_len 0 A 0 P
        rw [HLEN.out, ← hK] at hKl
        obtain ⟨M, hM⟩ : ∃ M, M = k + 8 := ⟨_, rfl⟩
        rw [← hM] at hKl hown ⊢
        have hKb : bytes K := by rw [hK]; exact mkPkt_bytes (by omega) hAl (by omega) (by rw [HLEN.out]; omega) hbb
        have hKs := mkPkt_size 0 A 0 P
        rw [HLEN.out, ← hK] at hKs
        have hKe := mkPkt_err 0 A 0 P (by omega) hAl (by omega) (by rw [HLEN.out]; omega)
        rw [HLEN.out, ← hK] at hKe
        have hKd := mkPkt_dat 0 A 0 P
        rw [← hK] at hKd
        have hM1 : M ≤ 208 := by omega
        have hM2 : 8 ≤ M := by omega
        have HM := Lib.hid hM
        have HKL := Lib.hid hKl
        have HKS := Lib.hid hKs
        have HKE := Lib.hid hKe
        have HKD := Lib.hid hKd
        have HK3 := Lib.hid (rd_of_own (f := bv K) hown (fun i hi => bl_at K (by rw [hKl]; exact hi)))
        have HR3 := Lib.hid (rd_grow HR.out hb3)
        have HB3 := Lib.hid (HB.out.trans (hb3.mono hs))
        have hs3 : w.heap.size ≤ w3.heap.size := HB3.out.size
        clear hown hK hKl hKs hKe hKd hb3 h hM HR HB
        go_wp2_with fail
        go_at_call 42
        refine (pParse_any va M vc _ K _ HKL.out (Nat.le_refl _) HK3.out hKb (by omega)).mono ?_
        rintro e w4 ⟨hb4, ⟨he, x4, c4, rfl, hr4⟩ | ⟨he, rfl⟩⟩
        · have hk0 : ¬ k = 0 := fun h => by
            have := HKE.out
            rw [if_pos h] at this
            omega
          rw [HKD.out, HLEN.out] at hr4 ⊢
          obtain ⟨kk, hkk⟩ : ∃ kk, kk = pkK K := ⟨_, rfl⟩
          obtain ⟨ka, hka⟩ : ∃ ka, ka = pkA K := ⟨_, rfl⟩
          obtain ⟨kc, hkc⟩ : ∃ kc, kc = pkC K := ⟨_, rfl⟩
          rw [← hkk, ← hka, ← hkc]
          clear hkk hka hkc he
          have HR4 := Lib.hid hr4
          have HRP4 := Lib.hid (rd_grow HR3.out hb4)
          have HK4 := Lib.hid (rd_grow HK3.out hb4)
          have HB4 := Lib.hid (HB3.out.trans (hb4.mono hs3))
          have hs4 : w.heap.size ≤ w4.heap.size := HB4.out.size
          clear hr4 hb4 HR3 HK3 HB3
          go_wp2_with fail
          skip
          have hh2 := heap_alloc2_new w4 (.cells #[.bool kk, .int .u16 ka, .int .u16 kc, .slice x4 k c4] 56) (.cells #[.slice va M vc, .slice va M vc] 54)
          have hh1 := heap_alloc2_old w4 (.cells #[.bool kk, .int .u16 ka, .int .u16 kc, .slice x4 k c4] 56) (.cells #[.slice va M vc, .slice va M vc] 54)
          have hb5 : Below w4.heap.size w4 ((w4.alloc (.cells #[.bool kk, .int .u16 ka, .int .u16 kc, .slice x4 k c4] 56)).alloc (.cells #[.slice va M vc, .slice va M vc] 54)) := by repeat' (first | (with_reducible exact Below.refl _ _) | (with_reducible assumption) | (with_reducible refine Below.setCell ?_ ?_ _) | (with_reducible refine Below.alloc ?_ ?_ _) | (with_reducible refine Below.drew ?_) | (with_reducible refine Below.drawsN ?_ _) | go_size)
          obtain ⟨w5, hw5⟩ : ∃ w5, w5 = (w4.alloc (.cells #[.bool kk, .int .u16 ka, .int .u16 kc, .slice x4 k c4] 56)).alloc (.cells #[.slice va M vc, .slice va M vc] 54) := ⟨_, rfl⟩
          obtain ⟨g5, hg5⟩ : ∃ g5, g5 = w4.heap.size := ⟨_, rfl⟩
          rw [← hw5] at hh1 hh2 hb5 ⊢
          rw [← hg5] at hh1 hh2 ⊢
          have HK5 := Lib.hid (HK4.out.below hb5)
          have hs5 : w4.heap.size ≤ w5.heap.size := hb5.size
          have HH1 := Lib.hid hh1
          have hg5l := (Array.getElem?_eq_some_iff.1 hh1).1
          have HB45 := Lib.hid hb5
          clear hw5 hg5 hb5 hh1
          go_at_call 40
          refine (Join2 HKL.out HKL.out hh2 HK5.out HK5.out hs5 hs5 (by rw [List.length_append, HKL.out]; omega)).mono ?_
          rintro e w6 ⟨v, rfl, hown, hb6⟩
          obtain ⟨ja, jc, rfl⟩ := own_form hown
          have hJl : (K ++ K).length = M + M := by rw [List.length_append, HKL.out]
          rw [hJl] at hown ⊢
          obtain ⟨J, hJ⟩ : ∃ J, J = M + M := ⟨_, rfl⟩
          rw [← hJ] at hown hJl ⊢
          have hJ2 : J ≤ 416 := by omega
          obtain ⟨KK, hKK⟩ : ∃ KK, KK = K ++ K := ⟨_, rfl⟩
          have hKKb : bytes KK := by rw [hKK]; exact hKb.append hKb
          rw [← hKK] at hown hJl
          have HJL := Lib.hid hJl
          have HKK := Lib.hid hKK
          have HJ6 := Lib.hid (rd_of_own (f := bv KK) hown (fun i hi => bl_at KK (by rw [hJl]; exact hi)))
          have HH6 := Lib.hid ((hb6.block g5 hg5l).trans HH1.out)
          have HB46 := Lib.hid (HB45.out.trans (hb6.mono hs5))
          have hs6 : w4.heap.size ≤ w6.heap.size := HB46.out.size
          have hg6l : g5 < w6.heap.size := Nat.lt_of_lt_of_le hg5l hb6.size
          clear hown hJl hKK hb6 hh2 HH1 HK5 HB45 hJ
          go_wp2_with fail
          go_at_call 45
          refine (pSplit_any ja J jc _ KK _ HJL.out (Nat.le_refl _) HJ6.out hKKb (by omega)).mono ?_
          rintro e w7 ⟨v, s, n7, m7, Ls, r, rfl, hrows, hrl, hsown, hb7, hfl, hgood, hend⟩
          obtain ⟨Ls', h1, h2⟩ := split_uniq [K, K] Ls r [] (fun x hx => by
            have : x = K := by simpa using hx
            rw [this, HKS.out, HKL.out]
            have := HM.out
            omega) hgood (by rw [hrl]; exact hend) (by rw [hfl, HKK.out]; simp)
          obtain ⟨h3, h4⟩ := split_end (fun x hx => hgood x (by rw [h1]; exact List.mem_append_right _ hx)) h2
          subst h4
          rw [h3, List.append_nil] at h1
          subst h1
          have hm7 : m7 = 0 := by rw [← hrl]; rfl
          subst hm7
          have hn7 : n7 = 2 := by
            obtain ⟨_, _, h, _⟩ := hrows
            rw [← h]; rfl
          subst hn7
          obtain ⟨sa, sc, rfl⟩ := own_form hsown
          obtain ⟨ra, rc, rfl, rp, rq, hrd, hel⟩ := hrows.rds
          obtain ⟨rb, roff, rfl, hrb, hc1⟩ := hrd.at (k := 1) (by omega)
          have hrle := hrd.le
          have hrtop := hrd.top
          unfold maxLen at hrtop
          have hc1 : w7.cell? ⟨rb, roff + 1, none⟩ = some (.slice (rp 1) M (rq 1)) := by
            rw [hc1]
            show some (Value.slice (rp 1) K.length (rq 1)) = _
            rw [HKL.out]
          have he1 : Rd w7.heap.size w7 (rp 1) M (rq 1) (bv K) := by
            have := hel 1 (by omega)
            rw [← HKL.out]
            exact this
          have HE1 := Lib.hid he1
          have H57 := Lib.hid ((hb7.block g5 hg6l).trans HH6.out)
          have HB47 := Lib.hid (HB46.out.trans (hb7.mono hs6))
          have HB7 := Lib.hid (HB4.out.trans (HB47.out.mono hs4))
          have HRP7 := Lib.hid (rd_grow HRP4.out HB47.out)
          have HK7 := Lib.hid (rd_grow HK4.out HB47.out)
          have hs7 : w.heap.size ≤ w7.heap.size := HB7.out.size
          clear hrows hrl hsown hb7 hfl hgood hend h2 h3 hrd hel he1 HJ6 HH6 HB46
          have c53 := cell_of_row w7 g5 3 _ _ _ H57.out
          have HR7 := Lib.hid (rd_grow HR4.out HB47.out)
          have hkI : ((k : Int) == 0) = false := by rw [beq_eq_false_iff_ne]; omega
          have hMI : ((M : Int) == (k : Int) + 8) = true := by rw [beq_iff_eq]; have := HM.out; omega
          go_wp2_with (first | (go_at_call 38; (with_reducible refine (Same_any x4 (some ⟨g, 0, none⟩) k k c4 k w7.heap.size w7.heap.size P P w7 ?_ ?_ ?_ ?_ ?_ ?_).mono ?_); (· exact HLEN.out); (· exact HLEN.out); (· exact HR7.out); (· exact HRP7.out); (· exact hbb); (· exact hbb); rintro e w8 ⟨rfl, j8, hw8⟩; simp only [decide_true]; have hb78 : Below w7.heap.size w7 w8 := by { rw [hw8]; exact below_drews _ _ _ }; have hc1 := (hb78.cell (p := ⟨rb, roff + 1, none⟩) hrb).trans hc1; have HE8 := Lib.hid (HE1.out.below hb78); have HK8 := Lib.hid (HK7.out.below hb78); have HB8 := Lib.hid (HB7.out.trans (hb78.mono hs7)); clear hw8) | (go_at_call 38; (with_reducible refine (Same_any (rp 1) va M M (rq 1) vc w7.heap.size w7.heap.size K K w8 ?_ ?_ ?_ ?_ ?_ ?_).mono ?_); (· exact HKL.out); (· exact HKL.out); (· exact HE8.out); (· exact HK8.out); (· exact hKb); (· exact hKb); rintro e w9 ⟨rfl, j9, hw9⟩; simp only [decide_true]; have HB9 := Lib.hid (HB8.out.trans (show Below w.heap.size w8 w9 by { rw [hw9]; exact below_drews _ _ _ })); clear hw9))
          go_ret
          exact ⟨rfl, HB9.out⟩
        · have hk0 : k = 0 := by
            by_cases h : k = 0
            · exact h
            · exact absurd (HKE.out.trans (if_neg h)) he
          have HRP4 := Lib.hid (rd_grow HR3.out hb4)
          have HK4 := Lib.hid (rd_grow HK3.out hb4)
          have HB4 := Lib.hid (HB3.out.trans (hb4.mono hs3))
          have hs4 : w.heap.size ≤ w4.heap.size := HB4.out.size
          have hpe : pkErr K = 2 := HKE.out.trans (if_pos hk0)
          rw [hpe]
          clear hb4 HR3 HK3 HB3 hpe he
          go_wp2_with fail
          skip
          have hh2 := heap_alloc2_new w4 (.cells #[.bool false, .int .u16 0, .int .u16 0, .slice none 0 0] 56) (.cells #[.slice va M vc, .slice va M vc] 54)
          have hh1 := heap_alloc2_old w4 (.cells #[.bool false, .int .u16 0, .int .u16 0, .slice none 0 0] 56) (.cells #[.slice va M vc, .slice va M vc] 54)
          have hb5 : Below w4.heap.size w4 ((w4.alloc (.cells #[.bool false, .int .u16 0, .int .u16 0, .slice none 0 0] 56)).alloc (.cells #[.slice va M vc, .slice va M vc] 54)) := by repeat' (first | (with_reducible exact Below.refl _ _) | (with_reducible assumption) | (with_reducible refine Below.setCell ?_ ?_ _) | (with_reducible refine Below.alloc ?_ ?_ _) | (with_reducible refine Below.drew ?_) | (with_reducible refine Below.drawsN ?_ _) | go_size)
          obtain ⟨w5, hw5⟩ : ∃ w5, w5 = (w4.alloc (.cells #[.bool false, .int .u16 0, .int .u16 0, .slice none 0 0] 56)).alloc (.cells #[.slice va M vc, .slice va M vc] 54) := ⟨_, rfl⟩
          obtain ⟨g5, hg5⟩ : ∃ g5, g5 = w4.heap.size := ⟨_, rfl⟩
          rw [← hw5] at hh1 hh2 hb5 ⊢
          rw [← hg5] at hh1 hh2 ⊢
          have HK5 := Lib.hid (HK4.out.below hb5)
          have hs5 : w4.heap.size ≤ w5.heap.size := hb5.size
          have HH1 := Lib.hid hh1
          have hg5l := (Array.getElem?_eq_some_iff.1 hh1).1
          have HB45 := Lib.hid hb5
          clear hw5 hg5 hb5 hh1
          go_at_call 40
          refine (Join2 HKL.out HKL.out hh2 HK5.out HK5.out hs5 hs5 (by rw [List.length_append, HKL.out]; omega)).mono ?_
          rintro e w6 ⟨v, rfl, hown, hb6⟩
          obtain ⟨ja, jc, rfl⟩ := own_form hown
          have hJl : (K ++ K).length = M + M := by rw [List.length_append, HKL.out]
          rw [hJl] at hown ⊢
          obtain ⟨J, hJ⟩ : ∃ J, J = M + M := ⟨_, rfl⟩
          rw [← hJ] at hown hJl ⊢
          have hJ2 : J ≤ 416 := by omega
          obtain ⟨KK, hKK⟩ : ∃ KK, KK = K ++ K := ⟨_, rfl⟩
          have hKKb : bytes KK := by rw [hKK]; exact hKb.append hKb
          rw [← hKK] at hown hJl
          have HJL := Lib.hid hJl
          have HKK := Lib.hid hKK
          have HJ6 := Lib.hid (rd_of_own (f := bv KK) hown (fun i hi => bl_at KK (by rw [hJl]; exact hi)))
          have HH6 := Lib.hid ((hb6.block g5 hg5l).trans HH1.out)
          have HB46 := Lib.hid (HB45.out.trans (hb6.mono hs5))
          have hs6 : w4.heap.size ≤ w6.heap.size := HB46.out.size
          have hg6l : g5 < w6.heap.size := Nat.lt_of_lt_of_le hg5l hb6.size
          clear hown hJl hKK hb6 hh2 HH1 HK5 HB45 hJ
          go_wp2_with fail
          go_at_call 45
          refine (pSplit_any ja J jc _ KK _ HJL.out (Nat.le_refl _) HJ6.out hKKb (by omega)).mono ?_
          rintro e w7 ⟨v, s, n7, m7, Ls, r, rfl, hrows, hrl, hsown, hb7, hfl, hgood, hend⟩
          obtain ⟨Ls', h1, h2⟩ := split_uniq [K, K] Ls r [] (fun x hx => by
            have : x = K := by simpa using hx
            rw [this, HKS.out, HKL.out]
            have := HM.out
            omega) hgood (by rw [hrl]; exact hend) (by rw [hfl, HKK.out]; simp)
          obtain ⟨h3, h4⟩ := split_end (fun x hx => hgood x (by rw [h1]; exact List.mem_append_right _ hx)) h2
          subst h4
          rw [h3, List.append_nil] at h1
          subst h1
          have hm7 : m7 = 0 := by rw [← hrl]; rfl
          subst hm7
          have hn7 : n7 = 2 := by
            obtain ⟨_, _, h, _⟩ := hrows
            rw [← h]; rfl
          subst hn7
          obtain ⟨sa, sc, rfl⟩ := own_form hsown
          obtain ⟨ra, rc, rfl, rp, rq, hrd, hel⟩ := hrows.rds
          obtain ⟨rb, roff, rfl, hrb, hc1⟩ := hrd.at (k := 1) (by omega)
          have hrle := hrd.le
          have hrtop := hrd.top
          unfold maxLen at hrtop
          have hc1 : w7.cell? ⟨rb, roff + 1, none⟩ = some (.slice (rp 1) M (rq 1)) := by
            rw [hc1]
            show some (Value.slice (rp 1) K.length (rq 1)) = _
            rw [HKL.out]
          have he1 : Rd w7.heap.size w7 (rp 1) M (rq 1) (bv K) := by
            have := hel 1 (by omega)
            rw [← HKL.out]
            exact this
          have HE1 := Lib.hid he1
          have H57 := Lib.hid ((hb7.block g5 hg6l).trans HH6.out)
          have HB47 := Lib.hid (HB46.out.trans (hb7.mono hs6))
          have HB7 := Lib.hid (HB4.out.trans (HB47.out.mono hs4))
          have HRP7 := Lib.hid (rd_grow HRP4.out HB47.out)
          have HK7 := Lib.hid (rd_grow HK4.out HB47.out)
          have hs7 : w.heap.size ≤ w7.heap.size := HB7.out.size
          clear hrows hrl hsown hb7 hfl hgood hend h2 h3 hrd hel he1 HJ6 HH6 HB46
          have hkI : ((k : Int) == 0) = true := by rw [beq_iff_eq]; omega
          have hMI : ((M : Int) == 8) = true := by rw [beq_iff_eq]; have := HM.out; omega
          go_wp2
          go_ret
          exact ⟨rfl, HB7.out⟩
end Go.Proofs.Ytdaknifdhhmlkaa
