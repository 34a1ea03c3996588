/- Numbers: the contract. -/
import Derived.Test.YtkgeeohgfbacaaaPsN
namespace Go.Proofs.Ytkgeeohgfbacaaa
open Go.RowKit Go.Own
set_option linter.unusedVariables false
set_option linter.unusedSimpArgs false

theorem nums_len (s : Nat → Int) (l : List Nat) {k n : Nat} (h : k ≤ n) : (numsOf s l k ++ List.replicate (n - k) 0).length = n := by simp [numsOf_len]; omega
theorem nums_set (s : Nat → Int) (l : List Nat) {k n : Nat} (h : k < n) : (ul (numsOf s l k ++ List.replicate (n - k) 0)).set k (.int .u32 ((val (seg s l k) : Nat) : Int)) = ul (numsOf s l (k + 1) ++ List.replicate (n - (k + 1)) 0) := by
  have e : n - k = (n - (k + 1)) + 1 := by omega
  rw [e, List.replicate_succ, numsOf_succ]
  unfold ul
  rw [List.map_append, List.set_append_right _ _ (by simp [numsOf_len])]
  simp [numsOf_len]
def NumPost (w : World) (s : Nat → Int) (l : List Nat) (n len : Nat) (e : Ending) (w' : World) : Prop :=
  Below w.heap.size w w' ∧ ((numErr s n len ≠ 0 ∧ e = .returned (.tuple #[.slice none 0 0, .int .i64 (numErr s n len : Nat)])) ∨
    (numErr s n len = 0 ∧ ∃ v, e = .returned (.tuple #[v, .int .i64 0]) ∧ w'.ownsRow w.heap.size 53 1 v n (ul (numsOf s l n))))
theorem numErr_one {s : Nat → Int} {n len k : Nat} (hk : k < n) (h : isSz (s k) = false) : numErr s n len = 1 := by
  unfold numErr
  rw [if_neg]
  intro h'
  have := (all_iff s n).1 h' k hk
  rw [h] at this
  cases this
theorem numErr_all {s : Nat → Int} {n len : Nat} (h : allSz s n) : numErr s n len = if len = tot s n then 0 else 2 := by
  unfold numErr
  rw [if_pos ((all_iff s n).2 h)]
set_option maxRecDepth 100000 in
set_option maxHeartbeats 4000000 in
theorem Numbers_any (a b : Option Addr) (len cap n sc k0 k1 : Nat) (l : List Nat) (s : Nat → Int) (w : World) (hl : l.length = len) (hr : Rd k0 w a len cap (bv l)) (hs : Rd k1 w b n sc (fun i => .int .i64 (s i))) (hk0 : k0 ≤ w.heap.size) (hk1 : k1 ≤ w.heap.size) (hb : bytes l) (hn : n ≤ 10000) (hm : len ≤ 1000000) :
    Calls Try.prog 123 #[.slice a len cap, .slice b n sc] w (NumPost w s l n len) := by
  obtain ⟨i0, hi, hz0, hz1, hz2⟩ := info_parts info_u32
  have h1 := hr.le
  have h2 := hr.top
  have h3 := hs.le
  have h4 := hs.top
  unfold maxLen at h2 h4
  have HL := Lib.hid hl
  have HR := Lib.hid hr
  clear hl hr
  go_enter Try.func123, Try.ntmps123
  go_wp2
  go_loop [6, 14] (fun t i => ∃ k : Nat, k ≤ n ∧ i = .int .i64 (k : Nat) ∧ t = .int .i64 (tot s k : Nat) ∧ allSz s k) (fun _ i => n - (intOf i).toNat)
  case atStart => exact ⟨0, Nat.zero_le _, rfl, rfl, fun i hi => absurd hi (by omega)⟩
  case round =>
    obtain ⟨k, hk, rfl, rfl, hall⟩ := hrel
    have ht4 := tot_le4 hall k (Nat.le_refl _)
    by_cases hlt : k < n
    · obtain ⟨ba, oa, rfl, hba, hca⟩ := hs.at hlt
      obtain ⟨z, hz⟩ : ∃ z, z = s k := ⟨_, rfl⟩
      have htk : tot s (k + 1) = tot s k + (s k).toNat := rfl
      rw [← hz] at hca htk
      have HALL := Lib.hid hall
      cases hsz : isSz z with
      | false =>
        have HS := Lib.hid hsz
        have HE := Lib.hid (numErr_one (len := len) hlt (show isSz (s k) = false by rw [← hz]; exact hsz))
        clear hsz hz htk hall
        go_wp2_with (go_at_call 155; refine (isSize_any z _).mono ?_; rintro e wx ⟨rfl, rfl⟩; rw [HS.out])
        go_ret2
        exact ⟨Below.refl _ _, .inl ⟨by rw [HE.out]; decide, by rw [HE.out]; rfl⟩⟩
      | true =>
        obtain ⟨q, rfl, hq1, hq4, _⟩ := lay1_yes hsz 0
        obtain ⟨T, hT⟩ : ∃ T, T = tot s k := ⟨_, rfl⟩
        rw [← hT] at ht4 htk ⊢
        have HTK := Lib.hid htk
        have HS := Lib.hid hsz
        have HALL2 := Lib.hid (show allSz s (k + 1) from fun i hi => by
          by_cases e : i = k
          · subst e; rw [← hz]; exact hsz
          · exact HALL.out i (by omega))
        clear hsz hz htk hall hT
        go_wp2_with (go_at_call 155; refine (isSize_any (q : Int) _).mono ?_; rintro e wx ⟨rfl, rfl⟩; rw [HS.out])
        go_round
        case rel => exact ⟨k + 1, by omega, by go_num, by rw [HTK.out]; go_num, HALL2.out⟩
        case measure => simp [intOf]; omega
    · obtain rfl : k = n := by omega
      have hE := numErr_all (len := len) hall
      obtain ⟨T, hT⟩ : ∃ T, T = tot s k := ⟨_, rfl⟩
      rw [← hT] at ht4 hE ⊢
      have HT := Lib.hid hT
      have HALL := Lib.hid hall
      clear hT hall
      by_cases hlen : len = T
      · have HE := Lib.hid (hE.trans (if_pos hlen))
        subst hlen
        have hlI : ((len : Int) != (len : Int)) = false := by simp
        clear hE
        go_wp2_with (at_make; refine wpList_make_full w rfl _ _ 224 rfl w.heap.size 53 i0 (.int .u32 0) 1 Try.underlying224 hi hz0 hz1 .i64 .i64 _ _ k rfl rfl rfl rfl ?c1 ?c2 ?c3 ?_)
        case c1 => first | (rw [hz2]; omega) | omega
        case c2 => unfold maxLen; omega
        try (case c3 => exact Nat.le_refl _)
        intro w2 hown hgrow
        rw [zeros_ul] at hown
        have hB2 := (Below.refl w.heap.size w).grown hgrow (Nat.le_refl _) (fun k hk => by cases hk)
        obtain ⟨g, hg⟩ : ∃ g, g = w.heap.size := ⟨_, rfl⟩
        rw [← hg] at hown hB2 ⊢
        have HG := Lib.hid hg
        have hgl : g < w2.heap.size ∨ k = 0 := by
          rcases Nat.eq_zero_or_pos k with h | h
          · exact .inr h
          · obtain ⟨_, _, he, _, h2⟩ := own_some hown h
            injection he with he
            injection he with he
            injection he with h3
            rw [h3]
            exact .inl h2
        clear hgrow hg
        go_wp2
        go_loopw [0, 34] (fun p i wr => ∃ (j : Nat) (pa : Option Addr) (pl pc : Nat), j ≤ k ∧ i = .int .i64 (j : Nat) ∧ p = .slice pa pl pc ∧ pl = len - tot s j ∧ Rd k0 w pa pl pc (bv (l.drop (tot s j))) ∧ wr.ownsRow g 53 1 (.slice (some ⟨g, 0, none⟩) k k) k (ul (numsOf s l j ++ List.replicate (k - j) 0)) ∧ Below g w wr) (fun _ i _ => k - (intOf i).toNat)
        case atStart => exact ⟨0, a, len, cap, Nat.zero_le _, rfl, rfl, by simp [tot], by simpa [tot] using HR.out, by simpa [numsOf] using hown, hB2⟩
        case round =>
          clear hown hB2
          obtain ⟨j, pa, pl, pc, hj, rfl, rfl, hpl, hpr, hown, hB⟩ := hrel
          by_cases hlt : j < k
          · obtain ⟨q, hq, hq1, hq4⟩ := HALL.out.sz hlt
            have htj : tot s (j + 1) = tot s j + q := by rw [tot, hq]; simp
            have htm := tot_mono s (show j + 1 ≤ k by omega)
            rw [htj, ← HT.out] at htm
            have hgw := HG.out
            obtain ⟨bb, ob, rfl, hbb, hcb⟩ := (hs.below' hB (by omega)).at hlt
            have hpr' := hpr.below' hB (by omega)
            have hple := hpr.le
            have hsg : seg s l j = (l.drop (tot s j)).take q := by unfold seg; rw [hq]; rfl
            have hsgr : Rd k0 wr pa q pc (bv (seg s l j)) := by
              rw [hsg]
              exact (hpr'.first (by omega)).same (fun i hi => by unfold bv; simp [List.getD, List.getElem?_take, hi])
            have hsgl : (seg s l j).length = q := by rw [hsg, List.length_take, List.length_drop, HL.out]; omega
            have hsgb : bytes (seg s l j) := by rw [hsg]; exact (hb.drop _).take q
            have hup := fun w => slice8_upto pa pl pc q (by omega) w
            have hfr := fun w => slice8_from pa pl pc q (by omega) w
            have hnext := Rd.rest (k := q) hpr (by omega)
            have hset := nums_set s l hlt
            have hc := hown.cellAt j (by omega)
            have hf := hown.frozenAt j
            rw [ul_at _ (by rw [nums_len _ _ hj]; exact hlt)] at hc
            unfold uv at hc
            obtain ⟨yv, hyv⟩ : ∃ yv, yv = (numsOf s l j ++ List.replicate (k - j) 0).getD j 0 := ⟨_, rfl⟩
            rw [← hyv] at hc
            obtain ⟨V, hV⟩ : ∃ V, V = seg s l j := ⟨_, rfl⟩
            rw [← hV] at hsgr hsgl hsgb hset
            obtain ⟨vv, hvv⟩ : ∃ vv, vv = val V := ⟨_, rfl⟩
            rw [← hvv] at hset
            rw [hq] at hcb
            have HVV := Lib.hid hvv
            have HSET := Lib.hid hset
            have HSGR := Lib.hid hsgr
            have HSGL := Lib.hid hsgl
            have HNEXT := Lib.hid hnext
            have HO := Lib.hid hown
            have HB := Lib.hid hB
            have HPL := Lib.hid hpl
            have HTJ := Lib.hid htj
            have hplq : q ≤ pl := by omega
            have HGW := Lib.hid hgw
            clear hyv hV hvv hset hsgr hsgl hnext hown hpr hpr' hsg htj hq hpl htm hB hgw
            go_wp2_with fail
            go_at_call 137
            refine (number_any pa q pc k0 V _ HSGL.out HSGR.out hsgb hq4).mono ?_
            rintro e wx ⟨rfl, rfl⟩
            rw [← HVV.out]
            go_wp2
            go_roundw
            case rel =>
              obtain ⟨h1, h2⟩ := HO.out.stored j (.int .u32 ((vv : Nat) : Int))
              refine ⟨j + 1, _, pl - q, pc - q, by omega, by go_num, rfl, by rw [HTJ.out, HPL.out]; omega, ?_, by rw [← HSET.out]; exact h1, HB.out.grown h2 (by have := HB.out.size; have := HGW.out; omega) (fun i hi => by cases hi; omega)⟩
              rw [HTJ.out]
              exact HNEXT.out.same (fun i hi => by unfold bv; simp [List.getD, List.getElem?_drop, Nat.add_assoc])
            case measure => simp [intOf]; omega
          · obtain rfl : j = k := by omega
            rw [Nat.sub_self, List.replicate_zero, List.append_nil] at hown
            have HO := Lib.hid hown
            have HB := Lib.hid hB
            clear hown hB
            go_wp2
            go_ret2
            exact ⟨by rw [← HG.out]; exact HB.out, .inr ⟨HE.out, _, rfl, by rw [← HG.out]; exact HO.out⟩⟩
      · have HE := Lib.hid (hE.trans (if_neg hlen))
        have hlI : ((len : Int) != (T : Int)) = true := by simp [bne]; omega
        clear hE
        go_wp2
        go_ret2
        exact ⟨Below.refl _ _, .inl ⟨by rw [HE.out]; decide, by rw [HE.out]; rfl⟩⟩
end Go.Proofs.Ytkgeeohgfbacaaa
