/- Layer 22: Order. -/
import Derived.Test.YtinaimacocgemaaAlf
namespace Go.Proofs.Ytinaimacocgemaa
open Go.RowKit Go.Own Go.Proofs Go.Sort
set_option linter.unusedVariables false
set_option linter.unusedSimpArgs false
theorem als_holds {w : World} {lo blk cap : Nat} {d : Array Al} (hH : HoldsK Al.cs 3 w blk 0 d) (hlo : lo ≤ blk) (hlt : blk < w.heap.size) (hc : d.size ≤ cap) (hm : cap ≤ maxLen) : AlS lo w.heap.size w (some ⟨blk, 0, none⟩) cap d.toList :=
  ⟨by simpa using hc, hm, fun hl => ⟨blk, 0, rfl, hlo, hlt, fun i hi j v hv => by
    have hj : j < 3 := (List.getElem?_eq_some_iff.1 hv).1
    have hi' : i < d.size := by simpa using hi
    have h := (hH (i * 3 + j) (by rw [size_flatK]; omega)).1
    rw [get_flatK _ _ _ _ (by omega), show (i * 3 + j) / 3 = i by omega, show (i * 3 + j) % 3 = j by omega] at h
    have e : d[i]! = d.toList.getD i al0 := by rw [getElem!_pos d i hi']; simp [List.getD, hi']
    rw [e, List.getElem!_eq_getElem?_getD, hv] at h
    rw [show 0 + i * 3 + j = 0 + (i * 3 + j) by omega]
    exact h⟩⟩
theorem holds_own {w : World} {g : Nat} {t : TypeId} {cur : Array Value} {R : List Al} (hg : w.heap[g]? = some (.cells cur t (0, 0))) (ho : cur.toList.take (R.length * 3) = alrl R) : HoldsK Al.cs 3 w g 0 R.toArray := by
  intro q hq
  rw [size_flatK, List.size_toArray] at hq
  refine ⟨?_, frozen_of_row _ _ _ _ _ hg⟩
  rw [get_flatK _ _ _ _ (by simpa using hq), cell_of_row _ _ _ _ _ _ hg]
  have h := alrl_at R (q / 3) (by omega) (q % 3) (Nat.mod_lt _ (by decide))
  rw [show q / 3 * 3 + q % 3 = q by omega, ← ho, List.getElem?_take, if_pos hq] at h
  have hq3 : q / 3 < R.length := by omega
  have e : R.toArray[q / 3]! = R.getD (q / 3) al0 := by
    rw [getElem!_pos R.toArray (q / 3) (by simpa using hq3)]
    simp [List.getD, hq3]
  rw [e, Nat.zero_add, ← Array.getElem?_toList, h]
  have hl : q % 3 < (R.getD (q / 3) al0).cs.length := by rw [Al.len]; omega
  rw [List.getElem?_eq_getElem hl]
  show _ = some (_)
  rw [id, List.getElem!_eq_getElem?_getD, List.getElem?_eq_getElem hl]
  rfl
def rl (L : List Al) : List Al := L.filter (fun a => rgt a.l a.u)
theorem rl_yes (L : List Al) {k : Nat} (hk : k < L.length) (h : rgt (L.getD k al0).l (L.getD k al0).u = true) : rl (L.take (k + 1)) = rl (L.take k) ++ [L.getD k al0] := by
  rw [show L.take (k + 1) = L.take k ++ [L.getD k al0] by rw [List.take_add_one, List.getElem?_eq_getElem hk]; simp [List.getD, hk]]
  unfold rl
  rw [List.filter_append, List.filter_cons, if_pos h]
  rfl
theorem rl_no (L : List Al) {k : Nat} (hk : k < L.length) (h : rgt (L.getD k al0).l (L.getD k al0).u = false) : rl (L.take (k + 1)) = rl (L.take k) := by
  rw [show L.take (k + 1) = L.take k ++ [L.getD k al0] by rw [List.take_add_one, List.getElem?_eq_getElem hk]; simp [List.getD, hk]]
  unfold rl
  rw [List.filter_append, List.filter_cons, if_neg (by rw [h]; decide)]
  simp
theorem rl_five (L : List Al) : ∀ x ∈ rl L, x.l < 5 := fun x hx => by
  have h := (List.mem_filter.1 hx).2
  unfold rgt at h
  simp at h
  exact h.1
theorem rl_len (L : List Al) (k : Nat) : (rl (L.take k)).length ≤ k := Nat.le_trans (List.length_filter_le _ _) (by rw [List.length_take]; omega)
set_option maxRecDepth 100000 in
set_option maxHeartbeats 4000000 in
theorem Order_any (a : Option Addr) (c m : Nat) (L : List Al) (w : World) (hL : L.length = m) (hm20 : m ≤ 20) (hok : AlOk L) (hr : AlS 0 w.heap.size w a c L) :
    Calls Try.prog 46 #[.slice a m c] w fun e w' => ∃ (x : Option Addr) (n d : Nat), e = .returned (.slice x n d) ∧ n = (ordA (rl L)).length ∧ AlS w.heap.size w'.heap.size w' x d (ordA (rl L)) ∧ Below w.heap.size w w' := by
  obtain ⟨i0, hi, hz0, hz1, hz2⟩ := info_parts info_al
  have hzr := zero_al
  have htop := hr.top
  have hle := hr.le
  unfold maxLen at htop
  rw [hL] at hle
  have HR := Lib.hid hr
  have HL := Lib.hid hL
  have HOK := Lib.hid hok
  clear hr hL hok
  go_enter Try.func46, Try.ntmps46
  go_wp2_with fail
  go_loopw [3, 8] (fun u v wr => ∃ (k : Nat), k ≤ m ∧ v = .int .i64 (k : Nat) ∧ wr.ownsRow w.heap.size 84 3 u (rl (L.take k)).length (alrl (rl (L.take k))) ∧ Below w.heap.size w wr) (fun _ v _ => m - (intOf v).toNat)
  case atStart => exact ⟨0, Nat.zero_le _, rfl, ⟨rfl, .inl ⟨rfl, rfl⟩⟩, Below.refl _ _⟩
  case round =>
    obtain ⟨k, hk, rfl, hown, hB⟩ := hrel
    have HO := Lib.hid hown
    have HB := Lib.hid hB
    have hBs := hB.size
    clear hown hB
    by_cases hlt : k < m
    · have hkl : k < L.length := by have := HL.out; omega
      obtain ⟨bb, off, rfl, hlo, hbn, hc⟩ := HR.out.at_ (by omega)
      have hyes := rl_yes L hkl
      have hno := rl_no L hkl
      have hrg : wr.rangeAt bb (off + k * 3) (Al.cs (L.getD k al0)) := fun j v hv => (HB.out.cell (p := ⟨bb, off + k * 3 + j, none⟩) hbn).trans (hc k hkl j v hv)
      obtain ⟨hr5, _, _⟩ := HOK.out.at hkl
      have hln := rl_len L k
      obtain ⟨R, hR⟩ : ∃ R, R = rl (L.take k) := ⟨_, rfl⟩
      rw [← hR] at hyes hno hln HO
      obtain ⟨r, hr⟩ : ∃ r, r = L.getD k al0 := ⟨_, rfl⟩
      rw [← hr] at hyes hno hrg hr5
      have HYES := Lib.hid hyes
      have HNO := Lib.hid hno
      have HRG := Lib.hid hrg
      have hal := (Below.refl wr.heap.size wr).alloc (Nat.le_refl _) (.cells #[.int .u8 (r.l : Nat), .int .i64 r.u, .int .u8 (r.e : Nat)] 84)
      have h6 := heap_alloc_new wr (.cells #[.int .u8 (r.l : Nat), .int .i64 r.u, .int .u8 (r.e : Nat)] 84)
      obtain ⟨we, hwe⟩ : ∃ we, wr.alloc (.cells #[.int .u8 (r.l : Nat), .int .i64 r.u, .int .u8 (r.e : Nat)] 84) = we := ⟨_, rfl⟩
      rw [hwe] at hal h6
      have HO2 := Lib.hid (own_keepA HO.out hal)
      have HB2 := Lib.hid (HB.out.trans (hal.mono HB.out.size))
      have HAP := Lib.hid (show ∀ g, u3.ownBlock = some g → g < wr.heap.size from fun g hg => (HO.out.lt g hg).2)
      clear hR hr hyes hno hrg hc hal HO HB hlo
      have hrl := HRG.out
      go_upto_region 5 with (first | ((with_reducible show wpList _ _ _ (_ :: _) _ _); refine wpList_load_mid rfl 84 _ rfl _ (off + k * 3) rfl (Al.cs r) _ hrl Try.underlying84 rfl size_al ?_; rw [show (Al.cs r).toArray = #[.int .u8 (r.l : Nat), .int .i64 r.u, .int .u8 (r.e : Nat)] from rfl]; (try go_simp)) | (((with_reducible show wpList _ _ _ (_ :: _) _ _); refine wpList_store_row rfl 84 _ _ rfl _ _ rfl rfl _ _ (heap_alloc_new _ _) (by exact size_al) (by rfl) (by simp [Value.oneCell']) ?_; rw [World.setRow_alloc_new]); rw [hwe]))
      clear hrl hwe HRG
      obtain ⟨g6, hg6⟩ : ∃ g, g = wr.heap.size := ⟨_, rfl⟩
      rw [← hg6] at h6 HAP ⊢
      clear hg6
      obtain ⟨ua, uc, hu3⟩ := own_formA HO2.out
      subst hu3
      go_wp2_with (refine wpList_load_row rfl 84 _ rfl _ rfl _ _ _ _ h6 Try.underlying84 rfl (by exact size_al) ?_; (try go_simp))
      refine (Right_any r.l r.u r.e _ hr5).mono ?_
      rintro e w3 ⟨rfl, hb⟩
      have h7 := box_below h6 hb (box_lt h6)
      have HO3 := Lib.hid (own_keepA HO2.out hb)
      have HB3 := Lib.hid (HB2.out.trans (hb.mono HB2.out.size))
      have hB3s := HB3.out.size
      obtain ⟨t, ht⟩ : ∃ t, t = rgt r.l r.u := ⟨_, rfl⟩
      rw [← ht] at HYES HNO ⊢
      clear h6 hb HO2 HB2 ht
      cases t
      · have ho : w3.ownsRow w.heap.size 84 3 (.slice ua R.length uc) (rl (L.take (k + 1))).length (alrl (rl (L.take (k + 1)))) := by rw [HNO.out rfl]; exact HO3.out
        have HO4 := Lib.hid ho
        clear ho HO3 h7 HYES HNO
        go_wp2_with fail
        go_roundw
        case rel => exact ⟨k + 1, by omega, by go_num, HO4.out, HB3.out⟩
        case measure => simp [intOf]; omega
      · have HYY := Lib.hid (HYES.out rfl)
        clear HYES HNO
        go_wp2_with (first | (refine wpList_load_row rfl 84 _ rfl _ rfl _ _ _ _ h7 Try.underlying84 rfl (by exact size_al) ?_; (try go_simp)) | (at_builtin; refine wpList_append_own _ rfl _ _ 79 rfl w.heap.size 84 i0 (.agg #[.int .u8 0, .int .i64 0, .int .u8 0]) 3 24 Try.underlying79 hi hz0 hz1 hz2 rfl (by decide) _ _ _ rfl (HO3.out.alloc _) ⟨w3.heap.size, 0, none⟩ 1 1 [.int .u8 (r.l : Nat), .int .i64 r.u, .int .u8 (r.e : Nat)] rfl rfl (lit_cellsA _ _ _) (by simp [Value.oneCell']) (by unfold maxLen; omega) (by omega) (by simp; omega) ?_))
        intro v' w4 hown4 hgrow4 _
        have hb4 : RowKit.Below w.heap.size w3 w4 := ((RowKit.Below.refl _ w3).alloc hB3s _).grown hgrow4 (by simp; omega) (fun j hj => (HO3.out.lt j hj).1)
        have ho : w4.ownsRow w.heap.size 84 3 v' (rl (L.take (k + 1))).length (alrl (rl (L.take (k + 1)))) := by
          rw [HYY.out, alrl_snoc, List.length_append]
          exact hown4
        have HO4 := Lib.hid ho
        have HB4 := Lib.hid (HB3.out.trans hb4)
        clear ho hown4 hgrow4 hb4 h7 HYY HO3 HB3
        go_wp2_with fail
        go_roundw
        case rel => exact ⟨k + 1, by omega, by go_num, HO4.out, HB4.out⟩
        case measure => simp [intOf]; omega
    · obtain rfl : k = m := by omega
      have hLk : L.take k = L := List.take_of_length_le (by have := HL.out; omega)
      have ho := HO.out
      rw [hLk] at ho
      have hln := rl_len L k
      rw [hLk] at hln
      have h5 := rl_five L
      obtain ⟨R, hR⟩ : ∃ R, R = rl L := ⟨_, rfl⟩
      rw [← hR] at ho hln h5
      have hR20 : R.length ≤ 20 := by omega
      have HRR := Lib.hid hR
      clear hR hLk HO
      obtain ⟨hx1, ⟨hv, hn0⟩ | ⟨g, cap, cur, hv, hlo, hg, hnc, hcm, hsz, htk⟩⟩ := ho
      · subst hv
        obtain rfl : R = [] := List.eq_nil_of_length_eq_zero hn0
        have HS := Lib.hid (fun w => sort_none w)
        go_wp2_with fail
        go_at_call 95
        refine (HS.out _).mono ?_
        rintro e w5 ⟨rfl, rfl⟩
        go_wp2_with fail
        go_ret
        rw [← HRR.out]
        exact ⟨_, 0, 0, rfl, rfl, ⟨Nat.zero_le _, Nat.zero_le _, fun h => absurd h (by simp [ordA, lev])⟩, HB.out⟩
      · subst hv
        have hh := holds_own hg htk
        have HS := Lib.hid (sort_any g cap R.toArray wr hh (box_lt hg) (by simpa using hR20))
        have hso := srt_ord R.toArray (by simpa using h5)
        rw [List.toList_toArray] at hso
        rw [List.size_toArray] at HS
        have HSO := Lib.hid hso
        clear hx1 hg htk hsz hh hso
        go_wp2_with fail
        go_at_call 95
        refine HS.out.mono ?_
        rintro e w5 ⟨rfl, hp⟩
        have HP := Lib.hid hp
        clear hp
        go_wp2_with fail
        go_ret
        have hq := als_holds (lo := w.heap.size) (cap := cap) HP.out.h hlo HP.out.lt (by rw [srtA_size]; simpa using hnc) hcm
        rw [HSO.out] at hq
        have hlen : R.length = (ordA R).length := by rw [← HSO.out]; have := srtA_size R.toArray; simpa using this.symm
        rw [← HRR.out]
        exact ⟨_, R.length, cap, rfl, hlen, hq, HB.out.trans (HP.out.be _ hlo hBs)⟩
end Go.Proofs.Ytinaimacocgemaa
