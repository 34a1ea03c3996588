/- Layer 22: the document's Order. -/
import Derived.Test.YtinaimacocgemaaApk
namespace Go.Proofs.Ytinaimacocgemaa
open Go.RowKit Go.Own Go.Proofs Bs
set_option linter.unusedVariables false
set_option linter.unusedSimpArgs false
def up (L : List Al) : Nat → List Al
  | 0 => []
  | j + 1 => up L j ++ lev (4 - j) (rl L)
theorem up_all (L : List Al) : up L 5 = ordA (rl L) := by
  simp [up, ordA]
theorem up_len (L : List Al) : ∀ j, j ≤ 5 → (up L j).length ≤ j * L.length
  | 0, _ => by simp [up]
  | j + 1, h => by
    have ih := up_len L j (by omega)
    have h2 : (lev (4 - j) (rl L)).length ≤ L.length := Nat.le_trans (List.length_filter_le _ _) (List.length_filter_le _ _)
    simp only [up, List.length_append]
    rw [Nat.add_mul, Nat.one_mul]
    omega
theorem lr_yes (L : List Al) (n : Nat) {k : Nat} (hk : k < L.length) (h : rgt (L.getD k al0).l (L.getD k al0).u = true) (h2 : (L.getD k al0).l = n) : lev n (rl (L.take (k + 1))) = lev n (rl (L.take k)) ++ [L.getD k al0] := by
  rw [rl_yes L hk h]
  unfold lev
  rw [List.filter_append, List.filter_cons, if_pos (show ((L.getD k al0).l == n) = true from by rw [h2]; simp)]
  rfl
theorem lr_no (L : List Al) (n : Nat) {k : Nat} (hk : k < L.length) (h : rgt (L.getD k al0).l (L.getD k al0).u = true) (h2 : (L.getD k al0).l ≠ n) : lev n (rl (L.take (k + 1))) = lev n (rl (L.take k)) := by
  rw [rl_yes L hk h]
  unfold lev
  rw [List.filter_append, List.filter_cons, if_neg (show ¬ ((L.getD k al0).l == n) = true from by rw [beq_iff_eq]; exact h2)]
  simp
theorem lr_len (L : List Al) (n k : Nat) : (lev n (rl (L.take k))).length ≤ L.length := Nat.le_trans (List.length_filter_le _ _) (Nat.le_trans (List.length_filter_le _ _) (by rw [List.length_take]; omega))
set_option maxRecDepth 100000 in
set_option maxHeartbeats 4000000 in
theorem rOrder_any (a : Option Addr) (c m : Nat) (L : List Al) (w : World) (hL : L.length = m) (hm20 : m ≤ 20) (hok : AlOk L) (hr : AlS 0 w.heap.size w a c L) :
    Calls Try.prog 47 #[.slice a m c] w fun e w' => ∃ (x : Option Addr) (n d : Nat), e = .returned (.slice x n d) ∧ n = (ordA (rl L)).length ∧ AlS w.heap.size w'.heap.size w' x d (ordA (rl L)) ∧ Below w.heap.size w w' := by
  obtain ⟨i0, hi, hz0, hz1, hz2⟩ := info_parts info_alr
  have hzr := zero_alr
  have htop := hr.top
  have hle := hr.le
  unfold maxLen at htop
  rw [hL] at hle
  have HR := Lib.hid hr
  have HL := Lib.hid hL
  have HOK := Lib.hid hok
  clear hr hL hok
  go_enter Try.func47, Try.ntmps47
  go_wp2_with fail
  go_loopw [3, 4] (fun u v wr => ∃ (j : Nat), j ≤ 5 ∧ v = .int .i64 (4 - (j : Nat) : Int) ∧ wr.ownsRow w.heap.size 87 3 u (up L j).length (alrl (up L j)) ∧ Below w.heap.size w wr) (fun _ v _ => (intOf v + 1).toNat)
  case atStart => exact ⟨0, Nat.zero_le _, rfl, ⟨rfl, .inl ⟨rfl, rfl⟩⟩, Below.refl _ _⟩
  case round =>
    obtain ⟨j, hj, rfl, hown, hB⟩ := hrel
    have HO := Lib.hid hown
    have HB := Lib.hid hB
    clear hown hB
    by_cases hj5 : j < 5
    · have hul := up_len L j hj
      have hj4 : ((4 - j : Nat) : Int) = 4 - (j : Int) := by omega
      have HUP := Lib.hid (show up L (j + 1) = up L j ++ lev (4 - j) (rl L) from rfl)
      obtain ⟨U, hU⟩ : ∃ U, U = up L j := ⟨_, rfl⟩
      rw [← hU] at HO HUP hul
      obtain ⟨N, hN⟩ : ∃ N, N = 4 - j := ⟨_, rfl⟩
      rw [← hN] at HUP hj4
      have hU100 : U.length ≤ 80 := by
        have := HL.out
        have h1 : j * L.length ≤ 4 * 20 := Nat.mul_le_mul (by omega) (by omega)
        omega
      rw [← hj4]
      have hN4 : N ≤ 4 := by omega
      have HJ4 := Lib.hid hj4
      clear hU hul hN hj4
      go_wp2_with fail
      go_loopw [3, 13] (fun u v wr => ∃ (k : Nat), k ≤ m ∧ v = .int .i64 (k : Nat) ∧ wr.ownsRow w.heap.size 87 3 u (U ++ lev N (rl (L.take k))).length (alrl (U ++ lev N (rl (L.take k)))) ∧ Below w.heap.size w wr) (fun _ v _ => m - (intOf v).toNat)
      case atStart => exact ⟨0, Nat.zero_le _, rfl, by simpa [lev, rl] using HO.out, HB.out⟩
      case round =>
        clear HO HB
        obtain ⟨k, hk, rfl, hown, hB⟩ := hrel
        have HO := Lib.hid hown
        have HB := Lib.hid hB
        have hBs := hB.size
        clear hown hB
        by_cases hlt : k < m
        · have hkl : k < L.length := by have := HL.out; omega
          obtain ⟨bb, off, rfl, hlo, hbn, hc⟩ := HR.out.at_ (by omega)
          have hyes := lr_yes L N hkl
          have hne := lr_no L N hkl
          have hno := rl_no L hkl
          have hrg : wr.rangeAt bb (off + k * 3) (Al.cs (L.getD k al0)) := fun j v hv => (HB.out.cell (p := ⟨bb, off + k * 3 + j, none⟩) hbn).trans (hc k hkl j v hv)
          obtain ⟨hr5, _, _⟩ := HOK.out.at hkl
          have hln := lr_len L N k
          rw [HL.out] at hln
          obtain ⟨r, hr⟩ : ∃ r, r = L.getD k al0 := ⟨_, rfl⟩
          rw [← hr] at hyes hne hno hrg hr5
          have HYES := Lib.hid hyes
          have HNE := Lib.hid hne
          have HNO := Lib.hid hno
          have HRG := Lib.hid hrg
          obtain ⟨R, hR⟩ : ∃ R, R = U ++ lev N (rl (L.take k)) := ⟨_, rfl⟩
          have hRl : R.length ≤ 100 := by rw [hR, List.length_append]; omega
          rw [← hR] at HO
          have HRE := Lib.hid hR
          have hal := (Below.refl wr.heap.size wr).alloc (Nat.le_refl _) (.cells #[.int .u8 (r.l : Nat), .int .i64 r.u, .int .u8 (r.e : Nat)] 87)
          have h6 := heap_alloc_new wr (.cells #[.int .u8 (r.l : Nat), .int .i64 r.u, .int .u8 (r.e : Nat)] 87)
          obtain ⟨we, hwe⟩ : ∃ we, wr.alloc (.cells #[.int .u8 (r.l : Nat), .int .i64 r.u, .int .u8 (r.e : Nat)] 87) = we := ⟨_, rfl⟩
          rw [hwe] at hal h6
          have HO2 := Lib.hid (own_keepA HO.out hal)
          have HB2 := Lib.hid (HB.out.trans (hal.mono HB.out.size))
          clear hR hr hyes hne hno hrg hc hal HO HB hlo hln
          have hrl := HRG.out
          go_upto_region 8 with (first | ((with_reducible show wpList _ _ _ (_ :: _) _ _); refine wpList_load_mid rfl 87 _ rfl _ (off + k * 3) rfl (Al.cs r) _ hrl Try.underlying87 rfl size_alr ?_; rw [show (Al.cs r).toArray = #[.int .u8 (r.l : Nat), .int .i64 r.u, .int .u8 (r.e : Nat)] from rfl]; (try go_simp)) | (((with_reducible show wpList _ _ _ (_ :: _) _ _); refine wpList_store_row rfl 87 _ _ rfl _ _ rfl rfl _ _ (heap_alloc_new _ _) (by exact size_alr) (by rfl) (by simp [Value.oneCell']) ?_; rw [World.setRow_alloc_new]); rw [hwe]))
          clear hrl hwe HRG
          obtain ⟨g6, hg6⟩ : ∃ g, g = wr.heap.size := ⟨_, rfl⟩
          rw [← hg6] at h6 ⊢
          clear hg6
          obtain ⟨ua, uc, hu3⟩ := own_formA HO2.out
          subst hu3
          go_wp2_with (refine wpList_load_row rfl 87 _ rfl _ rfl _ _ _ _ h6 Try.underlying87 rfl (by exact size_alr) ?_; (try go_simp))
          refine (rRight_any r.l r.u r.e _ hr5).mono ?_
          rintro e w3 ⟨rfl, hb⟩
          have h7 := box_below h6 hb (box_lt h6)
          have HO3 := Lib.hid (own_keepA HO2.out hb)
          have HB3 := Lib.hid (HB2.out.trans (hb.mono HB2.out.size))
          have hB3s := HB3.out.size
          obtain ⟨t, ht⟩ : ∃ t, t = rgt r.l r.u := ⟨_, rfl⟩
          rw [← ht] at HYES HNO HNE ⊢
          clear h6 hb HO2 HB2 ht
          have c7 := cell_of_row _ _ 0 _ _ _ h7
          cases t
          · have ho : w3.ownsRow w.heap.size 87 3 (.slice ua R.length uc) (U ++ lev N (rl (L.take (k + 1)))).length (alrl (U ++ lev N (rl (L.take (k + 1))))) := by rw [HNO.out rfl, ← HRE.out]; exact HO3.out
            have HO4 := Lib.hid ho
            clear ho HO3 h7 c7 HYES HNO HNE HRE
            go_wp2_with fail
            go_roundw
            case rel => exact ⟨k + 1, by omega, by go_num, HO4.out, HB3.out⟩
            case measure => simp [intOf]; omega
          · by_cases hln : r.l = N
            · have HYY := Lib.hid (show U ++ lev N (rl (L.take (k + 1))) = R ++ [r] by rw [HYES.out rfl hln, HRE.out, List.append_assoc])
              have hlz : ((r.l : Int) == (N : Int)) = true := by rw [hln]; simp
              have HLN := Lib.hid hln
              clear HYES HNO HNE HRE hln
              go_wp2_with (first | (refine wpList_load_row rfl 87 _ rfl _ rfl _ _ _ _ h7 Try.underlying87 rfl (by exact size_alr) ?_; (try go_simp)) | (at_builtin; refine wpList_append_own _ rfl _ _ 80 rfl w.heap.size 87 i0 (.agg #[.int .u8 0, .int .i64 0, .int .u8 0]) 3 24 Try.underlying80 hi hz0 hz1 hz2 rfl (by decide) _ _ _ rfl (HO3.out.alloc _) ⟨w3.heap.size, 0, none⟩ 1 1 [.int .u8 (r.l : Nat), .int .i64 r.u, .int .u8 (r.e : Nat)] rfl rfl (lit_cellsA _ _ _) (by simp [Value.oneCell']) (by unfold maxLen; omega) (by omega) (by simp; omega) ?_))
              intro v' w4 hown4 hgrow4 _
              have hb4 : Below w.heap.size w3 w4 := ((Below.refl _ w3).alloc hB3s _).grown hgrow4 (by simp; omega) (fun j hj => (HO3.out.lt j hj).1)
              have ho : w4.ownsRow w.heap.size 87 3 v' (U ++ lev N (rl (L.take (k + 1)))).length (alrl (U ++ lev N (rl (L.take (k + 1))))) := by
                rw [HYY.out, alrl_snoc, List.length_append]
                exact hown4
              have HO4 := Lib.hid ho
              have HB4 := Lib.hid (HB3.out.trans hb4)
              clear ho hown4 hgrow4 hb4 h7 HYY HO3 HB3
              go_wp2_with fail
              go_roundw
              case rel => exact ⟨k + 1, by omega, by go_num, HO4.out, HB4.out⟩
              case measure => simp [intOf]; omega
            · have hlz : ((r.l : Int) == (N : Int)) = false := by rw [beq_eq_false_iff_ne]; omega
              have ho : w3.ownsRow w.heap.size 87 3 (.slice ua R.length uc) (U ++ lev N (rl (L.take (k + 1)))).length (alrl (U ++ lev N (rl (L.take (k + 1))))) := by rw [HNE.out rfl hln, ← HRE.out]; exact HO3.out
              have HO4 := Lib.hid ho
              clear ho HO3 h7 HYES HNO HNE HRE hln
              go_wp2_with fail
              go_roundw
              case rel => exact ⟨k + 1, by omega, by go_num, HO4.out, HB3.out⟩
              case measure => simp [intOf]; omega
        · obtain rfl : k = m := by omega
          have hLk : L.take k = L := List.take_of_length_le (by have := HL.out; omega)
          have ho := HO.out
          rw [hLk, ← HUP.out] at ho
          have HO2 := Lib.hid ho
          clear ho hLk HO HUP
          have hN1 : (N : Int) - 1 = 4 - ((j + 1 : Nat) : Int) := by have := HJ4.out; omega
          have HN1 := Lib.hid hN1
          clear hN1
          go_wp2_with fail
          go_roundw
          case rel => exact ⟨j + 1, by omega, by rw [HN1.out], HO2.out, HB.out⟩
          case measure => simp [intOf] <;> omega
    · obtain rfl : j = 5 := by omega
      have ho := HO.out
      rw [up_all] at ho
      obtain ⟨ua, uc, hu3⟩ := own_formA ho
      subst hu3
      have HX := Lib.hid (als_own ho rfl)
      clear ho HO
      go_wp2_with fail
      go_ret
      exact ⟨_, _, _, rfl, rfl, HX.out, HB.out⟩
end Go.Proofs.Ytinaimacocgemaa
