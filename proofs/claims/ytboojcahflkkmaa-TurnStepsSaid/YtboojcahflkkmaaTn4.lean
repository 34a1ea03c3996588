/- Layer 20: the law's comparison of lists; a turn as the document has it. -/
import Derived.Test.YtboojcahflkkmaaTn3
namespace Go.Proofs.Ytboojcahflkkmaa
open Go.RowKit Go.Own Bs
set_option linter.unusedVariables false
set_option linter.unusedSimpArgs false
/-- The values of a row of units. -/
def zv (l : List Nat) : Nat → Value := fun i => .int .i64 ((l.getD i 0 : Nat) : Int)
theorem zl_zv (l : List Nat) (i : Nat) (h : i < l.length) : (zl l)[i]? = some (zv l i) := by simp [zl, zv, List.getD, h]
set_option maxRecDepth 100000 in
set_option maxHeartbeats 2000000 in
theorem same_tn (a : Option Addr) (len cap n s : Nat) (w : World) (hs : s < 65536) (hl : len = (upTo s 16).length) (hn : n ≤ w.heap.size) (hr : Rd n w a len cap (zv (upTo s 16))) :
    Calls Try.prog 50 #[.slice a len cap, .int .u16 (s : Nat)] w fun e w' => e = .returned (.bool true) ∧ Below w.heap.size w w' := by
  have hul := upTo_len s 16
  have h1 := hr.le
  have HR := Lib.hid hr
  have HL := Lib.hid hl
  have HN := Lib.hid hn
  have hlen : len ≤ 16 := by omega
  clear hr hn hul hl
  go_enter Try.func50, Try.ntmps50
  go_wp2_with fail
  go_at_call 68
  refine (List_any s _ hs).mono ?_
  rintro e w2 ⟨v, rfl, ho, hb⟩
  obtain ⟨a2, c2, rfl⟩ := own_formZ ho
  rw [← HL.out] at ho ⊢
  have hr2 := rd_of_own (f := zv (upTo s 16)) ho (fun i hi => zl_zv _ i (by rw [← HL.out]; exact hi))
  have HR1 := Lib.hid (HR.out.below' hb HN.out)
  have HR2 := Lib.hid hr2
  have HB := Lib.hid hb
  clear ho hb hr2 HR
  go_wp2_with fail
  go_loopw [16] (fun i wr => ∃ k : Nat, k ≤ len ∧ i = .int .i64 (k : Nat) ∧ Below w2.heap.size w2 wr) (fun i _ => len - (intOf i).toNat)
  case atStart => exact ⟨0, Nat.zero_le _, rfl, Below.refl _ _⟩
  case round =>
    obtain ⟨k, hk, rfl, hB⟩ := hrel
    by_cases hlt : k < len
    · obtain ⟨b1, o1, rfl, hb1, hc1⟩ := (HR1.out.below' hB (Nat.le_trans HN.out HB.out.size)).at hlt
      obtain ⟨b2, o2, rfl, hb2, hc2⟩ := (HR2.out.below hB).at hlt
      unfold zv at hc1 hc2
      obtain ⟨y, hy⟩ : ∃ y : Int, y = (((upTo s 16).getD k 0 : Nat) : Int) := ⟨_, rfl⟩
      rw [← hy] at hc1 hc2
      have HBB := Lib.hid hB
      clear hy hB
      go_wp2_with fail
      go_region
      all_goals
        go_wp2_with fail
        go_roundw
        case rel => exact ⟨k + 1, by omega, by go_num, HBB.out.drew⟩
        case measure => simp [intOf]; omega
    · obtain rfl : k = len := by omega
      go_wp2_with fail
      go_ret
      exact ⟨rfl, HB.out.trans (hB.mono HB.out.size)⟩
theorem zero_tr (w : World) : (zeroValue 102).run Try.prog w = .ok (.agg #[.int .u8 0, .int .i8 0, .int .i8 0, .int .i8 0, .int .i8 0, .int .i8 0, .int .i8 0, .int .i8 0, .int .i8 0, .int .i8 0, .int .i8 0, .int .i8 0, .int .i8 0]) w := by kernel_rfl
set_option maxRecDepth 100000 in
set_option maxHeartbeats 2000000 in
theorem own_tn (p : Int) (f t : Nat → Int) (w : World) : Calls Try.prog 49 #[.agg #[.int .u8 p, .int .i8 (f 0), .int .i8 (f 1), .int .i8 (f 2), .int .i8 (f 3), .int .i8 (f 4), .int .i8 (f 5), .int .i8 (t 0), .int .i8 (t 1), .int .i8 (t 2), .int .i8 (t 3), .int .i8 (t 4), .int .i8 (t 5)]] w fun e w' => e = .returned (.agg #[.int .u8 p, .int .i8 (f 0), .int .i8 (f 1), .int .i8 (f 2), .int .i8 (f 3), .int .i8 (f 4), .int .i8 (f 5), .int .i8 (t 0), .int .i8 (t 1), .int .i8 (t 2), .int .i8 (t 3), .int .i8 (t 4), .int .i8 (t 5)]) ∧ Below w.heap.size w w' := by
  have hz := zero_tr
  have h1 := heap_alloc2_old w (.cells #[.int .u8 p, .int .i8 (f 0), .int .i8 (f 1), .int .i8 (f 2), .int .i8 (f 3), .int .i8 (f 4), .int .i8 (f 5), .int .i8 (t 0), .int .i8 (t 1), .int .i8 (t 2), .int .i8 (t 3), .int .i8 (t 4), .int .i8 (t 5)] 96) (.cells #[.int .u8 0, .int .i8 0, .int .i8 0, .int .i8 0, .int .i8 0, .int .i8 0, .int .i8 0, .int .i8 0, .int .i8 0, .int .i8 0, .int .i8 0, .int .i8 0, .int .i8 0] 102)
  have h2 := heap_alloc2_new w (.cells #[.int .u8 p, .int .i8 (f 0), .int .i8 (f 1), .int .i8 (f 2), .int .i8 (f 3), .int .i8 (f 4), .int .i8 (f 5), .int .i8 (t 0), .int .i8 (t 1), .int .i8 (t 2), .int .i8 (t 3), .int .i8 (t 4), .int .i8 (t 5)] 96) (.cells #[.int .u8 0, .int .i8 0, .int .i8 0, .int .i8 0, .int .i8 0, .int .i8 0, .int .i8 0, .int .i8 0, .int .i8 0, .int .i8 0, .int .i8 0, .int .i8 0, .int .i8 0] 102)
  have hb0 : Below w.heap.size w ((w.alloc (.cells #[.int .u8 p, .int .i8 (f 0), .int .i8 (f 1), .int .i8 (f 2), .int .i8 (f 3), .int .i8 (f 4), .int .i8 (f 5), .int .i8 (t 0), .int .i8 (t 1), .int .i8 (t 2), .int .i8 (t 3), .int .i8 (t 4), .int .i8 (t 5)] 96)).alloc (.cells #[.int .u8 0, .int .i8 0, .int .i8 0, .int .i8 0, .int .i8 0, .int .i8 0, .int .i8 0, .int .i8 0, .int .i8 0, .int .i8 0, .int .i8 0, .int .i8 0, .int .i8 0] 102)) := by repeat' (first | (with_reducible exact Below.refl _ _) | (with_reducible assumption) | (with_reducible refine Below.setCell ?_ ?_ _) | (with_reducible refine Below.alloc ?_ ?_ _) | (with_reducible refine Below.drew ?_) | (with_reducible refine Below.drawsN ?_ _) | go_size)
  go_enter Try.func49, Try.ntmps49
  go_upto_region 1 with fail
  obtain ⟨w1, hw1⟩ : ∃ w1, w1 = (w.alloc (.cells #[.int .u8 p, .int .i8 (f 0), .int .i8 (f 1), .int .i8 (f 2), .int .i8 (f 3), .int .i8 (f 4), .int .i8 (f 5), .int .i8 (t 0), .int .i8 (t 1), .int .i8 (t 2), .int .i8 (t 3), .int .i8 (t 4), .int .i8 (t 5)] 96)).alloc (.cells #[.int .u8 0, .int .i8 0, .int .i8 0, .int .i8 0, .int .i8 0, .int .i8 0, .int .i8 0, .int .i8 0, .int .i8 0, .int .i8 0, .int .i8 0, .int .i8 0, .int .i8 0] 102) := ⟨_, rfl⟩
  rw [← hw1] at h1 h2 hb0 ⊢
  obtain ⟨g2, hg2⟩ : ∃ g, g = w.heap.size + 1 := ⟨_, rfl⟩
  rw [← hg2] at h2 ⊢
  have hc := ldTp h1
  have h3 := setRow_heap w1 g2 _ #[.int .u8 p, .int .i8 (f 0), .int .i8 (f 1), .int .i8 (f 2), .int .i8 (f 3), .int .i8 (f 4), .int .i8 (f 5), .int .i8 (t 0), .int .i8 (t 1), .int .i8 (t 2), .int .i8 (t 3), .int .i8 (t 4), .int .i8 (t 5)] _ _ h2
  have HB := Lib.hid (bel_rowS hb0 (show w.heap.size ≤ g2 by omega) #[.int .u8 p, .int .i8 (f 0), .int .i8 (f 1), .int .i8 (f 2), .int .i8 (f 3), .int .i8 (f 4), .int .i8 (f 5), .int .i8 (t 0), .int .i8 (t 1), .int .i8 (t 2), .int .i8 (t 3), .int .i8 (t 4), .int .i8 (t 5)])
  have H3 := Lib.hid h3
  clear hw1 hg2 hb0 h3
  go_wp2_with (first | ((with_reducible show wpList _ _ _ (_ :: _) _ _); refine wpList_load_mid rfl 67 _ rfl _ 1 rfl [.int .i8 (f 0), .int .i8 (f 1), .int .i8 (f 2), .int .i8 (f 3), .int .i8 (f 4), .int .i8 (f 5)] _ (rgF h1) Try.underlying67 rfl (by exact size_ch) ?_; (try go_simp)) | ((with_reducible show wpList _ _ _ (_ :: _) _ _); refine wpList_load_mid rfl 67 _ rfl _ 7 rfl [.int .i8 (t 0), .int .i8 (t 1), .int .i8 (t 2), .int .i8 (t 3), .int .i8 (t 4), .int .i8 (t 5)] _ (rgT h1) Try.underlying67 rfl (by exact size_ch) ?_; (try go_simp)) | ((with_reducible show wpList _ _ _ (_ :: _) _ _); refine wpList_store_row rfl 102 _ _ rfl _ _ rfl rfl _ _ h2 (by exact size_tr) (by rfl) (by simp [Value.oneCell']) ?_))
  refine bodyPost_ret (results_cell_row rfl _ _ _ _ _ _ _ rfl H3.out Try.underlying102 rfl (by exact size_tr)) rfl ?_
  exact ⟨rfl, HB.out⟩
end Go.Proofs.Ytboojcahflkkmaa
