/- Contracts of layer 6 (cells), on: made and read; and the document's own. -/
import Derived.Test.YtpgophkegjeheaaCel
import Derived.Test.YtpgophkegjeheaaFloB
namespace Go.Proofs.Ytpgophkegjeheaa
open Go.RowKit Go.Own
set_option linter.unusedVariables false
set_option linter.unusedSimpArgs false

/-- A cell. -/
def mkHead (s n : Nat) : List Nat := numB s 4 ++ numB n 2
def mkCell (s : Nat) (p : List Nat) : List Nat := whole (mkHead s p.length ++ p)
theorem mkHead_eq (s n : Nat) : mkHead s n = [s / 16777216 % 256, s / 65536 % 256, s / 256 % 256, s % 256, n / 256 % 256, n % 256] := by
  simp [mkHead, numB]
theorem mkHead_len (s n : Nat) : (mkHead s n).length = 6 := by simp [mkHead, numB_len]
theorem mkHead_bytes (s n : Nat) : bytes (mkHead s n) := (numB_bytes s 4).append (numB_bytes n 2)
theorem mkBody_bytes {s : Nat} {p : List Nat} (h : bytes p) : bytes (mkHead s p.length ++ p) := (mkHead_bytes _ _).append h
theorem mkCell_len (s : Nat) (p : List Nat) : (mkCell s p).length = p.length + 8 := by simp [mkCell, whole_len, mkHead_len]; omega
theorem mkCell_bytes {s : Nat} {p : List Nat} (h : bytes p) : bytes (mkCell s p) := whole_bytes (mkBody_bytes h)
theorem rightB_whole (l : List Nat) : rightB (whole l) = true := by
  have h1 : (whole l).length = l.length + 2 := whole_len l
  have h2 : (whole l).take l.length = l := by simp [whole]
  have h3 : (whole l).getD l.length 0 = Cr.sum l / 256 := by simp [whole, List.getD]
  have h4 : (whole l).getD (l.length + 1) 0 = Cr.sum l % 256 := by simp [whole, List.getD]
  unfold rightB
  rw [h1, show l.length + 2 - 2 = l.length by omega, show l.length + 2 - 1 = l.length + 1 by omega, h2, h3, h4]
  simp
  omega
theorem mkCell_cons (s : Nat) (p : List Nat) : mkCell s p = (s / 16777216 % 256) :: (s / 65536 % 256) :: (s / 256 % 256) :: (s % 256) :: (p.length / 256 % 256) :: (p.length % 256) :: (p ++ [Cr.sum (mkHead s p.length ++ p) / 256, Cr.sum (mkHead s p.length ++ p) % 256]) := by
  unfold mkCell whole
  rw [show ∀ x y : Nat, (mkHead s p.length ++ p) ++ [x, y] = mkHead s p.length ++ (p ++ [x, y]) from fun x y => List.append_assoc .., mkHead_eq]
  rfl
theorem mkCell_seq (s : Nat) (p : List Nat) (h : s < 4294967296) : pseq (mkCell s p) = s := by
  rw [mkCell_cons]
  simp only [pseq, List.getD_cons_zero, List.getD_cons_succ]
  omega
theorem mkCell_size (s : Nat) (p : List Nat) (h : p.length < 65536) : psize (mkCell s p) = p.length := by
  rw [mkCell_cons]
  simp only [psize, List.getD_cons_zero, List.getD_cons_succ]
  omega
theorem mkCell_dat (s : Nat) (p : List Nat) : pdat (mkCell s p) = p := by
  unfold pdat
  rw [mkCell_len, mkCell_cons]
  simp
theorem mkCell_err (s : Nat) (p : List Nat) (h : p.length ≤ 200) : perr (mkCell s p) = 0 := by
  unfold perr
  rw [mkCell_len, mkCell_size s p (by omega), if_neg (by omega), if_pos (show rightB (mkCell s p) = true from rightB_whole _), if_neg (by omega)]

theorem owns_lit {P : Program} (w : World) (l : List Nat) (hm : l.length ≤ maxLen) : (w.alloc (.cells (bl l).toArray 5)).ownsRow w.heap.size 5 1 (.slice (some ⟨w.heap.size, 0, none⟩) l.length l.length) l.length (bl l) :=
  ⟨by simp [bl], .inr ⟨w.heap.size, l.length, _, rfl, Nat.le_refl _, heap_alloc_new w _, Nat.le_refl _, hm, by simp [bl], by rw [Nat.mul_one]; exact List.take_of_length_le (by simp [bl])⟩⟩

set_option maxRecDepth 100000 in
set_option maxHeartbeats 2000000 in
theorem cMake_any (s : Nat) (a : Option Addr) (len cap n : Nat) (l : List Nat) (w : World) (hs : s < 4294967296) (hl : l.length = len) (hn : n ≤ w.heap.size) (hr : Rd n w a len cap (bv l)) (hb : bytes l) :
    Calls Try.prog 94 #[.int .u32 (s : Nat), .slice a len cap] w fun e w' => Below w.heap.size w w' ∧ ((200 < len ∧ e = .returned (.tuple #[.slice none 0 0, .int .i64 4])) ∨ (len ≤ 200 ∧ ∃ v, e = .returned (.tuple #[v, .int .i64 0]) ∧ w'.ownsRow w.heap.size 5 1 v (len + 8) (bl (mkCell s l)))) := by
  obtain ⟨i0, hi, hz0, hz1, hz2⟩ := info_parts info_u8
  have h1 := hr.le
  have h2 := hr.top
  unfold maxLen at h2
  have HR := Lib.hid hr
  have HL := Lib.hid hl
  clear hr hl
  by_cases h : 200 < len
  · go_enter Try.func94, Try.ntmps94
    go_wp2
    go_ret2
    exact ⟨Below.refl _ _, .inl ⟨h, rfl⟩⟩
  · go_enter Try.func94, Try.ntmps94
    go_wp2_with fail
    have e0 : (s : Int) / 16777216 = ((s / 16777216 % 256 : Nat) : Int) := by omega
    have e1 : (s : Int) / 65536 % 256 = ((s / 65536 % 256 : Nat) : Int) := by omega
    have e2 : (s : Int) / 256 % 256 = ((s / 256 % 256 : Nat) : Int) := by omega
    have e3 : (s : Int) % 256 = ((s % 256 : Nat) : Int) := by omega
    have e4 : (len : Int) / 256 = ((len / 256 % 256 : Nat) : Int) := by omega
    have e5 : (len : Int) = ((len % 256 : Nat) : Int) := by omega
    have hhead : (#[.int .u8 ((s : Int) / 16777216), .int .u8 ((s : Int) / 65536 % 256), .int .u8 ((s : Int) / 256 % 256), .int .u8 ((s : Int) % 256), .int .u8 ((len : Int) / 256), .int .u8 (len : Int)] : Array Value) = (bl (mkHead s len)).toArray := by
      rw [mkHead_eq, e0, e1, e2, e3, e4]
      conv => lhs; rw [e5]
      rfl
    have hown := owns_lit (P := Try.prog) w (mkHead s len) (by rw [mkHead_len]; decide)
    rw [← hhead, mkHead_len] at hown
    clear e0 e1 e2 e3 e4 e5 hhead
    obtain ⟨w1, hw1⟩ : ∃ w1, w1 = w.alloc (.cells #[.int .u8 ((s : Int) / 16777216), .int .u8 ((s : Int) / 65536 % 256), .int .u8 ((s : Int) / 256 % 256), .int .u8 ((s : Int) % 256), .int .u8 ((len : Int) / 256), .int .u8 (len : Int)] 5) := ⟨_, rfl⟩
    have hb1 : Below w.heap.size w w1 := by rw [hw1]; repeat' (first | (with_reducible exact Below.refl _ _) | (with_reducible assumption) | (with_reducible refine Below.setCell ?_ ?_ _) | (with_reducible refine Below.alloc ?_ ?_ _) | (with_reducible refine Below.drew ?_) | (with_reducible refine Below.drawsN ?_ _) | go_size)
    have hs1 : w1.heap.size = w.heap.size + 1 := by rw [hw1]; simp
    rw [← hw1] at hown ⊢
    clear hw1
    go_at_call 97
    refine (Make_any _).mono ?_
    rintro e w2 ⟨rfl, hb2⟩
    have hown := own_keep hown hb2
    have hB2 := hb1.trans (hb2.mono hb1.size)
    go_wp2_with (at_builtin; refine wpList_app rfl _ _ 29 rfl w.heap.size 5 i0 (.int .u8 0) 1 Try.underlying29 hi hz0 hz1 hz2 rfl _ _ _ rfl hown rfl (HR.out.below' hB2 hn) (bv_one _) ?c3 ?c4 ?c5 ?_)
    case c3 => unfold maxLen; omega
    case c4 => omega
    case c5 => exact hB2.size
    intro v' w3 hown3 hgrow3
    have hB3 := hB2.grown hgrow3 hB2.size (fun j hj => (hown.lt j hj).1)
    rw [show List.map (bv l) (List.range len) = bl l by rw [← HL.out]; exact bl_range l, ← bl_append] at hown3
    obtain ⟨a3, c3, rfl⟩ := own_form hown3
    have hlen : (mkHead s len ++ l).length = 6 + len := by rw [List.length_append, mkHead_len, HL.out]
    have hr3 := rd_of_own (f := bv (mkHead s len ++ l)) hown3 (fun j hj => bl_at _ (by rw [hlen]; exact hj))
    have hbb : bytes (mkHead s len ++ l) := (mkHead_bytes _ _).append hb
    have HLEN := Lib.hid hlen
    clear hlen hown3 hgrow3
    go_wp2_with fail
    go_at_call 105
    refine (TAppend_any _ _ _ _ (mkHead s len ++ l) _ HLEN.out (Nat.le_refl _) hr3 hbb (by omega)).mono ?_
    rintro e w4 ⟨v, rfl, hown4, hb4⟩
    go_wp2
    go_ret2
    refine ⟨hB3.trans (hb4.mono hB3.size), .inr ⟨by omega, _, rfl, ?_⟩⟩
    have := own_base hown4 hB3.size
    rw [show 6 + len + 2 = len + 8 by omega, show whole (mkHead s len ++ l) = mkCell s l by unfold mkCell; rw [HL.out]] at this
    exact this

/-- What Parse hands back. -/
def ParsePost (w : World) (l : List Nat) (e : Ending) (w' : World) : Prop :=
  Below w.heap.size w w' ∧ ((perr l = 0 ∧ ∃ x c, e = .returned (.tuple #[.int .u32 (pseq l : Nat), .slice x (pdat l).length c, .int .i64 0]) ∧ Rd w'.heap.size w' x (pdat l).length c (bv (pdat l))) ∨
    (perr l ≠ 0 ∧ e = .returned (.tuple #[.int .u32 0, .slice none 0 0, .int .i64 (perr l : Nat)])))
theorem perr_lt (l : List Nat) : perr l < 6 := by unfold perr; split <;> (try split) <;> (try split) <;> omega
theorem pdat_le (l : List Nat) : (pdat l).length ≤ l.length := by simp [pdat]; omega

set_option maxRecDepth 100000 in
set_option maxHeartbeats 2000000 in
theorem cParse_any (a : Option Addr) (len cap n : Nat) (l : List Nat) (w : World) (hl : l.length = len) (hn : n ≤ w.heap.size) (hr : Rd n w a len cap (bv l)) (hb : bytes l) (hm : len ≤ 1000000) :
    Calls Try.prog 93 #[.slice a len cap] w (ParsePost w l) := by
  have hpl := perr_lt l
  have hdl := pdat_le l
  have h2 := hr.top
  unfold maxLen at h2
  have HR := Lib.hid hr
  have HL := Lib.hid hl
  clear hr hl
  go_enter Try.func93, Try.ntmps93
  go_wp2_with fail
  go_at_call 97
  refine (Make_any _).mono ?_
  rintro e w1 ⟨rfl, hb1⟩
  go_wp2_with fail
  go_at_call 98
  refine (open_any _ _ _ n l _ HL.out (Nat.le_trans hn hb1.size) (HR.out.below' hb1 hn) hb).mono ?_
  rintro e w2 ⟨hb2, ⟨h0, x, c, rfl, hrd⟩ | ⟨h0, rfl⟩⟩
  · have hB2 := hb1.trans (hb2.mono hb1.size)
    obtain ⟨m, hm'⟩ : ∃ m, m = (pdat l).length := ⟨_, rfl⟩
    obtain ⟨q, hq⟩ : ∃ q, q = pseq l := ⟨_, rfl⟩
    rw [← hm'] at hrd hdl ⊢
    rw [← hq]
    have HM := Lib.hid hm'
    have HQ := Lib.hid hq
    have HRD := Lib.hid hrd
    have H0 := Lib.hid h0
    clear hm' hq hrd h0
    go_wp2_with fail
    have hC3 := heap_alloc_new w2 (.cells #[.int .u32 (q : Int), .slice x m c] 173)
    have hB23 : Below w2.heap.size w2 (w2.alloc (.cells #[.int .u32 (q : Int), .slice x m c] 173)) := (Below.refl _ _).alloc (Nat.le_refl _) _
    have hB3 := hB2.trans (hB23.mono hB2.size)
    obtain ⟨w3, hw3⟩ : ∃ w3, w3 = w2.alloc (.cells #[.int .u32 (q : Int), .slice x m c] 173) := ⟨_, rfl⟩
    obtain ⟨g, hg⟩ : ∃ g, g = w2.heap.size := ⟨_, rfl⟩
    have hgw : g < w3.heap.size := by rw [hw3, hg]; simp
    have HRD3 := Lib.hid (HRD.out.below' hB23 (Nat.le_trans hn hB2.size))
    rw [← hw3] at hC3 hB3 HRD3 ⊢
    rw [← hg] at hC3 ⊢
    have hn3 := Nat.le_trans hn hB3.size
    clear hw3 hg hB23 hB2 hb2 hb1 HRD
    have hc0 := cell_of_row w3 g 0 _ _ _ hC3
    have hc1 := cell_of_row w3 g 1 _ _ _ hC3
    obtain ⟨I, W, hne, hWI, hIW⟩ := Go.Mix.family (fun v => Below w3.heap.size w3 v) (Below.refl _ _)
    have HJ := Lib.hid hIW
    have HW := Lib.hid hWI
    clear hWI hIW
    refine Go.Flo.wp_region (fun w' => ∃ i, w' = W i) 8 [SpB (pdat l)] (by kernel_rfl) (by kernel_rfl) (by decide) (by rintro _ w' ⟨i, rfl⟩ hb; exact HJ.out _ ((HW.out i).trans (hb.mono (HW.out i).size))) (HJ.out _ (Below.refl _ _).drew) ?_
    simp only [Go.Flo.pair, Go.Mix.calm, List.take, List.drop, if_true, Bool.false_eq_true, if_false, Nat.reduceAdd, Nat.reduceSub]
    have e0 : ∀ i, (W i).cell? ⟨g, 0, none⟩ = some (.int .u32 (q : Int)) := fun i => ((HW.out i).cell hgw).trans hc0
    have e1 : ∀ i, (W i).cell? ⟨g, 1, none⟩ = some (.slice x m c) := fun i => ((HW.out i).cell hgw).trans hc1
    clear hc0 hc1 hC3
    (repeat (first | (refine Go.Flo.fw_calm rfl ?_ (fun K hK => ?_); (first | exact Go.Mix.wanted_none rfl | exact Go.Mix.wanted_tt rfl rfl rfl | exact Go.Mix.wanted_ff rfl rfl rfl); go_big_quiet_op; refine hK _ ?_; clear hK K) | (refine Go.Flo.fw_skip ?_ (fun K hK => ?_); (first | exact Go.Mix.wanted_tf rfl rfl rfl | exact Go.Mix.wanted_ft rfl rfl rfl); go_simp; refine hK _ ?_; clear hK K) | (refine Go.Flo.fw_any rfl ?_ (fun K hK => ?_); (first | exact Go.Mix.wanted_none rfl | exact Go.Mix.wanted_tt rfl rfl rfl | exact Go.Mix.wanted_ff rfl rfl rfl); go_simp; (try (go_ints; try go_simp)); refine hK _ ?_; clear hK K)))
    refine Go.Flo.fw_loud rfl ?_ rfl (by simp) (fun wv hwv hav K hK => ?_) (fun v hv K hK => ?_)
    · (first | exact Go.Mix.wanted_none rfl | exact Go.Mix.wanted_tt rfl rfl rfl | exact Go.Mix.wanted_ff rfl rfl rfl)
    · obtain ⟨iv, rfl⟩ := hwv
      have hbv := HW.out iv
      (first | go_big_op | go_simp)
      go_at_call 71
      refine (Clone_any _ _ _ n (pdat l) _ (Nat.le_trans hn3 hbv.size) HM.out.symm (HRD3.out.below' hbv hn3) (by have := HL.out; omega)).mono ?_
      rintro e w' ⟨v, rfl, hown, hbb⟩
      exact hK _ _ (owes_B HM.out.symm rfl hbb hown)
    obtain ⟨a9, c9, rfl⟩ := ex_B hv
    go_simp
    refine hK _ ?_
    clear hK K hv
    (repeat (first | (refine Go.Flo.fw_calm rfl ?_ (fun K hK => ?_); (first | exact Go.Mix.wanted_none rfl | exact Go.Mix.wanted_tt rfl rfl rfl | exact Go.Mix.wanted_ff rfl rfl rfl); go_big_quiet_op; refine hK _ ?_; clear hK K) | (refine Go.Flo.fw_skip ?_ (fun K hK => ?_); (first | exact Go.Mix.wanted_tf rfl rfl rfl | exact Go.Mix.wanted_ft rfl rfl rfl); go_simp; refine hK _ ?_; clear hK K) | (refine Go.Flo.fw_any rfl ?_ (fun K hK => ?_); (first | exact Go.Mix.wanted_none rfl | exact Go.Mix.wanted_tt rfl rfl rfl | exact Go.Mix.wanted_ff rfl rfl rfl); go_simp; (try (go_ints; try go_simp)); refine hK _ ?_; clear hK K)))
    refine Go.Flo.fw_nil ?_
    intro w4 hww4 hfw4 huw4
    refine Go.Flo.tw_nil ?_
    obtain ⟨iend, hiend⟩ := hww4
    have hbw4 := HW.out iend
    rw [← hiend] at hbw4
    clear hiend iend huw4
    have hsays := says_B ((hfw4 (some 20)).1.1.1.2 rfl).1
    clear hfw4 HJ HW hne e0 e1
    clear W I
    go_wp2
    go_ret3
    rw [HQ.out, HM.out]
    exact ⟨hB3.trans (hbw4.mono hB3.size), .inl ⟨H0.out, _, _, rfl, hsays⟩⟩
  · obtain ⟨q, hq⟩ : ∃ q, q = perr l := ⟨_, rfl⟩
    rw [← hq] at h0 hpl ⊢
    have HQ := Lib.hid hq
    clear hq
    go_wp2
    go_ret3
    rw [HQ.out]
    exact ⟨(hb1.trans (hb2.mono hb1.size)).alloc (Nat.le_trans hb1.size hb2.size) _, .inr ⟨by rw [← HQ.out]; omega, rfl⟩⟩

theorem rd_three {w : World} {g n : Nat} {u v x : Value} {t : TypeId} (h : w.heap[g]? = some (.cells #[u, v, x] t (0, 0))) (hg : g < n) : Rd n w (some ⟨g, 0, none⟩) 3 3 (fun i => if i = 0 then u else if i = 1 then v else x) :=
  ⟨Nat.le_refl _, by unfold maxLen; omega, fun h => (by cases h), fun _ => ⟨g, 0, rfl, hg, fun i hi => by
    have : i = 0 ∨ i = 1 ∨ i = 2 := by omega
    rcases this with rfl | rfl | rfl
    · exact cell_of_row w g 0 _ _ _ h
    · exact cell_of_row w g 1 _ _ _ h
    · exact cell_of_row w g 2 _ _ _ h⟩⟩
theorem flat_three (l m k : List Nat) : flat (fun i => if i = 0 then l else if i = 1 then m else k) 3 = l ++ m ++ k := by simp [flat, List.range_succ]
theorem Join3 {g : Nat} {a b d : Option Addr} {la lb ld ca cb cd n : Nat} {t : TypeId} {l m k : List Nat} {w : World} (hl : l.length = la) (hm : m.length = lb) (hk : k.length = ld) (h : w.heap[g]? = some (.cells #[.slice a la ca, .slice b lb cb, .slice d ld cd] t (0, 0))) (ra : Rd n w a la ca (bv l)) (rb : Rd n w b lb cb (bv m)) (rd : Rd n w d ld cd (bv k)) (hn : n ≤ w.heap.size) (hs : (l ++ m ++ k).length ≤ 140737488355328) :
    Calls Try.prog 23 #[.slice (some ⟨g, 0, none⟩) 3 3] w fun e w' => ∃ v, e = .returned v ∧ w'.ownsRow w.heap.size 5 1 v (l ++ m ++ k).length (bl (l ++ m ++ k)) ∧ Below w.heap.size w w' := by
  have hr := rd_three h (lt_of_heap h)
  subst hl hm hk
  have hr := hr.same (g := fun i => .slice ((fun i => if i = 0 then a else if i = 1 then b else d) i) ((fun i => if i = 0 then l else if i = 1 then m else k) i).length ((fun i => if i = 0 then ca else if i = 1 then cb else cd) i)) (fun i hi => by
    by_cases h0 : i = 0
    · simp [h0]
    · by_cases h1 : i = 1 <;> simp [h0, h1])
  have := Join_any (some ⟨g, 0, none⟩) 3 3 w.heap.size (fun i => if i = 0 then a else if i = 1 then b else d) (fun i => if i = 0 then ca else if i = 1 then cb else cd) (fun i => if i = 0 then l else if i = 1 then m else k) w (Nat.le_refl _) hr
    (fun i hi => by
      by_cases h0 : i = 0
      · simp only [h0, if_true]; exact ra.mono hn
      · by_cases h1 : i = 1
        · simp only [h0, if_false, h1, if_true]; exact rb.mono hn
        · simp only [h0, if_false, h1]; exact rd.mono hn) (by rw [flat_three]; exact hs)
  rw [flat_three] at this
  exact this

theorem seg_two (l : List Nat) (k : Nat) (h : k + 2 ≤ l.length) : (l.drop k).take 2 = [l.getD k 0, l.getD (k + 1) 0] := by
  apply List.ext_getElem?
  intro i
  rw [List.getElem?_take, List.getElem?_drop]
  match i with
  | 0 => simp [List.getD, show k < l.length by omega]
  | 1 => simp [List.getD, show k + 1 < l.length by omega]
  | i + 2 => rw [if_neg (by omega)]; rfl
theorem seg_four (l : List Nat) (h : 4 ≤ l.length) : l.take 4 = [l.getD 0 0, l.getD 1 0, l.getD 2 0, l.getD 3 0] := by
  match l with
  | a :: b :: c :: d :: r => rfl
theorem val_seq (l : List Nat) (h : 4 ≤ l.length) : val (l.take 4) = pseq l := by
  rw [seg_four l h]; simp [val, pseq]; omega
theorem val_size (l : List Nat) (h : 6 ≤ l.length) : val ((l.drop 4).take 2) = psize l := by
  rw [seg_two l 4 h]; simp [val, psize]; omega
end Go.Proofs.Ytpgophkegjeheaa
