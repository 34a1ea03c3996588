/- The helpers of layer 5's statements. -/
import Derived.Test.YtikhlhdjaladgaaCrc2
import Derived.Test.YtikhlhdjaladgaaFloB
import Derived.Lib.SlBytesConst
namespace Go.Proofs.Ytikhlhdjaladgaa
open Go.RowKit Go.Own
set_option linter.unusedVariables false
set_option linter.unusedSimpArgs false

theorem isRow_rd {w : World} {a : Option Addr} {len cap : Nat} {z : List Int} (h : IsRow .u8 w a len cap z) : ∃ l : List Nat, l.length = len ∧ bytes l ∧ Rd w.heap.size w a len cap (bv l) := by
  rcases h with ⟨rfl, rfl, rfl, rfl⟩ | ⟨x, rfl, hl, hm, hz, hcell, hwz⟩
  · exact ⟨[], rfl, fun b hb => (by cases hb), Rd.none_ _ _ _⟩
  · have hw : ∀ n ∈ z, 0 ≤ n ∧ n ≤ 255 := fun n hn => bounds_u8 (hwz n hn)
    refine ⟨(z.take len).map Int.toNat, by simp; omega, ?_, ?_⟩
    · intro b hb
      obtain ⟨n, hn, rfl⟩ := List.mem_map.1 hb
      have := hw n (List.mem_of_mem_take hn)
      omega
    · refine (rd_of_row hl hm (by omega) hcell).same fun i hi => ?_
      have hi2 : i < z.length := by omega
      have := hw (z[i]) (List.getElem_mem hi2)
      unfold bv
      simp only [List.getD, List.getElem?_map, List.getElem?_take, hi, if_true, List.getElem?_eq_getElem hi2, Option.map_some, Option.getD_some]
      rw [Int.toNat_of_nonneg this.1]

theorem TSum2 {g : Nat} {a b : Option Addr} {la lb ca cb n n' : Nat} {t : TypeId} {l m : List Nat} {w : World} (hl : l.length = la) (hm : m.length = lb) (h : w.heap[g]? = some (.cells #[.slice a la ca, .slice b lb cb] t (0, 0))) (ra : Rd n w a la ca (bv l)) (rb : Rd n' w b lb cb (bv m)) (hn : n ≤ w.heap.size) (hn' : n' ≤ w.heap.size) (bl1 : bytes l) (bl2 : bytes m) :
    Calls Try.prog 15 #[.agg tabV, .slice (some ⟨g, 0, none⟩) 2 2] w fun e w' => e = .returned (.int .u16 (Cr.sum (l ++ m) : Nat)) ∧ Below w.heap.size w w' := by
  have hr := rd_two h (lt_of_heap h)
  rw [two_slices l m hl hm] at hr
  subst hl hm
  have := TSum_any (some ⟨g, 0, none⟩) 2 2 w.heap.size (fun i => if i = 0 then a else b) (fun i => if i = 0 then ca else cb) (fun i => if i = 0 then l else m) w (Nat.le_refl _) hr
    (fun i hi => by
      by_cases e : i = 0
      · simp only [e, if_true]; exact ra.mono hn
      · simp only [e, if_false]; exact rb.mono hn') (fun i hi => by
      by_cases e : i = 0
      · simp only [e, if_true]; exact bl1
      · simp only [e, if_false]; exact bl2)
  rw [flat_two] at this
  exact this
theorem TSum0 (w : World) : Calls Try.prog 15 #[.agg tabV, .slice none 0 0] w fun e w' => e = .returned (.int .u16 65535) ∧ Below w.heap.size w w' := by
  have := TSum_any none 0 0 0 (fun _ => none) (fun _ => 0) (fun _ => []) w (Nat.zero_le _) (Rd.none_ _ _ _) (fun i hi => absurd hi (by omega)) (fun i hi => absurd hi (by omega))
  exact this
/-- A block of bytes that was made just now. -/
theorem rd_lit {w : World} {g : Nat} {l : List Nat} {t : TypeId} {fr : Nat × Nat} (h : w.heap[g]? = some (.cells (bl l).toArray t fr)) (hm : l.length ≤ maxLen) : Rd w.heap.size w (some ⟨g, 0, none⟩) l.length l.length (bv l) :=
  ⟨Nat.le_refl _, hm, fun h => (by cases h), fun _ => ⟨g, 0, rfl, lt_of_heap h, fun i hi => by
    rw [Nat.zero_add, cell_of_row w g i _ _ _ h, List.getElem?_toArray, bl_at l hi]⟩⟩
theorem sum_example : Cr.sum ([49, 50, 51, 52, 53] ++ [54, 55, 56, 57]) = 10673 := by decide +kernel

theorem heap3_0 (w : World) (A B C : Obj) : (((w.alloc A).alloc B).alloc C).heap[w.heap.size]? = some A :=
  (Below.heap_alloc _ C _ (by simp; omega)).trans ((Below.heap_alloc _ B _ (by simp)).trans (heap_alloc_new w A))
theorem heap3_1 (w : World) (A B C : Obj) : (((w.alloc A).alloc B).alloc C).heap[w.heap.size + 1]? = some B :=
  (Below.heap_alloc _ C _ (by simp)).trans (heap_alloc2_new w A B)
theorem heap3_2 (w : World) (A B C : Obj) : (((w.alloc A).alloc B).alloc C).heap[w.heap.size + 2]? = some C := by
  have := heap_alloc2_new (w.alloc A) B C
  rw [World.size_alloc] at this
  exact this
theorem convert_next {P : Program} {w : World} {o : Obj} {t e : TypeId} {C : Array Value} {n c : Nat} (h : (convert t t (.slice (some ⟨(w.alloc o).heap.size, 0, none⟩) n c)).run P ((w.alloc o).alloc (.cells C e)) = .ok (.slice (some ⟨(w.alloc o).heap.size, 0, none⟩) n c) ((w.alloc o).alloc (.cells C e (C.size, C.size + 1)))) :
    (convert t t (.slice (some ⟨w.heap.size + 1, 0, none⟩) n c)).run P ((w.alloc o).alloc (.cells C e)) = .ok (.slice (some ⟨w.heap.size + 1, 0, none⟩) n c) ((w.alloc o).alloc (.cells C e (C.size, C.size + 1))) := by
  rw [World.size_alloc] at h
  exact h
set_option maxHeartbeats 1000000 in
theorem awake05 (w : World) : Calls Try.prog 10 #[] w fun e w' => e = .returned (.bool true) ∧ Below w.heap.size w w' := by
  have S1 := Lib.hid sum_example
  have kc := fun (w : World) (C : Array Value) (n c : Nat) => Lib.run_convert_bytes_const (P := Try.prog) w 22 5 C n c Try.underlying22 Try.underlying5
  have kc2 := fun (w : World) (o : Obj) (C : Array Value) (n c : Nat) => convert_next (Lib.run_convert_bytes_const (P := Try.prog) (w.alloc o) 22 5 C n c Try.underlying22 Try.underlying5)
  go_enter Try.func10, Try.ntmps10
  go_wp2_with fail
  go_at_call 12
  refine (Make_any _).mono ?_
  rintro e w1 ⟨rfl, hb⟩
  go_wp2_with fail
  go_at_call 15
  refine (TSum2 (l := [49, 50, 51, 52, 53]) (m := [54, 55, 56, 57]) rfl rfl (heap3_2 _ _ _ _) (rd_lit (l := [49, 50, 51, 52, 53]) (heap3_0 _ _ _ _) (by decide)) (rd_lit (l := [54, 55, 56, 57]) (heap3_1 _ _ _ _) (by decide)) (Nat.le_refl _) (Nat.le_refl _) (by unfold bytes; decide) (by unfold bytes; decide)).mono ?_
  rintro e w2 ⟨rfl, hb2⟩
  rw [S1.out]
  go_wp2
  go_ret
  exact ⟨rfl, hb.trans (((((Below.refl w1.heap.size w1).alloc (Nat.le_refl _) _).alloc (by simp) _).alloc (by simp; omega) _).trans (hb2.mono (by simp; omega)) |>.mono hb.size)⟩

theorem tabV_one : tabV.all (·.oneCell') = true := by rw [← rowV_all]; exact rowV_one 256
theorem goes0 (l : List Nat) (h : bytes l) : Cr.sum (whole l) = 0 := Cr.goes l h
theorem Join1 {g : Nat} {a : Option Addr} {m c n : Nat} {t : TypeId} {l : List Nat} {w : World} (hl : l.length = m) (h : w.heap[g]? = some (.cells #[.slice a m c] t (0, 0))) (hr : Rd n w a m c (bv l)) (hn : n ≤ w.heap.size) (hs : l.length ≤ 140737488355328) :
    Calls Try.prog 22 #[.slice (some ⟨g, 0, none⟩) 1 1] w fun e w' => ∃ v, e = .returned v ∧ w'.ownsRow w.heap.size 5 1 v l.length (bl l) ∧ Below w.heap.size w w' := by
  subst hl
  have := Join_any (some ⟨g, 0, none⟩) 1 1 w.heap.size (fun _ => a) (fun _ => c) (fun _ => l) w (Nat.le_refl _) (rd_one h (lt_of_heap h)) (fun _ _ => hr.mono hn) (by rw [flat_one]; exact hs)
  rw [flat_one] at this
  exact this
theorem set_bl (l : List Nat) (i x : Nat) : (bl l).set i (.int .u8 ((x : Nat) : Int)) = bl (l.set i x) := by
  simp [bl, List.map_set]
theorem set_bytes {l : List Nat} (h : bytes l) (i : Nat) {x : Nat} (hx : x < 256) : bytes (l.set i x) := fun b hb => by
  rcases List.mem_or_eq_of_mem_set hb with hb | rfl
  · exact h b hb
  · exact hx
theorem split_at (l : List Nat) (i : Nat) (h : i < l.length) : l = l.take i ++ l.getD i 0 :: l.drop (i + 1) := by
  have e : l.getD i 0 = l[i] := by simp [List.getD, h]
  rw [e, ← List.drop_eq_getElem_cons h, List.take_append_drop]
theorem set_split (l : List Nat) (i x : Nat) (h : i < l.length) : l.set i x = l.take i ++ x :: l.drop (i + 1) := by
  rw [List.set_eq_take_append_cons_drop, if_pos h]
theorem xor_self_iff (x t : Nat) : x = x ^^^ t ↔ t = 0 := by
  constructor
  · intro h
    have e : x ^^^ (x ^^^ t) = t := by rw [← Nat.xor_assoc, Nat.xor_self, Nat.zero_xor]
    rw [← h, Nat.xor_self] at e
    exact e.symm
  · rintro rfl; simp
theorem one_turn (l : List Nat) (i t : Nat) (hb : bytes l) (h : i < l.length) (ht : t < 256) : Cr.sum l = Cr.sum (l.set i (l.getD i 0 ^^^ t)) ↔ t = 0 := by
  have hx := hb.at i
  have := Cr.one_byte (l.take i) (l.drop (i + 1)) (l.getD i 0) (l.getD i 0 ^^^ t) (hb.take i) (hb.drop _) hx (Nat.xor_lt_two_pow (n := 8) hx ht)
  rw [set_split l i _ h, ← xor_self_iff (l.getD i 0) t]
  conv => lhs; lhs; rw [split_at l i h]
  exact this
theorem bytes_take {l : List Nat} {len n : Nat} (hl : l.length = len) : (l.take n).length = min n len := by rw [List.length_take, hl]

set_option maxRecDepth 100000 in
set_option maxHeartbeats 4000000 in
theorem walk_CrcGoes (a0 : Option Addr) (len0 cap0 : Nat) (z : List Int) (at_ turn : Int) (w : World) (w0 : IsRow .u8 w a0 len0 cap0 z) (wat : (Lit.int .u16 at_).wf = true) (wt : (Lit.int .u8 turn).wf = true) :
    Calls Try.prog 6 #[.slice a0 len0 cap0, .int .u16 at_, .int .u8 turn] w fun e w' => e = .returned (.bool true) ∧ Below w.heap.size w w' := by
  obtain ⟨l0, hl0, hb0, hr0⟩ := isRow_rd w0
  obtain ⟨at0, at1⟩ := bounds_u16 wat
  obtain ⟨t0, t1⟩ := bounds_u8 wt
  have hz := zero_tab
  have HR0 := Lib.hid hr0
  have HL0 := Lib.hid hl0
  have h1 := hr0.le
  have h2 := hr0.top
  unfold maxLen at h2
  clear wat wt w0 hr0 hl0
  go_enter Try.func6, Try.ntmps6
  go_wp2_with (go_at_call 10; refine (awake05 _).mono ?_; rintro e w1 ⟨rfl, hb1⟩)
  go_at_call 11
  refine (Cut_any a0 len0 cap0 l0 200 _ HL0.out ((HR0.out.below hb1).mono hb1.size) (by omega)).mono ?_
  rintro e w2 ⟨v, rfl, hown, hb2⟩
  obtain ⟨l, hl⟩ : ∃ l, l = l0.take 200 := ⟨_, rfl⟩
  have hlb : bytes l := by rw [hl]; exact hb0.take 200
  obtain ⟨m, hm⟩ : ∃ m, m = min 200 len0 := ⟨_, rfl⟩
  have hlm : l.length = m := by rw [hl, hm]; exact bytes_take HL0.out
  have hm2 : m ≤ 200 := by omega
  rw [← hl, ← hm] at hown
  obtain ⟨a, c, rfl⟩ := own_form hown
  have hr := rd_of_own hown (fun i hi => bl_at l (by omega))
  have hB2 := hb1.trans (hb2.mono hb1.size)
  have HLM := Lib.hid hlm
  have HR2 := Lib.hid hr
  clear hl hm hown hr hlm
  go_wp2_with fail
  go_at_call 12
  refine (Make_any _).mono ?_
  rintro e w3 ⟨rfl, hb3⟩
  have hT := IsTab.new w3
  have hB3 := hB2.trans (hb3.mono hB2.size)
  have HR3 := Lib.hid (rd_grow HR2.out hb3)
  clear HR2 hB2 hb1 hb2 hb3
  go_wp2_with (refine wpList_store_row rfl 27 _ _ rfl w3.heap.size tabV rfl rfl 27 (rowV 0) (heap_alloc_new _ _) size_tab' (by rw [rowV_size, tabV_size]) tabV_one ?_; rw [World.setRow_alloc_new])
  have hT := IsTab.new w3
  obtain ⟨w4, hw4⟩ : ∃ w4, w4 = w3.alloc (.cells tabV 27) := ⟨_, rfl⟩
  have hb4 : Below w3.heap.size w3 w4 := by rw [hw4]; exact (Below.refl _ _).alloc (Nat.le_refl _) _
  obtain ⟨gt, hgt⟩ : ∃ gt, gt = w3.heap.size := ⟨_, rfl⟩
  have hg4 : gt < w4.heap.size := by rw [hw4, hgt]; simp
  have hB4 := hB3.trans (hb4.mono hB3.size)
  have HR4 := Lib.hid (rd_grow HR3.out hb4)
  rw [← hw4, ← hgt] at hT
  rw [← hw4, ← hgt]
  clear hw4 hgt HR3 hb4 hB3 hz
  have hgo := goes0 l hlb
  have HGO := Lib.hid hgo
  have hwb := whole_bytes hlb
  have hwl := whole_len l
  rw [HLM.out] at hwl
  have HWL := Lib.hid hwl
  clear hgo hwl
  obtain ⟨I, W, hne, hWI, hIW⟩ := Go.Mix.family (fun v => Below w4.heap.size w4 v) (Below.refl _ _)
  have HJ := Lib.hid hIW
  have HW := Lib.hid hWI
  clear hWI hIW
  refine Go.Flo.wp_region (fun w' => ∃ i, w' = W i) 7 [SpB (whole l), SpRow1 w4.heap.size (whole l) 22, Go.Flo.Spec.is (.int .u16 0)] (by kernel_rfl) (by kernel_rfl) (by decide) (by rintro _ w' ⟨i, rfl⟩ hb; exact HJ.out _ ((HW.out i).trans (hb.mono (HW.out i).size))) (HJ.out _ (Below.refl _ _).drew) ?_
  simp only [Go.Flo.pair, Go.Mix.calm, List.take, List.drop, if_true, Bool.false_eq_true, if_false, Nat.reduceAdd, Nat.reduceSub]
  (refine Go.Flo.fw_calm rfl ?_ (fun K hK => ?_); (first | exact Go.Mix.wanted_none rfl | exact Go.Mix.wanted_tt rfl rfl rfl | exact Go.Mix.wanted_ff rfl rfl rfl); refine Go.Flo.quiet_load_row 27 _ rfl gt rfl _ _ _ (by rintro _ ⟨i, rfl⟩; exact hT.below (HW.out i) hg4) Try.underlying27 rfl size_tab' ?_; go_simp; refine hK _ ?_; clear hK K)
  (refine Go.Flo.fw_calm rfl ?_ (fun K hK => ?_); (first | exact Go.Mix.wanted_none rfl | exact Go.Mix.wanted_tt rfl rfl rfl | exact Go.Mix.wanted_ff rfl rfl rfl); refine Go.Flo.quiet_load_row 27 _ rfl gt rfl _ _ _ (by rintro _ ⟨i, rfl⟩; exact hT.below (HW.out i) hg4) Try.underlying27 rfl size_tab' ?_; go_simp; refine hK _ ?_; clear hK K)
  (repeat (first | (refine Go.Flo.fw_calm rfl ?_ (fun K hK => ?_); (first | exact Go.Mix.wanted_none rfl | exact Go.Mix.wanted_tt rfl rfl rfl | exact Go.Mix.wanted_ff rfl rfl rfl); go_big_quiet_op; refine hK _ ?_; clear hK K) | (refine Go.Flo.fw_skip ?_ (fun K hK => ?_); (first | exact Go.Mix.wanted_tf rfl rfl rfl | exact Go.Mix.wanted_ft rfl rfl rfl); go_simp; refine hK _ ?_; clear hK K) | (refine Go.Flo.fw_any rfl ?_ (fun K hK => ?_); (first | exact Go.Mix.wanted_none rfl | exact Go.Mix.wanted_tt rfl rfl rfl | exact Go.Mix.wanted_ff rfl rfl rfl); go_simp; (try (go_ints; try go_simp)); refine hK _ ?_; clear hK K)))
  refine Go.Flo.fw_loud rfl ?_ rfl (by simp) (fun wv hwv hav K hK => ?_) (fun v hv K hK => ?_)
  · (first | exact Go.Mix.wanted_none rfl | exact Go.Mix.wanted_tt rfl rfl rfl | exact Go.Mix.wanted_ff rfl rfl rfl)
  · obtain ⟨iv, rfl⟩ := hwv
    have hbv := HW.out iv
    (first | go_big_op | go_simp)
    go_at_call 16
    refine (TAppend_any a m c _ l _ HLM.out (Nat.le_refl _) (rd_grow HR4.out hbv) hlb (by omega)).mono ?_
    rintro e w' ⟨v, rfl, hown, hbb⟩
    exact hK _ _ (owes_B HWL.out rfl hbb hown)
  obtain ⟨a5, c5, rfl⟩ := ex_B hv
  go_simp
  refine hK _ ?_
  clear hK K hv
  (repeat (first | (refine Go.Flo.fw_calm rfl ?_ (fun K hK => ?_); (first | exact Go.Mix.wanted_none rfl | exact Go.Mix.wanted_tt rfl rfl rfl | exact Go.Mix.wanted_ff rfl rfl rfl); go_big_quiet_op; refine hK _ ?_; clear hK K) | (refine Go.Flo.fw_skip ?_ (fun K hK => ?_); (first | exact Go.Mix.wanted_tf rfl rfl rfl | exact Go.Mix.wanted_ft rfl rfl rfl); go_simp; refine hK _ ?_; clear hK K) | (refine Go.Flo.fw_any rfl ?_ (fun K hK => ?_); (first | exact Go.Mix.wanted_none rfl | exact Go.Mix.wanted_tt rfl rfl rfl | exact Go.Mix.wanted_ff rfl rfl rfl); go_simp; (try (go_ints; try go_simp)); refine hK _ ?_; clear hK K)))
  refine Go.Flo.fw_loud rfl ?_ rfl (by simp) (fun wv hwv hav K hK => ?_) (fun v hv K hK => ?_)
  · (first | exact Go.Mix.wanted_none rfl | exact Go.Mix.wanted_tt rfl rfl rfl | exact Go.Mix.wanted_ff rfl rfl rfl)
  · obtain ⟨iv, rfl⟩ := hwv
    have hbv := HW.out iv
    (first | go_big_op | go_simp)
    have hs := says_B ((hav 17 (by decide +kernel)).2 rfl).1
    refine hK _ _ (owes_row1 hbv.size rfl hs)
  obtain ⟨g6, rfl⟩ := ex_row1 hv
  go_simp
  refine hK _ ?_
  clear hK K hv
  (repeat (first | (refine Go.Flo.fw_calm rfl ?_ (fun K hK => ?_); (first | exact Go.Mix.wanted_none rfl | exact Go.Mix.wanted_tt rfl rfl rfl | exact Go.Mix.wanted_ff rfl rfl rfl); go_big_quiet_op; refine hK _ ?_; clear hK K) | (refine Go.Flo.fw_skip ?_ (fun K hK => ?_); (first | exact Go.Mix.wanted_tf rfl rfl rfl | exact Go.Mix.wanted_ft rfl rfl rfl); go_simp; refine hK _ ?_; clear hK K) | (refine Go.Flo.fw_any rfl ?_ (fun K hK => ?_); (first | exact Go.Mix.wanted_none rfl | exact Go.Mix.wanted_tt rfl rfl rfl | exact Go.Mix.wanted_ff rfl rfl rfl); go_simp; (try (go_ints; try go_simp)); refine hK _ ?_; clear hK K)))
  refine Go.Flo.fw_loud rfl ?_ rfl (by simp) (fun wv hwv hav K hK => ?_) (fun v hv K hK => ?_)
  · (first | exact Go.Mix.wanted_none rfl | exact Go.Mix.wanted_tt rfl rfl rfl | exact Go.Mix.wanted_ff rfl rfl rfl)
  · obtain ⟨iv, rfl⟩ := hwv
    have hbv := HW.out iv
    (first | go_big_op | go_simp)
    obtain ⟨a7, c7, hh, hs⟩ := says_row1 ((hav 18 (by decide +kernel)).2 rfl).1
    go_at_call 15
    refine (TSum1 rfl hh hs (Nat.le_refl _) hwb).mono ?_
    rintro e w' ⟨rfl, hbb⟩
    rw [HGO.out]
    exact hK _ _ (Go.Flo.owes_is _ rfl hbb)
  obtain rfl := hv.is
  go_simp
  refine hK _ ?_
  clear hK K hv
  (repeat (first | (refine Go.Flo.fw_calm rfl ?_ (fun K hK => ?_); (first | exact Go.Mix.wanted_none rfl | exact Go.Mix.wanted_tt rfl rfl rfl | exact Go.Mix.wanted_ff rfl rfl rfl); go_big_quiet_op; refine hK _ ?_; clear hK K) | (refine Go.Flo.fw_skip ?_ (fun K hK => ?_); (first | exact Go.Mix.wanted_tf rfl rfl rfl | exact Go.Mix.wanted_ft rfl rfl rfl); go_simp; refine hK _ ?_; clear hK K) | (refine Go.Flo.fw_any rfl ?_ (fun K hK => ?_); (first | exact Go.Mix.wanted_none rfl | exact Go.Mix.wanted_tt rfl rfl rfl | exact Go.Mix.wanted_ff rfl rfl rfl); go_simp; (try (go_ints; try go_simp)); refine hK _ ?_; clear hK K)))
  refine Go.Flo.fw_nil ?_
  intro w5 hww5 hfw5 huw5
  refine Go.Flo.tw_nil ?_
  obtain ⟨iend, hiend⟩ := hww5
  have hbw5 := HW.out iend
  rw [← hiend] at hbw5
  clear hiend iend huw5
  clear hfw5
  have hB5 := hB4.trans (hbw5.mono hB4.size)
  have HR5 := Lib.hid (rd_grow HR4.out hbw5)
  have hT5 := hT.below hbw5 hg4
  have hg5 := Nat.lt_of_lt_of_le hg4 hbw5.size
  clear hT hg4 hB4 HR4 HW HJ hne hbw5
  clear W I
  rcases Nat.eq_zero_or_pos m with rfl | hpos
  · go_wp2
    go_ret
    exact ⟨rfl, hB5⟩
  go_wp2_with fail
  go_at_call 22
  have hb6 : Below w5.heap.size w5 (w5.alloc (.cells #[.slice a m c] 22)) := (Below.refl _ _).alloc (Nat.le_refl _) _
  refine (Join1 (l := l) HLM.out (heap_alloc_new _ _) (rd_grow HR5.out hb6) (Nat.le_refl _) (by rw [HLM.out]; omega)).mono ?_
  rintro e w6 ⟨vq, rfl, hown, hb7⟩
  have hb6 := hb6.trans (hb7.mono hb6.size)
  obtain ⟨g, cq, rfl, hbase, hglt⟩ := own_some hown (by rw [HLM.out]; exact hpos)
  rw [HLM.out] at hown
  have hgw : w5.heap.size < g := by simp at hbase; omega
  obtain ⟨at', rfl⟩ := Int.eq_ofNat_of_zero_le at0
  obtain ⟨t, rfl⟩ := Int.eq_ofNat_of_zero_le t0
  obtain ⟨i, hi⟩ : ∃ i, i = at' % m := ⟨_, rfl⟩
  have him : i < m := by rw [hi]; exact Nat.mod_lt _ hpos
  have hcell := hown.cellAt i (by omega)
  have hfr := hown.frozenAt i
  rw [bl_at _ (by rw [HLM.out]; exact him)] at hcell
  unfold bv at hcell
  have hx := hlb.at i
  have hset := set_bl l i (l.getD i 0 ^^^ t)
  have hone := one_turn l i t hlb (by rw [HLM.out]; exact him) (by omega)
  obtain ⟨x, hx'⟩ : ∃ x, x = l.getD i 0 := ⟨_, rfl⟩
  rw [← hx'] at hcell hx hset hone
  have hxor : bits .xor .u8 (x : Int) (t : Int) = ((x ^^^ t : Nat) : Int) := xor8 x t hx (by omega)
  have hxl : x ^^^ t < 256 := Nat.xor_lt_two_pow (n := 8) hx (by omega)
  have hmod : (at' : Int) % (m : Int) = (i : Int) := by rw [hi]; simp
  have HO := Lib.hid hown
  have HSET := Lib.hid hset
  have HONE := Lib.hid hone
  have HX := Lib.hid hx'
  have HI := Lib.hid hi
  clear hown hset hone hx' hi hb7 hbase
  have hmne : ((m : Int) == 0) = false := by rw [beq_eq_false_iff_ne]; omega
  rw [HLM.out]
  go_wp2
  obtain ⟨l2, hl2⟩ : ∃ l2, l2 = l.set i (x ^^^ t) := ⟨_, rfl⟩
  have hl2b : bytes l2 := by rw [hl2]; exact set_bytes hlb i hxl
  have hl2m : l2.length = m := by rw [hl2, List.length_set]; exact HLM.out
  obtain ⟨hown7, hgrow7⟩ := HO.out.stored i (.int .u8 ((x ^^^ t : Nat) : Int))
  rw [HSET.out, ← hl2] at hown7
  have hone := HONE.out
  rw [← hl2] at hone
  obtain ⟨s1, hs1⟩ : ∃ s1, s1 = Cr.sum l := ⟨_, rfl⟩
  obtain ⟨s2, hs2⟩ : ∃ s2, s2 = Cr.sum l2 := ⟨_, rfl⟩
  rw [← hs1, ← hs2] at hone
  have hb67 : Below w5.heap.size w6 (w6.setCell ⟨g, i, none⟩ (.int .u8 ((x ^^^ t : Nat) : Int))) := (Below.refl _ _).setCell (p := ⟨g, i, none⟩) (Nat.le_of_lt hgw) _
  obtain ⟨w7, hw7⟩ : ∃ w7, w7 = w6.setCell ⟨g, i, none⟩ (.int .u8 ((x ^^^ t : Nat) : Int)) := ⟨_, rfl⟩
  rw [← hw7] at hown7 hb67 ⊢
  have hb57 := hb6.trans hb67
  have hB7 := hB5.trans (hb57.mono hB5.size)
  have hT7 := hT5.below hb57 hg5
  have hg7 := Nat.lt_of_lt_of_le hg5 hb57.size
  have HR7 := Lib.hid (rd_grow HR5.out hb57)
  have HQ7 := Lib.hid (rd_of_own (f := bv l2) hown7 (fun j hj => bl_at l2 (by omega)))
  have HS1 := Lib.hid hs1
  have HS2 := Lib.hid hs2
  have HONE2 := Lib.hid hone
  have HL2 := Lib.hid hl2m
  clear hw7 hown7 hgrow7 hb67 hb57 hone hs1 hs2 hl2 hl2m hcell hfr hxor hmod hT5 hg5 hB5 hb6 hmne HO HSET HONE HR5
  obtain ⟨I, W, hne, hWI, hIW⟩ := Go.Mix.family (fun v => Below w7.heap.size w7 v) (Below.refl _ _)
  have HJ := Lib.hid hIW
  have HW := Lib.hid hWI
  clear hWI hIW
  refine Go.Flo.wp_region (fun w' => ∃ i, w' = W i) 13 [Go.Flo.Spec.row w7.heap.size 1 #[.slice a m c] 22, Go.Flo.Spec.is (.int .u16 (s1 : Nat)), Go.Flo.Spec.row w7.heap.size 1 #[.slice (some ⟨g, 0, none⟩) m cq] 22, Go.Flo.Spec.is (.int .u16 (s2 : Nat))] (by kernel_rfl) (by kernel_rfl) (by decide) (by rintro _ w' ⟨i, rfl⟩ hb; exact HJ.out _ ((HW.out i).trans (hb.mono (HW.out i).size))) (HJ.out _ (Below.refl _ _).drew) ?_
  simp only [Go.Flo.pair, Go.Mix.calm, List.take, List.drop, if_true, Bool.false_eq_true, if_false, Nat.reduceAdd, Nat.reduceSub]
  (refine Go.Flo.fw_calm rfl ?_ (fun K hK => ?_); (first | exact Go.Mix.wanted_none rfl | exact Go.Mix.wanted_tt rfl rfl rfl | exact Go.Mix.wanted_ff rfl rfl rfl); refine Go.Flo.quiet_load_row 27 _ rfl gt rfl _ _ _ (by rintro _ ⟨i, rfl⟩; exact hT7.below (HW.out i) hg7) Try.underlying27 rfl size_tab' ?_; go_simp; refine hK _ ?_; clear hK K)
  (repeat (first | (refine Go.Flo.fw_calm rfl ?_ (fun K hK => ?_); (first | exact Go.Mix.wanted_none rfl | exact Go.Mix.wanted_tt rfl rfl rfl | exact Go.Mix.wanted_ff rfl rfl rfl); go_big_quiet_op; refine hK _ ?_; clear hK K) | (refine Go.Flo.fw_skip ?_ (fun K hK => ?_); (first | exact Go.Mix.wanted_tf rfl rfl rfl | exact Go.Mix.wanted_ft rfl rfl rfl); go_simp; refine hK _ ?_; clear hK K) | (refine Go.Flo.fw_any rfl ?_ (fun K hK => ?_); (first | exact Go.Mix.wanted_none rfl | exact Go.Mix.wanted_tt rfl rfl rfl | exact Go.Mix.wanted_ff rfl rfl rfl); go_simp; (try (go_ints; try go_simp)); refine hK _ ?_; clear hK K)))
  refine Go.Flo.fw_loud rfl ?_ rfl (by simp) (fun wv hwv hav K hK => ?_) (fun v hv K hK => ?_)
  · (first | exact Go.Mix.wanted_none rfl | exact Go.Mix.wanted_tt rfl rfl rfl | exact Go.Mix.wanted_ff rfl rfl rfl)
  · obtain ⟨iv, rfl⟩ := hwv
    (first | go_big_op | go_simp)
    refine hK _ _ (Go.Flo.owes_row (HW.out iv).size)
  obtain ⟨g8, hg8, rfl⟩ := hv.row
  go_simp
  refine hK _ ?_
  clear hK K hv
  refine Go.Flo.fw_loud rfl ?_ rfl (by simp) (fun wv hwv hav K hK => ?_) (fun v hv K hK => ?_)
  · (first | exact Go.Mix.wanted_none rfl | exact Go.Mix.wanted_tt rfl rfl rfl | exact Go.Mix.wanted_ff rfl rfl rfl)
  · obtain ⟨iv, rfl⟩ := hwv
    have hbv := HW.out iv
    (first | go_big_op | go_simp)
    have hs := Go.Flo.says_row ((hav 40 (by decide +kernel)).2 rfl).1
    go_at_call 15
    refine (TSum1 HLM.out hs (rd_grow HR7.out hbv) (Nat.le_refl _) hlb).mono ?_
    rintro e w' ⟨rfl, hbb⟩
    rw [← HS1.out]
    exact hK _ _ (Go.Flo.owes_is _ rfl hbb)
  obtain rfl := hv.is
  go_simp
  refine hK _ ?_
  clear hK K hv
  (refine Go.Flo.fw_calm rfl ?_ (fun K hK => ?_); (first | exact Go.Mix.wanted_none rfl | exact Go.Mix.wanted_tt rfl rfl rfl | exact Go.Mix.wanted_ff rfl rfl rfl); refine Go.Flo.quiet_load_row 27 _ rfl gt rfl _ _ _ (by rintro _ ⟨i, rfl⟩; exact hT7.below (HW.out i) hg7) Try.underlying27 rfl size_tab' ?_; go_simp; refine hK _ ?_; clear hK K)
  (repeat (first | (refine Go.Flo.fw_calm rfl ?_ (fun K hK => ?_); (first | exact Go.Mix.wanted_none rfl | exact Go.Mix.wanted_tt rfl rfl rfl | exact Go.Mix.wanted_ff rfl rfl rfl); go_big_quiet_op; refine hK _ ?_; clear hK K) | (refine Go.Flo.fw_skip ?_ (fun K hK => ?_); (first | exact Go.Mix.wanted_tf rfl rfl rfl | exact Go.Mix.wanted_ft rfl rfl rfl); go_simp; refine hK _ ?_; clear hK K) | (refine Go.Flo.fw_any rfl ?_ (fun K hK => ?_); (first | exact Go.Mix.wanted_none rfl | exact Go.Mix.wanted_tt rfl rfl rfl | exact Go.Mix.wanted_ff rfl rfl rfl); go_simp; (try (go_ints; try go_simp)); refine hK _ ?_; clear hK K)))
  refine Go.Flo.fw_loud rfl ?_ rfl (by simp) (fun wv hwv hav K hK => ?_) (fun v hv K hK => ?_)
  · (first | exact Go.Mix.wanted_none rfl | exact Go.Mix.wanted_tt rfl rfl rfl | exact Go.Mix.wanted_ff rfl rfl rfl)
  · obtain ⟨iv, rfl⟩ := hwv
    (first | go_big_op | go_simp)
    refine hK _ _ (Go.Flo.owes_row (HW.out iv).size)
  obtain ⟨g9, hg9, rfl⟩ := hv.row
  go_simp
  refine hK _ ?_
  clear hK K hv
  refine Go.Flo.fw_loud rfl ?_ rfl (by simp) (fun wv hwv hav K hK => ?_) (fun v hv K hK => ?_)
  · (first | exact Go.Mix.wanted_none rfl | exact Go.Mix.wanted_tt rfl rfl rfl | exact Go.Mix.wanted_ff rfl rfl rfl)
  · obtain ⟨iv, rfl⟩ := hwv
    have hbv := HW.out iv
    (first | go_big_op | go_simp)
    have hs := Go.Flo.says_row ((hav 44 (by decide +kernel)).2 rfl).1
    go_at_call 15
    refine (TSum1 HL2.out hs (rd_grow HQ7.out hbv) (Nat.le_refl _) hl2b).mono ?_
    rintro e w' ⟨rfl, hbb⟩
    rw [← HS2.out]
    exact hK _ _ (Go.Flo.owes_is _ rfl hbb)
  obtain rfl := hv.is
  go_simp
  refine hK _ ?_
  clear hK K hv
  (repeat (first | (refine Go.Flo.fw_calm rfl ?_ (fun K hK => ?_); (first | exact Go.Mix.wanted_none rfl | exact Go.Mix.wanted_tt rfl rfl rfl | exact Go.Mix.wanted_ff rfl rfl rfl); go_big_quiet_op; refine hK _ ?_; clear hK K) | (refine Go.Flo.fw_skip ?_ (fun K hK => ?_); (first | exact Go.Mix.wanted_tf rfl rfl rfl | exact Go.Mix.wanted_ft rfl rfl rfl); go_simp; refine hK _ ?_; clear hK K) | (refine Go.Flo.fw_any rfl ?_ (fun K hK => ?_); (first | exact Go.Mix.wanted_none rfl | exact Go.Mix.wanted_tt rfl rfl rfl | exact Go.Mix.wanted_ff rfl rfl rfl); go_simp; (try (go_ints; try go_simp)); refine hK _ ?_; clear hK K)))
  refine Go.Flo.fw_nil ?_
  intro w8 hww8 hfw8 huw8
  refine Go.Flo.tw_nil ?_
  obtain ⟨iend, hiend⟩ := hww8
  have hbw8 := HW.out iend
  rw [← hiend] at hbw8
  clear hiend iend huw8
  clear hfw8
  go_wp2
  go_ret
  refine ⟨?_, hB7.trans (hbw8.mono hB7.size)⟩
  have hone := HONE2.out
  show Ending.returned (.bool _) = _
  congr 2
  by_cases h0 : t = 0
  · have := hone.2 h0
    simp [h0, this]
  · have : ¬ s1 = s2 := fun e => h0 (hone.1 e)
    have h3 : ((s1 : Int) == (s2 : Int)) = false := by rw [beq_eq_false_iff_ne]; omega
    have h4 : ((t : Int) == 0) = false := by rw [beq_eq_false_iff_ne]; omega
    simp [h3, h4]
end Go.Proofs.Ytikhlhdjaladgaa
