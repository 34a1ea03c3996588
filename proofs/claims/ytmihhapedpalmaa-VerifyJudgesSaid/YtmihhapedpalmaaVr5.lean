/- Layer 12: the document's Judge. -/
import Derived.Test.YtmihhapedpalmaaVrM
import Derived.Test.YtmihhapedpalmaaVrP
import Derived.Test.YtmihhapedpalmaaVfV
namespace Go.Proofs.Ytmihhapedpalmaa
open Go.RowKit Go.Own Go.Maps
set_option linter.unusedVariables false
set_option linter.unusedSimpArgs false
theorem results_tmp_cell {P : Program} {fn : Func} {p u : Tmp} {ty : TypeId} (h : fn.results = #[.tmp u, .cell p ty]) (tmps : Array Value) (w : World) (g : Nat) (t : TypeId) (cs : Array Value) (fr : Nat × Nat) {d : TypeDesc}
    (hp : tmps.getD p undef = .pointer (some ⟨g, 0, none⟩)) (hg : w.heap[g]? = some (.cells cs t fr))
    (hu : P.underlying ty = some d) (hd : (match d with | .struct _ | .array _ _ => true | _ => false) = true) (hi : (P.info? ty).map (·.size) = some cs.size) :
    (results fn tmps).run P w = .ok (.tuple #[tmps.getD u undef, .agg cs]) w := by
  have hp' : tmps[p]?.getD undef = .pointer (some ⟨g, 0, none⟩) := by simpa using hp
  simp only [results, h]
  simp [Sem.run_bind, Result.andThen, hp', asAddr, run_loadVar_row w g t ty cs fr d hg hu hd hi]
/-- What the document's Judge answers. -/
def DJdg (w : World) (l : List Nat) (apid : Nat) (T : Nat → Nat → Option (Int × Int)) (e : Ending) (w' : World) : Prop :=
  Below w.heap.size w w' ∧ ∃ (a s u c : Nat) (x : Option Addr) (m cp : Nat), e = .returned (.tuple #[.int .i64 (vdC T l apid : Nat), .agg #[.int .u8 (a : Nat), .int .u8 (s : Nat), .int .u8 (u : Nat), .int .u16 (c : Nat), .slice x m cp]]) ∧
    (vdC T l apid = 0 → a = (pdat l).getD 0 0 % 16 ∧ s = (pdat l).getD 1 0 ∧ u = (pdat l).getD 2 0 ∧ c = at2 (pdat l) 3 ∧ m = (pdat l).length - 5 ∧ Rd w'.heap.size w' x m cp (bv ((pdat l).drop 5))) ∧
    (vdC T l apid ≠ 0 → a = 0 ∧ s = 0 ∧ u = 0 ∧ c = 0 ∧ x = none ∧ m = 0 ∧ cp = 0)
theorem upc_bad {l : List Nat} (h : l.length < 9 ∨ psize l + 7 ≠ l.length ∨ 208 < l.length) : upC l = 2 := by
  unfold upC
  by_cases h2 : 208 < l.length
  · rw [if_pos h2]
  · have he : pkErr l = 2 := by unfold pkErr; rw [if_pos (by omega)]
    rw [if_neg h2, he, if_neg (by decide), if_neg (by decide)]
theorem vdc_up {T : Nat → Nat → Option (Int × Int)} {l : List Nat} {ap : Nat} (h : upC l ≠ 0) : vdC T l ap = upC l := by unfold vdC; rw [if_pos h]
theorem upc_at {l : List Nat} (h : ¬ 208 < l.length) : upC l = if pkErr l = 0 then 0 else if pkErr l = 5 then 3 else 2 := by unfold upC; rw [if_neg h]
theorem RwS.monoV {lo n n' : Nat} {w : World} {a : Option Addr} {cap : Nat} {l : List Rw} (h : RwS lo n w a cap l) (hn : n ≤ n') : RwS lo n' w a cap l :=
  ⟨h.le, h.top, fun hl => by
    obtain ⟨x, off, e, hlo, hlt, hc⟩ := h.at_ hl
    exact ⟨x, off, e, hlo, Nat.lt_of_lt_of_le hlt hn, hc⟩⟩
/- #1 the world, #2 how many operations, #3 the result's box, #4 the empty command's box, #5 the slot loaded -/
theorem djC_snoc (R : List Rw) (x : Rw) (s : Nat) : djC (R ++ [x]) s = if x.s = s then 5 else djC R s := by
  unfold djC
  rw [List.any_append]
  by_cases h : x.s = s <;> simp [h]
theorem djN_snoc (R : List Rw) (x : Rw) (s u : Nat) : djN (R ++ [x]) s u = (djN R s u && !(x.s == s && x.u == u)) := by
  unfold djN
  rw [List.any_append]
  simp [Bool.not_or]
set_option maxRecDepth 100000 in
set_option maxHeartbeats 8000000 in
theorem rJudge12 (a : Option Addr) (len cap n ap m : Nat) (l : List Nat) (L : List Rw) (x5 : Option Addr) (c5 : Nat) (w : World) (hl : l.length = len) (hn : n ≤ w.heap.size) (hr : Rd n w a len cap (bv l)) (hb : bytes l) (hm : len ≤ 1000000)
    (hL : L.length = m) (hm12 : m ≤ 12) (hok : RwOk L) (hR : RwS 0 w.heap.size w x5 c5 L) :
    Calls Try.prog 32 #[.slice a len cap, .int .u16 (ap : Nat), .slice x5 m c5] w (DJdg w l ap (tabL L)) := by
  have hzc := zero_rc
  have h1 := hr.le
  have h2 := hr.top
  unfold maxLen at h2
  have hb0 : Below w.heap.size w ((w.alloc (.cells #[.int .u8 0, .int .u8 0, .int .u8 0, .int .u16 0, .slice none 0 0] 72)).alloc (.cells #[.int .u8 0, .int .u8 0, .int .u8 0, .int .u16 0, .slice none 0 0] 72)) := by repeat' (first | (with_reducible exact Below.refl _ _) | (with_reducible assumption) | (with_reducible refine Below.setCell ?_ ?_ _) | (with_reducible refine Below.alloc ?_ ?_ _) | (with_reducible refine Below.drew ?_) | (with_reducible refine Below.drawsN ?_ _) | go_size)
  have h71 := heap_alloc2_old w (.cells #[.int .u8 0, .int .u8 0, .int .u8 0, .int .u16 0, .slice none 0 0] 72) (.cells #[.int .u8 0, .int .u8 0, .int .u8 0, .int .u16 0, .slice none 0 0] 72)
  have h81 := heap_alloc2_new w (.cells #[.int .u8 0, .int .u8 0, .int .u8 0, .int .u16 0, .slice none 0 0] 72) (.cells #[.int .u8 0, .int .u8 0, .int .u8 0, .int .u16 0, .slice none 0 0] 72)
  have h72 := (setRow_other _ (w.heap.size + 1) w.heap.size #[.int .u8 0, .int .u8 0, .int .u8 0, .int .u16 0, .slice none 0 0] (by omega)).trans h71
  have h82 := setRow_heap _ _ _ #[.int .u8 0, .int .u8 0, .int .u8 0, .int .u16 0, .slice none 0 0] _ _ h81
  have hb0 := below_setRow hb0 (show w.heap.size ≤ w.heap.size + 1 by omega) #[.int .u8 0, .int .u8 0, .int .u8 0, .int .u16 0, .slice none 0 0]
  have hr2 := hr.below' hb0 hn
  obtain ⟨w2, hw2⟩ : ∃ w2, ((w.alloc (.cells #[.int .u8 0, .int .u8 0, .int .u8 0, .int .u16 0, .slice none 0 0] 72)).alloc (.cells #[.int .u8 0, .int .u8 0, .int .u8 0, .int .u16 0, .slice none 0 0] 72)).setRow (w.heap.size + 1) #[.int .u8 0, .int .u8 0, .int .u8 0, .int .u16 0, .slice none 0 0] = w2 := ⟨_, rfl⟩
  rw [hw2] at hb0 h72 h82 hr2
  have HRW := Lib.hid (hR.below hb0 (Nat.le_refl _))
  have HL := Lib.hid hl
  have HLL := Lib.hid hL
  have HOK := Lib.hid hok
  have hn2 := Nat.le_trans hn hb0.size
  have HR2 := Lib.hid hr2
  clear hr hl hR hL hok hr2
  go_enter Try.func32, Try.ntmps32
  go_upto_region 2 with ((with_reducible show wpList _ _ _ (_ :: _) _ _); refine wpList_store_row rfl 72 _ _ rfl _ _ rfl rfl _ _ h81 (by exact size_rc) (by rfl) (by simp [Value.oneCell']) ?_; (try go_simp))
  clear h71 h81
  (try rw [hw2])
  obtain ⟨g8, hg8⟩ : ∃ g8, g8 = w.heap.size + 1 := ⟨_, rfl⟩
  rw [← hg8] at h82 ⊢
  obtain ⟨g7, hg7⟩ : ∃ g7, g7 = w.heap.size := ⟨_, rfl⟩
  rw [← hg7] at h72
  have hg7b : w.heap.size ≤ g7 := by omega
  have hg78 : g7 ≠ g8 := by omega
  rw [show (Value.pointer (some ⟨w.heap.size, 0, none⟩)) = .pointer (some ⟨g7, 0, none⟩) by rw [hg7]]
  clear hg7 hg8
  have hg7s : g7 < w2.heap.size := box_lt h72
  clear hw2
  have H7 := Lib.hid h72
  have H8 := Lib.hid h82
  have HB2 := Lib.hid hb0
  clear h72 h82 hb0
  by_cases h9 : len < 9
  · have HV := Lib.hid (show vdC (tabL L) l ap = 2 by rw [vdc_up (by rw [upc_bad (.inl (by rw [HL.out]; exact h9))]; decide), upc_bad (.inl (by rw [HL.out]; exact h9))])
    go_wp2_with fail
    have l7 := box_lt H7.out
    have l8 := box_lt H8.out
    obtain ⟨I, W, hne, hWI, hIW⟩ := Go.Mix.family (fun v => Below w2.heap.size w2 v) (Below.refl _ _)
    have HJ := Lib.hid hIW
    have HW := Lib.hid hWI
    clear hWI hIW
    refine Go.Flo.wp_region (fun w' => ∃ i, w' = W i) 2 [] (by kernel_rfl) (by kernel_rfl) (by decide) (by rintro _ w' ⟨i, rfl⟩ hb; exact HJ.out _ ((HW.out i).trans (hb.mono (HW.out i).size))) (HJ.out _ (Below.refl _ _).drew) ?_
    simp only [Go.Flo.pair, Go.Mix.calm, List.take, List.drop, if_true, Bool.false_eq_true, if_false, Nat.reduceAdd, Nat.reduceSub]
    (refine Go.Flo.fw_calm rfl ?_ (fun K hK => ?_); (first | exact Go.Mix.wanted_none rfl | exact Go.Mix.wanted_tt rfl rfl rfl | exact Go.Mix.wanted_ff rfl rfl rfl); refine Go.Flo.quiet_load_row 72 _ rfl _ rfl _ #[.int .u8 0, .int .u8 0, .int .u8 0, .int .u16 0, .slice none 0 0] _ (by rintro _ ⟨i, rfl⟩; exact ((HW.out i).block _ l8).trans H8.out) Try.underlying72 rfl size_rc ?_; go_simp; refine hK _ ?_; clear hK K)
    (repeat (first | (refine Go.Flo.fw_calm rfl ?_ (fun K hK => ?_); (first | exact Go.Mix.wanted_none rfl | exact Go.Mix.wanted_tt rfl rfl rfl | exact Go.Mix.wanted_ff rfl rfl rfl); go_big_quiet_op; refine hK _ ?_; clear hK K) | (refine Go.Flo.fw_skip ?_ (fun K hK => ?_); (first | exact Go.Mix.wanted_tf rfl rfl rfl | exact Go.Mix.wanted_ft rfl rfl rfl); go_simp; refine hK _ ?_; clear hK K) | (refine Go.Flo.fw_any rfl ?_ (fun K hK => ?_); (first | exact Go.Mix.wanted_none rfl | exact Go.Mix.wanted_tt rfl rfl rfl | exact Go.Mix.wanted_ff rfl rfl rfl); go_simp; (try (go_ints; try go_simp)); refine hK _ ?_; clear hK K)))
    refine Go.Flo.fw_nil ?_
    intro wz hwwz hfwz huwz
    obtain ⟨iend, hiend⟩ := hwwz
    have hbwz := HW.out iend
    rw [← hiend] at hbwz
    clear hiend iend huwz
    have j7 := (hbwz.block g7 l7).trans H7.out
    have HBZ := Lib.hid hbwz
    clear hfwz HJ HW hne hbwz
    clear W I
    refine Go.Flo.tw_step ?_ (fun K hK => ?_)
    · (first | exact Go.Mix.wanted_none rfl | exact Go.Mix.wanted_tt rfl rfl rfl | exact Go.Mix.wanted_ff rfl rfl rfl)
    refine wp_store_row 72 (.tmp 7) (.tmp 34) rfl g7 _ rfl rfl 72 _ j7 size_rc rfl (by simp [Value.oneCell']) (hK _ _ ?_)
    clear hK K
    refine Go.Flo.tw_nil ?_
    go_wp2_with fail
    refine bodyPost_ret (results_tmp_cell rfl _ _ g7 _ _ _ rfl (setRow_heap _ _ _ _ _ _ j7) Try.underlying72 rfl size_rc) rfl ?_
    exact ⟨below_setRow (HB2.out.trans (HBZ.out.mono HB2.out.size)) hg7b _, 0, 0, 0, 0, none, 0, 0, by rw [HV.out]; rfl, fun h => absurd (HV.out.symm.trans h) (by decide), fun _ => ⟨rfl, rfl, rfl, rfl, rfl, rfl, rfl⟩⟩
  obtain ⟨b, off, rfl, hbn, _⟩ := HR2.out.row (by omega)
  have hp4 := hb.at 4
  have hp5 := hb.at 5
  have hz : val ((l.drop 4).take 2) = l.getD 4 0 * 256 + l.getD 5 0 := val_seg l 4 (by rw [HL.out]; omega)
  have hps : psize l = val ((l.drop 4).take 2) := by rw [hz]; rfl
  have hz2 : val ((l.drop 4).take 2) < 65536 := by rw [hz]; omega
  have hsg := rd_seg (k := 4) (m := 2) HR2.out (by omega)
  have hsl : ((l.drop 4).take 2).length = 2 := by rw [List.length_take, List.length_drop, HL.out]; omega
  have hb4 : bytes ((l.drop 4).take 2) := (hb.drop 4).take 2
  obtain ⟨z, hz'⟩ : ∃ z, z = val ((l.drop 4).take 2) := ⟨_, rfl⟩
  rw [← hz'] at hps hz2
  have HZ := Lib.hid hz'
  have HSG := Lib.hid hsg
  have HSL := Lib.hid hsl
  have HPS := Lib.hid hps
  clear hz hz' hsg hsl hps hp4 hp5
  go_wp2_with fail
  go_at_call 34
  refine (Value_any (some ⟨b, off + 4, none⟩) 2 (cap - 4) n ((l.drop 4).take 2) w2 HSL.out HSG.out hb4 (by omega)).mono ?_
  rintro e w3 ⟨rfl, rfl⟩
  rw [← HZ.out]
  by_cases hz7 : z + 7 = len
  rotate_left
  · have hzI : ((z : Int) + 7 != (len : Int)) = true := by rw [bne_iff_ne]; omega
    have hub := upc_bad (l := l) (.inr (.inl (by rw [HPS.out, HL.out]; exact hz7)))
    have HV := Lib.hid (show vdC (tabL L) l ap = 2 by rw [vdc_up (by rw [hub]; decide), hub])
    clear hub
    go_wp2_with fail
    have l7 := box_lt H7.out
    have l8 := box_lt H8.out
    obtain ⟨I, W, hne, hWI, hIW⟩ := Go.Mix.family (fun v => Below w2.heap.size w2 v) (Below.refl _ _)
    have HJ := Lib.hid hIW
    have HW := Lib.hid hWI
    clear hWI hIW
    refine Go.Flo.wp_region (fun w' => ∃ i, w' = W i) 2 [] (by kernel_rfl) (by kernel_rfl) (by decide) (by rintro _ w' ⟨i, rfl⟩ hb; exact HJ.out _ ((HW.out i).trans (hb.mono (HW.out i).size))) (HJ.out _ (Below.refl _ _).drew) ?_
    simp only [Go.Flo.pair, Go.Mix.calm, List.take, List.drop, if_true, Bool.false_eq_true, if_false, Nat.reduceAdd, Nat.reduceSub]
    (refine Go.Flo.fw_calm rfl ?_ (fun K hK => ?_); (first | exact Go.Mix.wanted_none rfl | exact Go.Mix.wanted_tt rfl rfl rfl | exact Go.Mix.wanted_ff rfl rfl rfl); refine Go.Flo.quiet_load_row 72 _ rfl _ rfl _ #[.int .u8 0, .int .u8 0, .int .u8 0, .int .u16 0, .slice none 0 0] _ (by rintro _ ⟨i, rfl⟩; exact ((HW.out i).block _ l8).trans H8.out) Try.underlying72 rfl size_rc ?_; go_simp; refine hK _ ?_; clear hK K)
    (repeat (first | (refine Go.Flo.fw_calm rfl ?_ (fun K hK => ?_); (first | exact Go.Mix.wanted_none rfl | exact Go.Mix.wanted_tt rfl rfl rfl | exact Go.Mix.wanted_ff rfl rfl rfl); go_big_quiet_op; refine hK _ ?_; clear hK K) | (refine Go.Flo.fw_skip ?_ (fun K hK => ?_); (first | exact Go.Mix.wanted_tf rfl rfl rfl | exact Go.Mix.wanted_ft rfl rfl rfl); go_simp; refine hK _ ?_; clear hK K) | (refine Go.Flo.fw_any rfl ?_ (fun K hK => ?_); (first | exact Go.Mix.wanted_none rfl | exact Go.Mix.wanted_tt rfl rfl rfl | exact Go.Mix.wanted_ff rfl rfl rfl); go_simp; (try (go_ints; try go_simp)); refine hK _ ?_; clear hK K)))
    refine Go.Flo.fw_nil ?_
    intro wz hwwz hfwz huwz
    obtain ⟨iend, hiend⟩ := hwwz
    have hbwz := HW.out iend
    rw [← hiend] at hbwz
    clear hiend iend huwz
    have j7 := (hbwz.block g7 l7).trans H7.out
    have HBZ := Lib.hid hbwz
    clear hfwz HJ HW hne hbwz
    clear W I
    refine Go.Flo.tw_step ?_ (fun K hK => ?_)
    · (first | exact Go.Mix.wanted_none rfl | exact Go.Mix.wanted_tt rfl rfl rfl | exact Go.Mix.wanted_ff rfl rfl rfl)
    refine wp_store_row 72 (.tmp 7) (.tmp 34) rfl g7 _ rfl rfl 72 _ j7 size_rc rfl (by simp [Value.oneCell']) (hK _ _ ?_)
    clear hK K
    refine Go.Flo.tw_nil ?_
    go_wp2_with fail
    refine bodyPost_ret (results_tmp_cell rfl _ _ g7 _ _ _ rfl (setRow_heap _ _ _ _ _ _ j7) Try.underlying72 rfl size_rc) rfl ?_
    exact ⟨below_setRow (HB2.out.trans (HBZ.out.mono HB2.out.size)) hg7b _, 0, 0, 0, 0, none, 0, 0, by rw [HV.out]; rfl, fun h => absurd (HV.out.symm.trans h) (by decide), fun _ => ⟨rfl, rfl, rfl, rfl, rfl, rfl, rfl⟩⟩
  have hzI : ((z : Int) + 7 != (len : Int)) = false := by rw [bne_eq_false_iff_eq]; omega
  by_cases h208 : 208 < len
  · have hub := upc_bad (l := l) (.inr (.inr (by rw [HL.out]; exact h208)))
    have HV := Lib.hid (show vdC (tabL L) l ap = 2 by rw [vdc_up (by rw [hub]; decide), hub])
    clear hub
    go_wp2_with fail
    have l7 := box_lt H7.out
    have l8 := box_lt H8.out
    obtain ⟨I, W, hne, hWI, hIW⟩ := Go.Mix.family (fun v => Below w2.heap.size w2 v) (Below.refl _ _)
    have HJ := Lib.hid hIW
    have HW := Lib.hid hWI
    clear hWI hIW
    refine Go.Flo.wp_region (fun w' => ∃ i, w' = W i) 2 [] (by kernel_rfl) (by kernel_rfl) (by decide) (by rintro _ w' ⟨i, rfl⟩ hb; exact HJ.out _ ((HW.out i).trans (hb.mono (HW.out i).size))) (HJ.out _ (Below.refl _ _).drew) ?_
    simp only [Go.Flo.pair, Go.Mix.calm, List.take, List.drop, if_true, Bool.false_eq_true, if_false, Nat.reduceAdd, Nat.reduceSub]
    (refine Go.Flo.fw_calm rfl ?_ (fun K hK => ?_); (first | exact Go.Mix.wanted_none rfl | exact Go.Mix.wanted_tt rfl rfl rfl | exact Go.Mix.wanted_ff rfl rfl rfl); refine Go.Flo.quiet_load_row 72 _ rfl _ rfl _ #[.int .u8 0, .int .u8 0, .int .u8 0, .int .u16 0, .slice none 0 0] _ (by rintro _ ⟨i, rfl⟩; exact ((HW.out i).block _ l8).trans H8.out) Try.underlying72 rfl size_rc ?_; go_simp; refine hK _ ?_; clear hK K)
    (repeat (first | (refine Go.Flo.fw_calm rfl ?_ (fun K hK => ?_); (first | exact Go.Mix.wanted_none rfl | exact Go.Mix.wanted_tt rfl rfl rfl | exact Go.Mix.wanted_ff rfl rfl rfl); go_big_quiet_op; refine hK _ ?_; clear hK K) | (refine Go.Flo.fw_skip ?_ (fun K hK => ?_); (first | exact Go.Mix.wanted_tf rfl rfl rfl | exact Go.Mix.wanted_ft rfl rfl rfl); go_simp; refine hK _ ?_; clear hK K) | (refine Go.Flo.fw_any rfl ?_ (fun K hK => ?_); (first | exact Go.Mix.wanted_none rfl | exact Go.Mix.wanted_tt rfl rfl rfl | exact Go.Mix.wanted_ff rfl rfl rfl); go_simp; (try (go_ints; try go_simp)); refine hK _ ?_; clear hK K)))
    refine Go.Flo.fw_nil ?_
    intro wz hwwz hfwz huwz
    obtain ⟨iend, hiend⟩ := hwwz
    have hbwz := HW.out iend
    rw [← hiend] at hbwz
    clear hiend iend huwz
    have j7 := (hbwz.block g7 l7).trans H7.out
    have HBZ := Lib.hid hbwz
    clear hfwz HJ HW hne hbwz
    clear W I
    refine Go.Flo.tw_step ?_ (fun K hK => ?_)
    · (first | exact Go.Mix.wanted_none rfl | exact Go.Mix.wanted_tt rfl rfl rfl | exact Go.Mix.wanted_ff rfl rfl rfl)
    refine wp_store_row 72 (.tmp 7) (.tmp 34) rfl g7 _ rfl rfl 72 _ j7 size_rc rfl (by simp [Value.oneCell']) (hK _ _ ?_)
    clear hK K
    refine Go.Flo.tw_nil ?_
    go_wp2_with fail
    refine bodyPost_ret (results_tmp_cell rfl _ _ g7 _ _ _ rfl (setRow_heap _ _ _ _ _ _ j7) Try.underlying72 rfl size_rc) rfl ?_
    exact ⟨below_setRow (HB2.out.trans (HBZ.out.mono HB2.out.size)) hg7b _, 0, 0, 0, 0, none, 0, 0, by rw [HV.out]; rfl, fun h => absurd (HV.out.symm.trans h) (by decide), fun _ => ⟨rfl, rfl, rfl, rfl, rfl, rfl, rfl⟩⟩
  have HUP := Lib.hid (upc_at (l := l) (by rw [HL.out]; exact h208))
  clear HPS HSG HSL HZ
  go_wp2_with fail
  go_at_call 71
  refine (rParse09 (some ⟨b, off, none⟩) len cap n l w2 HL.out hn2 HR2.out hb hm).mono ?_
  rintro e w3 hpp
  obtain ⟨hb3, kb, A, C, x, pm, pc, rfl, hok3⟩ := hpp.uni
  have HOK3 := Lib.hid hok3
  obtain ⟨er, her⟩ : ∃ er, er = pkErr l := ⟨_, rfl⟩
  rw [← her]
  have HER := Lib.hid her
  have HB3 := Lib.hid hb3
  have hzp := zero_rp
  obtain ⟨w4, hw4⟩ : ∃ w4, w3.alloc (.cells #[.bool kb, .int .u16 (A : Nat), .int .u16 (C : Nat), .slice x pm pc] 129) = w4 := ⟨_, rfl⟩
  have h94 := heap_alloc_new w3 (.cells #[.bool kb, .int .u16 (A : Nat), .int .u16 (C : Nat), .slice x pm pc] 129)
  have hal := (Below.refl w3.heap.size w3).alloc (Nat.le_refl _) (.cells #[.bool kb, .int .u16 (A : Nat), .int .u16 (C : Nat), .slice x pm pc] 129)
  rw [hw4] at h94 hal
  have HAL := Lib.hid hal
  have H94 := Lib.hid h94
  clear hpp hok3 her hb3 hal h94 HR2 hb4
  go_upto_region 5 with ((with_reducible show wpList _ _ _ (_ :: _) _ _); refine wpList_store_row rfl 129 _ _ rfl _ _ rfl rfl _ _ (heap_alloc_new _ _) (by exact size_rp) (by rfl) (by simp [Value.oneCell']) ?_; rw [World.setRow_alloc_new, hw4])
  obtain ⟨g9, hg9⟩ : ∃ g9, g9 = w3.heap.size := ⟨_, rfl⟩
  have h94 := H94.out
  have hs23 := HB3.out.size
  rw [← hg9] at h94 ⊢
  have hb24 := HB3.out.trans (HAL.out.mono HB3.out.size)
  have H74 := Lib.hid ((hb24.block g7 hg7s).trans H7.out)
  have H84 := Lib.hid ((hb24.block g8 (box_lt H8.out)).trans H8.out)
  have HB4 := Lib.hid (HB2.out.trans (hb24.mono HB2.out.size))
  have HB24 := Lib.hid hb24
  have H9 := Lib.hid h94
  have hw4s := HAL.out.size
  clear hg9 h94 hb24 H94 hw4 hzp
  by_cases h5 : er = 5
  · have heI : ((er : Int) == 5) = true := by simp [h5]
    have hup : upC l = 3 := by rw [HUP.out, ← HER.out, if_neg (by omega), if_pos h5]
    have HV := Lib.hid (show vdC (tabL L) l ap = 3 by rw [vdc_up (by rw [hup]; decide), hup])
    clear hup HOK3
    go_wp2_with fail
    have l7 := box_lt H74.out
    have l8 := box_lt H84.out
    obtain ⟨I, W, hne, hWI, hIW⟩ := Go.Mix.family (fun v => Below w4.heap.size w4 v) (Below.refl _ _)
    have HJ := Lib.hid hIW
    have HW := Lib.hid hWI
    clear hWI hIW
    refine Go.Flo.wp_region (fun w' => ∃ i, w' = W i) 2 [] (by kernel_rfl) (by kernel_rfl) (by decide) (by rintro _ w' ⟨i, rfl⟩ hb; exact HJ.out _ ((HW.out i).trans (hb.mono (HW.out i).size))) (HJ.out _ (Below.refl _ _).drew) ?_
    simp only [Go.Flo.pair, Go.Mix.calm, List.take, List.drop, if_true, Bool.false_eq_true, if_false, Nat.reduceAdd, Nat.reduceSub]
    (refine Go.Flo.fw_calm rfl ?_ (fun K hK => ?_); (first | exact Go.Mix.wanted_none rfl | exact Go.Mix.wanted_tt rfl rfl rfl | exact Go.Mix.wanted_ff rfl rfl rfl); refine Go.Flo.quiet_load_row 72 _ rfl _ rfl _ #[.int .u8 0, .int .u8 0, .int .u8 0, .int .u16 0, .slice none 0 0] _ (by rintro _ ⟨i, rfl⟩; exact ((HW.out i).block _ l8).trans H84.out) Try.underlying72 rfl size_rc ?_; go_simp; refine hK _ ?_; clear hK K)
    (repeat (first | (refine Go.Flo.fw_calm rfl ?_ (fun K hK => ?_); (first | exact Go.Mix.wanted_none rfl | exact Go.Mix.wanted_tt rfl rfl rfl | exact Go.Mix.wanted_ff rfl rfl rfl); go_big_quiet_op; refine hK _ ?_; clear hK K) | (refine Go.Flo.fw_skip ?_ (fun K hK => ?_); (first | exact Go.Mix.wanted_tf rfl rfl rfl | exact Go.Mix.wanted_ft rfl rfl rfl); go_simp; refine hK _ ?_; clear hK K) | (refine Go.Flo.fw_any rfl ?_ (fun K hK => ?_); (first | exact Go.Mix.wanted_none rfl | exact Go.Mix.wanted_tt rfl rfl rfl | exact Go.Mix.wanted_ff rfl rfl rfl); go_simp; (try (go_ints; try go_simp)); refine hK _ ?_; clear hK K)))
    refine Go.Flo.fw_nil ?_
    intro wz hwwz hfwz huwz
    obtain ⟨iend, hiend⟩ := hwwz
    have hbwz := HW.out iend
    rw [← hiend] at hbwz
    clear hiend iend huwz
    have j7 := (hbwz.block g7 l7).trans H74.out
    have HBZ := Lib.hid hbwz
    clear hfwz HJ HW hne hbwz
    clear W I
    refine Go.Flo.tw_step ?_ (fun K hK => ?_)
    · (first | exact Go.Mix.wanted_none rfl | exact Go.Mix.wanted_tt rfl rfl rfl | exact Go.Mix.wanted_ff rfl rfl rfl)
    refine wp_store_row 72 (.tmp 7) (.tmp 42) rfl g7 _ rfl rfl 72 _ j7 size_rc rfl (by simp [Value.oneCell']) (hK _ _ ?_)
    clear hK K
    refine Go.Flo.tw_nil ?_
    go_wp2_with fail
    refine bodyPost_ret (results_tmp_cell rfl _ _ g7 _ _ _ rfl (setRow_heap _ _ _ _ _ _ j7) Try.underlying72 rfl size_rc) rfl ?_
    exact ⟨below_setRow (HB4.out.trans (HBZ.out.mono HB4.out.size)) hg7b _, 0, 0, 0, 0, none, 0, 0, by rw [HV.out]; rfl, fun h => absurd (HV.out.symm.trans h) (by decide), fun _ => ⟨rfl, rfl, rfl, rfl, rfl, rfl, rfl⟩⟩
  have heI : ((er : Int) == 5) = false := by rw [beq_eq_false_iff_ne]; omega
  by_cases h0 : er = 0
  rotate_left
  · have hnI : ((er : Int) != 0) = true := by rw [bne_iff_ne]; omega
    have hup : upC l = 2 := by rw [HUP.out, ← HER.out, if_neg h0, if_neg h5]
    have HV := Lib.hid (show vdC (tabL L) l ap = 2 by rw [vdc_up (by rw [hup]; decide), hup])
    clear hup HOK3
    go_wp2_with fail
    have l7 := box_lt H74.out
    have l8 := box_lt H84.out
    obtain ⟨I, W, hne, hWI, hIW⟩ := Go.Mix.family (fun v => Below w4.heap.size w4 v) (Below.refl _ _)
    have HJ := Lib.hid hIW
    have HW := Lib.hid hWI
    clear hWI hIW
    refine Go.Flo.wp_region (fun w' => ∃ i, w' = W i) 2 [] (by kernel_rfl) (by kernel_rfl) (by decide) (by rintro _ w' ⟨i, rfl⟩ hb; exact HJ.out _ ((HW.out i).trans (hb.mono (HW.out i).size))) (HJ.out _ (Below.refl _ _).drew) ?_
    simp only [Go.Flo.pair, Go.Mix.calm, List.take, List.drop, if_true, Bool.false_eq_true, if_false, Nat.reduceAdd, Nat.reduceSub]
    (refine Go.Flo.fw_calm rfl ?_ (fun K hK => ?_); (first | exact Go.Mix.wanted_none rfl | exact Go.Mix.wanted_tt rfl rfl rfl | exact Go.Mix.wanted_ff rfl rfl rfl); refine Go.Flo.quiet_load_row 72 _ rfl _ rfl _ #[.int .u8 0, .int .u8 0, .int .u8 0, .int .u16 0, .slice none 0 0] _ (by rintro _ ⟨i, rfl⟩; exact ((HW.out i).block _ l8).trans H84.out) Try.underlying72 rfl size_rc ?_; go_simp; refine hK _ ?_; clear hK K)
    (repeat (first | (refine Go.Flo.fw_calm rfl ?_ (fun K hK => ?_); (first | exact Go.Mix.wanted_none rfl | exact Go.Mix.wanted_tt rfl rfl rfl | exact Go.Mix.wanted_ff rfl rfl rfl); go_big_quiet_op; refine hK _ ?_; clear hK K) | (refine Go.Flo.fw_skip ?_ (fun K hK => ?_); (first | exact Go.Mix.wanted_tf rfl rfl rfl | exact Go.Mix.wanted_ft rfl rfl rfl); go_simp; refine hK _ ?_; clear hK K) | (refine Go.Flo.fw_any rfl ?_ (fun K hK => ?_); (first | exact Go.Mix.wanted_none rfl | exact Go.Mix.wanted_tt rfl rfl rfl | exact Go.Mix.wanted_ff rfl rfl rfl); go_simp; (try (go_ints; try go_simp)); refine hK _ ?_; clear hK K)))
    refine Go.Flo.fw_nil ?_
    intro wz hwwz hfwz huwz
    obtain ⟨iend, hiend⟩ := hwwz
    have hbwz := HW.out iend
    rw [← hiend] at hbwz
    clear hiend iend huwz
    have j7 := (hbwz.block g7 l7).trans H74.out
    have HBZ := Lib.hid hbwz
    clear hfwz HJ HW hne hbwz
    clear W I
    refine Go.Flo.tw_step ?_ (fun K hK => ?_)
    · (first | exact Go.Mix.wanted_none rfl | exact Go.Mix.wanted_tt rfl rfl rfl | exact Go.Mix.wanted_ff rfl rfl rfl)
    refine wp_store_row 72 (.tmp 7) (.tmp 45) rfl g7 _ rfl rfl 72 _ j7 size_rc rfl (by simp [Value.oneCell']) (hK _ _ ?_)
    clear hK K
    refine Go.Flo.tw_nil ?_
    go_wp2_with fail
    refine bodyPost_ret (results_tmp_cell rfl _ _ g7 _ _ _ rfl (setRow_heap _ _ _ _ _ _ j7) Try.underlying72 rfl size_rc) rfl ?_
    exact ⟨below_setRow (HB4.out.trans (HBZ.out.mono HB4.out.size)) hg7b _, 0, 0, 0, 0, none, 0, 0, by rw [HV.out]; rfl, fun h => absurd (HV.out.symm.trans h) (by decide), fun _ => ⟨rfl, rfl, rfl, rfl, rfl, rfl, rfl⟩⟩
  have hnI : ((er : Int) != 0) = false := by rw [bne_eq_false_iff_eq]; omega
  have HUP0 := Lib.hid (show upC l = 0 by rw [HUP.out, ← HER.out, if_pos h0])
  obtain ⟨ekb, eA, _, em, hrx⟩ := HOK3.out (by rw [← HER.out]; exact h0)
  have HRX := Lib.hid hrx
  have EKB := Lib.hid ekb
  have EA := Lib.hid eA
  have EM := Lib.hid em
  have hpb : bytes (pdat l) := by unfold pdat; exact (hb.drop 6).take _
  have hpl : (pdat l).length ≤ 208 := by
    unfold pdat
    rw [List.length_take, List.length_drop, HL.out]; omega
  have HPB := Lib.hid hpb
  have HPL := Lib.hid hpl
  clear HUP HER h5 h0 ekb eA em hrx hpb hpl HOK3
  have k90 := cell_of_row w4 g9 0 _ _ _ H9.out
  have k91 := cell_of_row w4 g9 1 _ _ _ H9.out
  have k93 := cell_of_row w4 g9 3 _ _ _ H9.out
  simp at k90 k91 k93
  by_cases hbad : kb = false ∨ A ≠ ap
  · have HV := Lib.hid (show vdC (tabL L) l ap = 1 by unfold vdC; rw [if_neg (by rw [HUP0.out]; decide), ← EKB.out, ← EA.out, if_pos hbad])
    rcases hkb : kb with _ | _
    · subst hkb
      clear hbad
      go_wp2_with fail
      have l7 := box_lt H74.out
      have l8 := box_lt H84.out
      obtain ⟨I, W, hne, hWI, hIW⟩ := Go.Mix.family (fun v => Below w4.heap.size w4 v) (Below.refl _ _)
      have HJ := Lib.hid hIW
      have HW := Lib.hid hWI
      clear hWI hIW
      refine Go.Flo.wp_region (fun w' => ∃ i, w' = W i) 2 [] (by kernel_rfl) (by kernel_rfl) (by decide) (by rintro _ w' ⟨i, rfl⟩ hb; exact HJ.out _ ((HW.out i).trans (hb.mono (HW.out i).size))) (HJ.out _ (Below.refl _ _).drew) ?_
      simp only [Go.Flo.pair, Go.Mix.calm, List.take, List.drop, if_true, Bool.false_eq_true, if_false, Nat.reduceAdd, Nat.reduceSub]
      (refine Go.Flo.fw_calm rfl ?_ (fun K hK => ?_); (first | exact Go.Mix.wanted_none rfl | exact Go.Mix.wanted_tt rfl rfl rfl | exact Go.Mix.wanted_ff rfl rfl rfl); refine Go.Flo.quiet_load_row 72 _ rfl _ rfl _ #[.int .u8 0, .int .u8 0, .int .u8 0, .int .u16 0, .slice none 0 0] _ (by rintro _ ⟨i, rfl⟩; exact ((HW.out i).block _ l8).trans H84.out) Try.underlying72 rfl size_rc ?_; go_simp; refine hK _ ?_; clear hK K)
      (repeat (first | (refine Go.Flo.fw_calm rfl ?_ (fun K hK => ?_); (first | exact Go.Mix.wanted_none rfl | exact Go.Mix.wanted_tt rfl rfl rfl | exact Go.Mix.wanted_ff rfl rfl rfl); go_big_quiet_op; refine hK _ ?_; clear hK K) | (refine Go.Flo.fw_skip ?_ (fun K hK => ?_); (first | exact Go.Mix.wanted_tf rfl rfl rfl | exact Go.Mix.wanted_ft rfl rfl rfl); go_simp; refine hK _ ?_; clear hK K) | (refine Go.Flo.fw_any rfl ?_ (fun K hK => ?_); (first | exact Go.Mix.wanted_none rfl | exact Go.Mix.wanted_tt rfl rfl rfl | exact Go.Mix.wanted_ff rfl rfl rfl); go_simp; (try (go_ints; try go_simp)); refine hK _ ?_; clear hK K)))
      refine Go.Flo.fw_nil ?_
      intro wz hwwz hfwz huwz
      obtain ⟨iend, hiend⟩ := hwwz
      have hbwz := HW.out iend
      rw [← hiend] at hbwz
      clear hiend iend huwz
      have j7 := (hbwz.block g7 l7).trans H74.out
      have HBZ := Lib.hid hbwz
      clear hfwz HJ HW hne hbwz
      clear W I
      refine Go.Flo.tw_step ?_ (fun K hK => ?_)
      · (first | exact Go.Mix.wanted_none rfl | exact Go.Mix.wanted_tt rfl rfl rfl | exact Go.Mix.wanted_ff rfl rfl rfl)
      refine wp_store_row 72 (.tmp 7) (.tmp 55) rfl g7 _ rfl rfl 72 _ j7 size_rc rfl (by simp [Value.oneCell']) (hK _ _ ?_)
      clear hK K
      refine Go.Flo.tw_nil ?_
      go_wp2_with fail
      refine bodyPost_ret (results_tmp_cell rfl _ _ g7 _ _ _ rfl (setRow_heap _ _ _ _ _ _ j7) Try.underlying72 rfl size_rc) rfl ?_
      exact ⟨below_setRow (HB4.out.trans (HBZ.out.mono HB4.out.size)) hg7b _, 0, 0, 0, 0, none, 0, 0, by rw [HV.out]; rfl, fun h => absurd (HV.out.symm.trans h) (by decide), fun _ => ⟨rfl, rfl, rfl, rfl, rfl, rfl, rfl⟩⟩
    · subst hkb
      have hAI : ((A : Int) != (ap : Int)) = true := by rw [bne_iff_ne]; simp at hbad; omega
      clear hbad
      go_wp2_with fail
      have l7 := box_lt H74.out
      have l8 := box_lt H84.out
      obtain ⟨I, W, hne, hWI, hIW⟩ := Go.Mix.family (fun v => Below w4.heap.size w4 v) (Below.refl _ _)
      have HJ := Lib.hid hIW
      have HW := Lib.hid hWI
      clear hWI hIW
      refine Go.Flo.wp_region (fun w' => ∃ i, w' = W i) 2 [] (by kernel_rfl) (by kernel_rfl) (by decide) (by rintro _ w' ⟨i, rfl⟩ hb; exact HJ.out _ ((HW.out i).trans (hb.mono (HW.out i).size))) (HJ.out _ (Below.refl _ _).drew) ?_
      simp only [Go.Flo.pair, Go.Mix.calm, List.take, List.drop, if_true, Bool.false_eq_true, if_false, Nat.reduceAdd, Nat.reduceSub]
      (refine Go.Flo.fw_calm rfl ?_ (fun K hK => ?_); (first | exact Go.Mix.wanted_none rfl | exact Go.Mix.wanted_tt rfl rfl rfl | exact Go.Mix.wanted_ff rfl rfl rfl); refine Go.Flo.quiet_load_row 72 _ rfl _ rfl _ #[.int .u8 0, .int .u8 0, .int .u8 0, .int .u16 0, .slice none 0 0] _ (by rintro _ ⟨i, rfl⟩; exact ((HW.out i).block _ l8).trans H84.out) Try.underlying72 rfl size_rc ?_; go_simp; refine hK _ ?_; clear hK K)
      (repeat (first | (refine Go.Flo.fw_calm rfl ?_ (fun K hK => ?_); (first | exact Go.Mix.wanted_none rfl | exact Go.Mix.wanted_tt rfl rfl rfl | exact Go.Mix.wanted_ff rfl rfl rfl); go_big_quiet_op; refine hK _ ?_; clear hK K) | (refine Go.Flo.fw_skip ?_ (fun K hK => ?_); (first | exact Go.Mix.wanted_tf rfl rfl rfl | exact Go.Mix.wanted_ft rfl rfl rfl); go_simp; refine hK _ ?_; clear hK K) | (refine Go.Flo.fw_any rfl ?_ (fun K hK => ?_); (first | exact Go.Mix.wanted_none rfl | exact Go.Mix.wanted_tt rfl rfl rfl | exact Go.Mix.wanted_ff rfl rfl rfl); go_simp; (try (go_ints; try go_simp)); refine hK _ ?_; clear hK K)))
      refine Go.Flo.fw_nil ?_
      intro wz hwwz hfwz huwz
      obtain ⟨iend, hiend⟩ := hwwz
      have hbwz := HW.out iend
      rw [← hiend] at hbwz
      clear hiend iend huwz
      have j7 := (hbwz.block g7 l7).trans H74.out
      have HBZ := Lib.hid hbwz
      clear hfwz HJ HW hne hbwz
      clear W I
      refine Go.Flo.tw_step ?_ (fun K hK => ?_)
      · (first | exact Go.Mix.wanted_none rfl | exact Go.Mix.wanted_tt rfl rfl rfl | exact Go.Mix.wanted_ff rfl rfl rfl)
      refine wp_store_row 72 (.tmp 7) (.tmp 55) rfl g7 _ rfl rfl 72 _ j7 size_rc rfl (by simp [Value.oneCell']) (hK _ _ ?_)
      clear hK K
      refine Go.Flo.tw_nil ?_
      go_wp2_with fail
      refine bodyPost_ret (results_tmp_cell rfl _ _ g7 _ _ _ rfl (setRow_heap _ _ _ _ _ _ j7) Try.underlying72 rfl size_rc) rfl ?_
      exact ⟨below_setRow (HB4.out.trans (HBZ.out.mono HB4.out.size)) hg7b _, 0, 0, 0, 0, none, 0, 0, by rw [HV.out]; rfl, fun h => absurd (HV.out.symm.trans h) (by decide), fun _ => ⟨rfl, rfl, rfl, rfl, rfl, rfl, rfl⟩⟩
  have hkb : kb = true := by cases kb <;> simp_all
  have hA : A = ap := by simp at hbad; exact hbad.2
  subst hkb hA
  have HNB := Lib.hid hbad
  have hAI : ((A : Int) != (A : Int)) = false := by simp [bne]
  clear hbad
  obtain ⟨P, hP⟩ : ∃ P, P = pdat l := ⟨_, rfl⟩
  have HP := Lib.hid hP
  have hpb := HPB.out
  have hpl := HPL.out
  have hem := EM.out
  have hrx := HRX.out
  rw [← hP] at hpb hpl hem hrx
  have HRX4 := Lib.hid (hrx.below' HAL.out (Nat.le_refl _))
  have HPB2 := Lib.hid hpb
  have HEM := Lib.hid hem
  have hpm : pm ≤ 208 := by omega
  clear hP hpb hem hrx HPB HPL EM HRX
  go_wp2_with fail
  go_at_call 72
  refine (rcParse_new x pm pc w3.heap.size P w4 HEM.out.symm hw4s HRX4.out HPB2.out (by omega)).mono ?_
  rintro e w5 ⟨hcm, hnew⟩
  obtain ⟨hb5, a', s, u, c', x', m', cp, rfl, hok5⟩ := hcm.unz
  have HNEW := Lib.hid (hnew _ _ _ _ _ _ _ _ rfl)
  have HOK5 := Lib.hid hok5
  obtain ⟨ce, hce⟩ : ∃ ce, ce = cmErr P := ⟨_, rfl⟩
  rw [← hce]
  have HCE := Lib.hid hce
  have HB5 := Lib.hid hb5
  clear hcm hnew hok5 hce hb5
  have hs45 := HB5.out.size
  have HB25 := Lib.hid (HB24.out.trans (HB5.out.mono HB24.out.size))
  obtain ⟨w6, hw6⟩ : ∃ w6, w5.alloc (.cells #[.int .u8 (a' : Nat), .int .u8 (s : Nat), .int .u8 (u : Nat), .int .u16 (c' : Nat), .slice x' m' cp] 72) = w6 := ⟨_, rfl⟩
  have h116 := heap_alloc_new w5 (.cells #[.int .u8 (a' : Nat), .int .u8 (s : Nat), .int .u8 (u : Nat), .int .u16 (c' : Nat), .slice x' m' cp] 72)
  have hal := (Below.refl w5.heap.size w5).alloc (Nat.le_refl _) (.cells #[.int .u8 (a' : Nat), .int .u8 (s : Nat), .int .u8 (u : Nat), .int .u16 (c' : Nat), .slice x' m' cp] 72)
  rw [hw6] at h116 hal
  have HAL6 := Lib.hid hal
  have H116 := Lib.hid h116
  clear hal h116 HB4 HB24 k90 k91 k93
  go_upto_region 12 with ((with_reducible show wpList _ _ _ (_ :: _) _ _); refine wpList_store_row rfl 72 _ _ rfl _ _ rfl rfl _ _ (heap_alloc_new _ _) (by exact size_rc) (by rfl) (by simp [Value.oneCell']) ?_; rw [World.setRow_alloc_new, hw6])
  obtain ⟨g11, hg11⟩ : ∃ g, g = w5.heap.size := ⟨_, rfl⟩
  have h116 := H116.out
  rw [← hg11] at h116 ⊢
  have hb26 := HB25.out.trans (HAL6.out.mono HB25.out.size)
  have H76 := Lib.hid ((hb26.block g7 hg7s).trans H7.out)
  have H86 := Lib.hid ((hb26.block g8 (box_lt H8.out)).trans H8.out)
  have HB6 := Lib.hid (HB2.out.trans (hb26.mono HB2.out.size))
  have HB26 := Lib.hid hb26
  have H11 := Lib.hid h116
  clear hg11 h116 hb26 H116 hw6 H74 H84
  by_cases hc0 : ce = 0
  rotate_left
  · have hcI : ((ce : Int) != 0) = true := by simp [hc0]
    have HV := Lib.hid (show vdC (tabL L) l A = 2 by unfold vdC; rw [if_neg (by rw [HUP0.out]; decide), ← EKB.out, ← EA.out, if_neg HNB.out, if_pos (by rw [← HP.out, ← HCE.out]; exact hc0)])
    clear HOK5
    go_wp2_with fail
    have l7 := box_lt H76.out
    have l8 := box_lt H86.out
    obtain ⟨I, W, hne, hWI, hIW⟩ := Go.Mix.family (fun v => Below w6.heap.size w6 v) (Below.refl _ _)
    have HJ := Lib.hid hIW
    have HW := Lib.hid hWI
    clear hWI hIW
    refine Go.Flo.wp_region (fun w' => ∃ i, w' = W i) 2 [] (by kernel_rfl) (by kernel_rfl) (by decide) (by rintro _ w' ⟨i, rfl⟩ hb; exact HJ.out _ ((HW.out i).trans (hb.mono (HW.out i).size))) (HJ.out _ (Below.refl _ _).drew) ?_
    simp only [Go.Flo.pair, Go.Mix.calm, List.take, List.drop, if_true, Bool.false_eq_true, if_false, Nat.reduceAdd, Nat.reduceSub]
    (refine Go.Flo.fw_calm rfl ?_ (fun K hK => ?_); (first | exact Go.Mix.wanted_none rfl | exact Go.Mix.wanted_tt rfl rfl rfl | exact Go.Mix.wanted_ff rfl rfl rfl); refine Go.Flo.quiet_load_row 72 _ rfl _ rfl _ #[.int .u8 0, .int .u8 0, .int .u8 0, .int .u16 0, .slice none 0 0] _ (by rintro _ ⟨i, rfl⟩; exact ((HW.out i).block _ l8).trans H86.out) Try.underlying72 rfl size_rc ?_; go_simp; refine hK _ ?_; clear hK K)
    (repeat (first | (refine Go.Flo.fw_calm rfl ?_ (fun K hK => ?_); (first | exact Go.Mix.wanted_none rfl | exact Go.Mix.wanted_tt rfl rfl rfl | exact Go.Mix.wanted_ff rfl rfl rfl); go_big_quiet_op; refine hK _ ?_; clear hK K) | (refine Go.Flo.fw_skip ?_ (fun K hK => ?_); (first | exact Go.Mix.wanted_tf rfl rfl rfl | exact Go.Mix.wanted_ft rfl rfl rfl); go_simp; refine hK _ ?_; clear hK K) | (refine Go.Flo.fw_any rfl ?_ (fun K hK => ?_); (first | exact Go.Mix.wanted_none rfl | exact Go.Mix.wanted_tt rfl rfl rfl | exact Go.Mix.wanted_ff rfl rfl rfl); go_simp; (try (go_ints; try go_simp)); refine hK _ ?_; clear hK K)))
    refine Go.Flo.fw_nil ?_
    intro wz hwwz hfwz huwz
    obtain ⟨iend, hiend⟩ := hwwz
    have hbwz := HW.out iend
    rw [← hiend] at hbwz
    clear hiend iend huwz
    have j7 := (hbwz.block g7 l7).trans H76.out
    have HBZ := Lib.hid hbwz
    clear hfwz HJ HW hne hbwz
    clear W I
    refine Go.Flo.tw_step ?_ (fun K hK => ?_)
    · (first | exact Go.Mix.wanted_none rfl | exact Go.Mix.wanted_tt rfl rfl rfl | exact Go.Mix.wanted_ff rfl rfl rfl)
    refine wp_store_row 72 (.tmp 7) (.tmp 64) rfl g7 _ rfl rfl 72 _ j7 size_rc rfl (by simp [Value.oneCell']) (hK _ _ ?_)
    clear hK K
    refine Go.Flo.tw_nil ?_
    go_wp2_with fail
    refine bodyPost_ret (results_tmp_cell rfl _ _ g7 _ _ _ rfl (setRow_heap _ _ _ _ _ _ j7) Try.underlying72 rfl size_rc) rfl ?_
    exact ⟨below_setRow (HB6.out.trans (HBZ.out.mono HB6.out.size)) hg7b _, 0, 0, 0, 0, none, 0, 0, by rw [HV.out]; rfl, fun h => absurd (HV.out.symm.trans h) (by decide), fun _ => ⟨rfl, rfl, rfl, rfl, rfl, rfl, rfl⟩⟩
  have hcI : ((ce : Int) != 0) = false := by simp [hc0]
  have hok := HOK5.out (by rw [← HCE.out]; exact hc0)
  have HV := Lib.hid (show vdC (tabL L) l A = jdT (tabL L) s u m' by unfold vdC; rw [if_neg (by rw [HUP0.out]; decide), ← EKB.out, ← EA.out, if_neg HNB.out, if_neg (by rw [← HP.out, ← HCE.out, hc0]; decide), ← HP.out, hok.2.1, hok.2.2.1, hok.2.2.2.2.1])
  have hs256 : s < 256 := by rw [hok.2.1]; exact HPB2.out.at 1
  have hu256 : u < 256 := by rw [hok.2.2.1]; exact HPB2.out.at 2
  have HEQ := Lib.hid hok
  have hm'b : m' ≤ 208 := by rw [hok.2.2.2.2.1]; omega
  clear hok HOK5 HCE
  go_wp2_with fail
  go_at_call 73
  refine (Last_any x5 m c5 L w6 HLL.out hm12 ((HRW.out.below HB26.out HB2.out.size).monoV HB6.out.size)).mono ?_
  rintro e w7 ⟨rx, rc, rfl, hown7, hb7⟩
  have HNX := Lib.hid (show lastK L m = lastK L L.length by rw [HLL.out])
  have hrl12 := lastK_le L m
  obtain ⟨R, hR⟩ : ∃ R, R = lastK L m := ⟨_, rfl⟩
  rw [← hR] at hown7 hrl12 ⊢
  have HRL := Lib.hid (hR.trans HNX.out)
  have HRR := Lib.hid (rws_own hown7 rfl)
  have hrle := HRR.out.le
  have hrtop := HRR.out.top
  unfold maxLen at hrtop
  have H77 := Lib.hid ((hb7.block g7 (box_lt H76.out)).trans H76.out)
  have H87 := Lib.hid ((hb7.block g8 (box_lt H86.out)).trans H86.out)
  have H117 := Lib.hid ((hb7.block g11 (box_lt H11.out)).trans H11.out)
  have HB7 := Lib.hid (HB6.out.trans (hb7.mono HB6.out.size))
  have HB57 := Lib.hid (HAL6.out.trans (hb7.mono HAL6.out.size))
  clear hown7 hb7 hR H76 H86 H11 HB6 HB26 HAL6 HNX
  obtain ⟨q, hq⟩ : ∃ q, q = R.length := ⟨_, rfl⟩
  rw [← hq] at hrl12 hrle ⊢
  have HQ := Lib.hid hq
  clear hq
  go_wp2_with fail
  go_loopw [12, 68] (fun s12 s68 wr => ∃ j, j ≤ q ∧ s68 = .int .i64 (j : Nat) ∧ s12 = .int .i64 (djC (R.take j) s : Nat) ∧ djN (R.take j) s u = true ∧ Below w7.heap.size w7 wr) (fun _ v _ => q - (intOf v).toNat)
  case atStart => exact ⟨0, Nat.zero_le _, rfl, rfl, rfl, Below.refl _ _⟩
  case round =>
    obtain ⟨j, hj, rfl, rfl, hN, hBr⟩ := hrel
    have HN := Lib.hid hN
    have HBR := Lib.hid hBr
    clear hN hBr
    by_cases hlt : j < q
    · have hkl : j < R.length := by have := HQ.out; omega
      obtain ⟨bb, o2, rfl, _, _, hc2⟩ := (HRR.out.below HBR.out (Nat.le_refl _)).at_ (by omega)
      have hrg := hc2 j hkl
      have htk := take_snocR hkl
      have hmem : R.getD j rw0 ∈ R := by simp [List.getD, hkl]
      obtain ⟨y, hy⟩ : ∃ y, y = R.getD j rw0 := ⟨_, rfl⟩
      rw [← hy] at hrg htk hmem
      have hrl : wr.rangeAt bb (o2 + j * 4) (Rw.cs y) := hrg
      have HTK := Lib.hid htk
      have HMEM := Lib.hid hmem
      have hal := (Below.refl wr.heap.size wr).alloc (Nat.le_refl _) (.cells #[.int .u8 (y.s : Nat), .int .u8 (y.u : Nat), .int .i64 y.p, .int .i64 y.q] 84)
      have h14 := heap_alloc_new wr (.cells #[.int .u8 (y.s : Nat), .int .u8 (y.u : Nat), .int .i64 y.p, .int .i64 y.q] 84)
      obtain ⟨we, hwe⟩ : ∃ we, wr.alloc (.cells #[.int .u8 (y.s : Nat), .int .u8 (y.u : Nat), .int .i64 y.p, .int .i64 y.q] 84) = we := ⟨_, rfl⟩
      rw [hwe] at hal h14
      have hb7e := HBR.out.trans (hal.mono HBR.out.size)
      have HBE := Lib.hid hb7e
      have H7E := Lib.hid ((hb7e.block g7 (box_lt H77.out)).trans H77.out)
      have H8E := Lib.hid ((hb7e.block g8 (box_lt H87.out)).trans H87.out)
      have H11E := Lib.hid ((hb7e.block g11 (box_lt H117.out)).trans H117.out)
      have HBW := Lib.hid (HB7.out.trans (hb7e.mono HB7.out.size))
      clear hy hrg hc2 htk hmem hal hb7e hkl HBR H77 H87 H117
      go_upto_region 18 with (first | ((with_reducible show wpList _ _ _ (_ :: _) _ _); refine wpList_load_mid rfl 84 _ rfl _ (o2 + j * 4) rfl (Rw.cs y) _ hrl Try.underlying84 rfl size_row12 ?_; rw [show (Rw.cs y).toArray = #[.int .u8 (y.s : Nat), .int .u8 (y.u : Nat), .int .i64 y.p, .int .i64 y.q] from rfl]; (try go_simp)) | ((with_reducible show wpList _ _ _ (_ :: _) _ _); refine wpList_store_row rfl 84 _ _ rfl _ _ rfl rfl _ _ (heap_alloc_new _ _) (by exact size_row12) (by rfl) (by simp [Value.oneCell']) ?_; rw [World.setRow_alloc_new, hwe]))
      clear hrl hwe
      obtain ⟨g14, hg14⟩ : ∃ g, g = wr.heap.size := ⟨_, rfl⟩
      rw [← hg14] at h14 ⊢
      clear hg14
      have d0 := cell_of_row _ g14 0 _ _ _ h14
      have d1 := cell_of_row _ g14 1 _ _ _ h14
      have d2 := cell_of_row _ g14 2 _ _ _ h14
      have d3 := cell_of_row _ g14 3 _ _ _ h14
      have k1 := cell_of_row _ g11 1 _ _ _ H11E.out
      have k2 := cell_of_row _ g11 2 _ _ _ H11E.out
      have k4 := cell_of_row _ g11 4 _ _ _ H11E.out
      simp at d0 d1 d2 d3 k1 k2 k4
      clear h14
      have hj1 : j + 1 ≤ q := hlt
      by_cases hs : y.s = s
      rotate_left
      · have hsI : ((y.s : Int) == (s : Int)) = false := by rw [beq_eq_false_iff_ne]; omega
        have hdc := djC_snoc (R.take j) y s
        have hdn := djN_snoc (R.take j) y s u
        rw [← HTK.out, if_neg hs] at hdc
        rw [← HTK.out, HN.out, show (y.s == s) = false by simp [hs]] at hdn
        have HDC := Lib.hid hdc
        have HDN := Lib.hid hdn
        clear hdc hdn
        go_wp2
        go_roundw
        case rel => exact ⟨j + 1, hj1, by go_num, by rw [HDC.out], HDN.out, HBE.out⟩
        case measure => simp [intOf]; omega
      have hsI : ((y.s : Int) == (s : Int)) = true := by rw [beq_iff_eq]; omega
      by_cases hu : y.u = u
      rotate_left
      · have huI : ((y.u : Int) == (u : Int)) = false := by rw [beq_eq_false_iff_ne]; omega
        have hdc := djC_snoc (R.take j) y s
        have hdn := djN_snoc (R.take j) y s u
        rw [← HTK.out, if_pos hs] at hdc
        rw [← HTK.out, HN.out, show (y.u == u) = false by simp [hu], Bool.and_false] at hdn
        have HDC := Lib.hid hdc
        have HDN := Lib.hid hdn
        clear hdc hdn
        go_wp2
        go_roundw
        case rel => exact ⟨j + 1, hj1, by go_num, by rw [HDC.out]; rfl, HDN.out, HBE.out⟩
        case measure => simp [intOf]; omega
      have huI : ((y.u : Int) == (u : Int)) = true := by rw [beq_iff_eq]; omega
      have HJ2 := Lib.hid (dj_hit (len := m') HOK.out (by rw [← HRL.out]; exact HMEM.out) hs hu)
      clear hs hu HN HTK HMEM
      by_cases hlo : (m' : Int) < y.p
      · have HV := Lib.hid (show vdC (tabL L) l A = 6 by rw [HV.out, HJ2.out, if_pos (.inl hlo)])
        have hloI : decide ((m' : Int) < y.p) = true := decide_eq_true hlo
        go_wp2_with fail
        have l7 := box_lt H7E.out
        have l8 := box_lt H8E.out
        obtain ⟨I, W, hne, hWI, hIW⟩ := Go.Mix.family (fun v => Below we.heap.size we v) (Below.refl _ _)
        have HJ := Lib.hid hIW
        have HW := Lib.hid hWI
        clear hWI hIW
        refine Go.Flo.wp_region (fun w' => ∃ i, w' = W i) 2 [] (by kernel_rfl) (by kernel_rfl) (by decide) (by rintro _ w' ⟨i, rfl⟩ hb; exact HJ.out _ ((HW.out i).trans (hb.mono (HW.out i).size))) (HJ.out _ (Below.refl _ _).drew) ?_
        simp only [Go.Flo.pair, Go.Mix.calm, List.take, List.drop, if_true, Bool.false_eq_true, if_false, Nat.reduceAdd, Nat.reduceSub]
        (refine Go.Flo.fw_calm rfl ?_ (fun K hK => ?_); (first | exact Go.Mix.wanted_none rfl | exact Go.Mix.wanted_tt rfl rfl rfl | exact Go.Mix.wanted_ff rfl rfl rfl); refine Go.Flo.quiet_load_row 72 _ rfl _ rfl _ #[.int .u8 0, .int .u8 0, .int .u8 0, .int .u16 0, .slice none 0 0] _ (by rintro _ ⟨i, rfl⟩; exact ((HW.out i).block _ l8).trans H8E.out) Try.underlying72 rfl size_rc ?_; go_simp; refine hK _ ?_; clear hK K)
        (repeat (first | (refine Go.Flo.fw_calm rfl ?_ (fun K hK => ?_); (first | exact Go.Mix.wanted_none rfl | exact Go.Mix.wanted_tt rfl rfl rfl | exact Go.Mix.wanted_ff rfl rfl rfl); go_big_quiet_op; refine hK _ ?_; clear hK K) | (refine Go.Flo.fw_skip ?_ (fun K hK => ?_); (first | exact Go.Mix.wanted_tf rfl rfl rfl | exact Go.Mix.wanted_ft rfl rfl rfl); go_simp; refine hK _ ?_; clear hK K) | (refine Go.Flo.fw_any rfl ?_ (fun K hK => ?_); (first | exact Go.Mix.wanted_none rfl | exact Go.Mix.wanted_tt rfl rfl rfl | exact Go.Mix.wanted_ff rfl rfl rfl); go_simp; (try (go_ints; try go_simp)); refine hK _ ?_; clear hK K)))
        refine Go.Flo.fw_nil ?_
        intro wz hwwz hfwz huwz
        obtain ⟨iend, hiend⟩ := hwwz
        have hbwz := HW.out iend
        rw [← hiend] at hbwz
        clear hiend iend huwz
        have j7 := (hbwz.block g7 l7).trans H7E.out
        have HBZ := Lib.hid hbwz
        clear hfwz HJ HW hne hbwz
        clear W I
        refine Go.Flo.tw_step ?_ (fun K hK => ?_)
        · (first | exact Go.Mix.wanted_none rfl | exact Go.Mix.wanted_tt rfl rfl rfl | exact Go.Mix.wanted_ff rfl rfl rfl)
        refine wp_store_row 72 (.tmp 7) (.tmp 96) rfl g7 _ rfl rfl 72 _ j7 size_rc rfl (by simp [Value.oneCell']) (hK _ _ ?_)
        clear hK K
        refine Go.Flo.tw_nil ?_
        go_wp2_with fail
        refine bodyPost_ret (results_tmp_cell rfl _ _ g7 _ _ _ rfl (setRow_heap _ _ _ _ _ _ j7) Try.underlying72 rfl size_rc) rfl ?_
        exact ⟨below_setRow (HBW.out.trans (HBZ.out.mono HBW.out.size)) hg7b _, 0, 0, 0, 0, none, 0, 0, by rw [HV.out]; rfl, fun h => absurd (HV.out.symm.trans h) (by decide), fun _ => ⟨rfl, rfl, rfl, rfl, rfl, rfl, rfl⟩⟩
      have hloI : decide ((m' : Int) < y.p) = false := decide_eq_false hlo
      by_cases hhi : y.q < (m' : Int)
      · have HV := Lib.hid (show vdC (tabL L) l A = 6 by rw [HV.out, HJ2.out, if_pos (.inr hhi)])
        have hhiI : decide (y.q < (m' : Int)) = true := decide_eq_true hhi
        go_wp2_with fail
        have l7 := box_lt H7E.out
        have l8 := box_lt H8E.out
        obtain ⟨I, W, hne, hWI, hIW⟩ := Go.Mix.family (fun v => Below we.heap.size we v) (Below.refl _ _)
        have HJ := Lib.hid hIW
        have HW := Lib.hid hWI
        clear hWI hIW
        refine Go.Flo.wp_region (fun w' => ∃ i, w' = W i) 2 [] (by kernel_rfl) (by kernel_rfl) (by decide) (by rintro _ w' ⟨i, rfl⟩ hb; exact HJ.out _ ((HW.out i).trans (hb.mono (HW.out i).size))) (HJ.out _ (Below.refl _ _).drew) ?_
        simp only [Go.Flo.pair, Go.Mix.calm, List.take, List.drop, if_true, Bool.false_eq_true, if_false, Nat.reduceAdd, Nat.reduceSub]
        (refine Go.Flo.fw_calm rfl ?_ (fun K hK => ?_); (first | exact Go.Mix.wanted_none rfl | exact Go.Mix.wanted_tt rfl rfl rfl | exact Go.Mix.wanted_ff rfl rfl rfl); refine Go.Flo.quiet_load_row 72 _ rfl _ rfl _ #[.int .u8 0, .int .u8 0, .int .u8 0, .int .u16 0, .slice none 0 0] _ (by rintro _ ⟨i, rfl⟩; exact ((HW.out i).block _ l8).trans H8E.out) Try.underlying72 rfl size_rc ?_; go_simp; refine hK _ ?_; clear hK K)
        (repeat (first | (refine Go.Flo.fw_calm rfl ?_ (fun K hK => ?_); (first | exact Go.Mix.wanted_none rfl | exact Go.Mix.wanted_tt rfl rfl rfl | exact Go.Mix.wanted_ff rfl rfl rfl); go_big_quiet_op; refine hK _ ?_; clear hK K) | (refine Go.Flo.fw_skip ?_ (fun K hK => ?_); (first | exact Go.Mix.wanted_tf rfl rfl rfl | exact Go.Mix.wanted_ft rfl rfl rfl); go_simp; refine hK _ ?_; clear hK K) | (refine Go.Flo.fw_any rfl ?_ (fun K hK => ?_); (first | exact Go.Mix.wanted_none rfl | exact Go.Mix.wanted_tt rfl rfl rfl | exact Go.Mix.wanted_ff rfl rfl rfl); go_simp; (try (go_ints; try go_simp)); refine hK _ ?_; clear hK K)))
        refine Go.Flo.fw_nil ?_
        intro wz hwwz hfwz huwz
        obtain ⟨iend, hiend⟩ := hwwz
        have hbwz := HW.out iend
        rw [← hiend] at hbwz
        clear hiend iend huwz
        have j7 := (hbwz.block g7 l7).trans H7E.out
        have HBZ := Lib.hid hbwz
        clear hfwz HJ HW hne hbwz
        clear W I
        refine Go.Flo.tw_step ?_ (fun K hK => ?_)
        · (first | exact Go.Mix.wanted_none rfl | exact Go.Mix.wanted_tt rfl rfl rfl | exact Go.Mix.wanted_ff rfl rfl rfl)
        refine wp_store_row 72 (.tmp 7) (.tmp 96) rfl g7 _ rfl rfl 72 _ j7 size_rc rfl (by simp [Value.oneCell']) (hK _ _ ?_)
        clear hK K
        refine Go.Flo.tw_nil ?_
        go_wp2_with fail
        refine bodyPost_ret (results_tmp_cell rfl _ _ g7 _ _ _ rfl (setRow_heap _ _ _ _ _ _ j7) Try.underlying72 rfl size_rc) rfl ?_
        exact ⟨below_setRow (HBW.out.trans (HBZ.out.mono HBW.out.size)) hg7b _, 0, 0, 0, 0, none, 0, 0, by rw [HV.out]; rfl, fun h => absurd (HV.out.symm.trans h) (by decide), fun _ => ⟨rfl, rfl, rfl, rfl, rfl, rfl, rfl⟩⟩
      have hhiI : decide (y.q < (m' : Int)) = false := decide_eq_false hhi
      have HV := Lib.hid (show vdC (tabL L) l A = 0 by rw [HV.out, HJ2.out, if_neg (by omega)])
      go_wp2_with fail
      have l7 := box_lt H7E.out
      have l8 := box_lt H11E.out
      obtain ⟨I, W, hne, hWI, hIW⟩ := Go.Mix.family (fun v => Below we.heap.size we v) (Below.refl _ _)
      have HJ := Lib.hid hIW
      have HW := Lib.hid hWI
      clear hWI hIW
      refine Go.Flo.wp_region (fun w' => ∃ i, w' = W i) 2 [] (by kernel_rfl) (by kernel_rfl) (by decide) (by rintro _ w' ⟨i, rfl⟩ hb; exact HJ.out _ ((HW.out i).trans (hb.mono (HW.out i).size))) (HJ.out _ (Below.refl _ _).drew) ?_
      simp only [Go.Flo.pair, Go.Mix.calm, List.take, List.drop, if_true, Bool.false_eq_true, if_false, Nat.reduceAdd, Nat.reduceSub]
      (refine Go.Flo.fw_calm rfl ?_ (fun K hK => ?_); (first | exact Go.Mix.wanted_none rfl | exact Go.Mix.wanted_tt rfl rfl rfl | exact Go.Mix.wanted_ff rfl rfl rfl); refine Go.Flo.quiet_load_row 72 _ rfl _ rfl _ #[.int .u8 (a' : Nat), .int .u8 (s : Nat), .int .u8 (u : Nat), .int .u16 (c' : Nat), .slice x' m' cp] _ (by rintro _ ⟨i, rfl⟩; exact ((HW.out i).block _ l8).trans H11E.out) Try.underlying72 rfl size_rc ?_; go_simp; refine hK _ ?_; clear hK K)
      (repeat (first | (refine Go.Flo.fw_calm rfl ?_ (fun K hK => ?_); (first | exact Go.Mix.wanted_none rfl | exact Go.Mix.wanted_tt rfl rfl rfl | exact Go.Mix.wanted_ff rfl rfl rfl); go_big_quiet_op; refine hK _ ?_; clear hK K) | (refine Go.Flo.fw_skip ?_ (fun K hK => ?_); (first | exact Go.Mix.wanted_tf rfl rfl rfl | exact Go.Mix.wanted_ft rfl rfl rfl); go_simp; refine hK _ ?_; clear hK K) | (refine Go.Flo.fw_any rfl ?_ (fun K hK => ?_); (first | exact Go.Mix.wanted_none rfl | exact Go.Mix.wanted_tt rfl rfl rfl | exact Go.Mix.wanted_ff rfl rfl rfl); go_simp; (try (go_ints; try go_simp)); refine hK _ ?_; clear hK K)))
      refine Go.Flo.fw_nil ?_
      intro wz hwwz hfwz huwz
      obtain ⟨iend, hiend⟩ := hwwz
      have hbwz := HW.out iend
      rw [← hiend] at hbwz
      clear hiend iend huwz
      have j7 := (hbwz.block g7 l7).trans H7E.out
      have HBZ := Lib.hid hbwz
      clear hfwz HJ HW hne hbwz
      clear W I
      refine Go.Flo.tw_step ?_ (fun K hK => ?_)
      · (first | exact Go.Mix.wanted_none rfl | exact Go.Mix.wanted_tt rfl rfl rfl | exact Go.Mix.wanted_ff rfl rfl rfl)
      refine wp_store_row 72 (.tmp 7) (.tmp 97) rfl g7 _ rfl rfl 72 _ j7 size_rc rfl (by simp [Value.oneCell']) (hK _ _ ?_)
      clear hK K
      refine Go.Flo.tw_nil ?_
      go_wp2_with fail
      refine bodyPost_ret (results_tmp_cell rfl _ _ g7 _ _ _ rfl (setRow_heap _ _ _ _ _ _ j7) Try.underlying72 rfl size_rc) rfl ?_
      obtain ⟨ea, es, eu, ec, em', hrx5⟩ := HEQ.out
      have hb5z := HB57.out.trans ((HBE.out.trans (HBZ.out.mono HBE.out.size)).mono HB57.out.size)
      refine ⟨below_setRow (HBW.out.trans (HBZ.out.mono HBW.out.size)) hg7b _, a', s, u, c', x', m', cp, by rw [HV.out]; rfl, fun _ => ⟨by rw [ea, HP.out], by rw [es, HP.out], by rw [eu, HP.out], by rw [ec, HP.out], by rw [em', HP.out], ?_⟩, fun h => absurd HV.out h⟩
      rw [← HP.out]
      refine (rd_new (B := w4.heap.size) (hrx5.below hb5z) HNEW.out (fun b hb' => setRow_other _ g7 b _ (show b ≠ g7 by omega))).mono ?_
      have := hb5z.size
      simp [World.setRow]
      omega
    · obtain rfl : j = q := by omega
      have hRt : R.take j = R := List.take_of_length_le (by have := HQ.out; omega)
      have hN := HN.out
      rw [hRt] at hN ⊢
      have hj2 := dj_end (L := L) (s := s) (u := u) (len := m') HOK.out (by rw [← HRL.out]; exact hN)
      obtain ⟨dc, hdc⟩ : ∃ dc, dc = djC R s := ⟨_, rfl⟩
      have HV2 := Lib.hid (show vdC (tabL L) l A = dc by rw [HV.out, ← hj2, ← HRL.out, hdc])
      have HD0 := Lib.hid (show dc ≠ 0 by rw [hdc]; unfold djC; split <;> decide)
      rw [← hdc]
      have H7R := Lib.hid ((HBR.out.block g7 (box_lt H77.out)).trans H77.out)
      have H8R := Lib.hid ((HBR.out.block g8 (box_lt H87.out)).trans H87.out)
      have HBW := Lib.hid (HB7.out.trans (HBR.out.mono HB7.out.size))
      clear hRt hN hj2 hdc HN HBR H77 H87 H117
      go_wp2_with fail
      have l7 := box_lt H7R.out
      have l8 := box_lt H8R.out
      obtain ⟨I, W, hne, hWI, hIW⟩ := Go.Mix.family (fun v => Below wr.heap.size wr v) (Below.refl _ _)
      have HJ := Lib.hid hIW
      have HW := Lib.hid hWI
      clear hWI hIW
      refine Go.Flo.wp_region (fun w' => ∃ i, w' = W i) 3 [] (by kernel_rfl) (by kernel_rfl) (by decide) (by rintro _ w' ⟨i, rfl⟩ hb; exact HJ.out _ ((HW.out i).trans (hb.mono (HW.out i).size))) (HJ.out _ (Below.refl _ _).drew) ?_
      simp only [Go.Flo.pair, Go.Mix.calm, List.take, List.drop, if_true, Bool.false_eq_true, if_false, Nat.reduceAdd, Nat.reduceSub]
      (first | (refine Go.Flo.fw_calm rfl ?_ (fun K hK => ?_); (first | exact Go.Mix.wanted_none rfl | exact Go.Mix.wanted_tt rfl rfl rfl | exact Go.Mix.wanted_ff rfl rfl rfl); go_big_quiet_op; refine hK _ ?_; clear hK K) | (refine Go.Flo.fw_skip ?_ (fun K hK => ?_); (first | exact Go.Mix.wanted_tf rfl rfl rfl | exact Go.Mix.wanted_ft rfl rfl rfl); go_simp; refine hK _ ?_; clear hK K) | (refine Go.Flo.fw_any rfl ?_ (fun K hK => ?_); (first | exact Go.Mix.wanted_none rfl | exact Go.Mix.wanted_tt rfl rfl rfl | exact Go.Mix.wanted_ff rfl rfl rfl); go_simp; (try (go_ints; try go_simp)); refine hK _ ?_; clear hK K))
      (refine Go.Flo.fw_calm rfl ?_ (fun K hK => ?_); (first | exact Go.Mix.wanted_none rfl | exact Go.Mix.wanted_tt rfl rfl rfl | exact Go.Mix.wanted_ff rfl rfl rfl); refine Go.Flo.quiet_load_row 72 _ rfl _ rfl _ #[.int .u8 0, .int .u8 0, .int .u8 0, .int .u16 0, .slice none 0 0] _ (by rintro _ ⟨i, rfl⟩; exact ((HW.out i).block _ l8).trans H8R.out) Try.underlying72 rfl size_rc ?_; go_simp; refine hK _ ?_; clear hK K)
      (repeat (first | (refine Go.Flo.fw_calm rfl ?_ (fun K hK => ?_); (first | exact Go.Mix.wanted_none rfl | exact Go.Mix.wanted_tt rfl rfl rfl | exact Go.Mix.wanted_ff rfl rfl rfl); go_big_quiet_op; refine hK _ ?_; clear hK K) | (refine Go.Flo.fw_skip ?_ (fun K hK => ?_); (first | exact Go.Mix.wanted_tf rfl rfl rfl | exact Go.Mix.wanted_ft rfl rfl rfl); go_simp; refine hK _ ?_; clear hK K) | (refine Go.Flo.fw_any rfl ?_ (fun K hK => ?_); (first | exact Go.Mix.wanted_none rfl | exact Go.Mix.wanted_tt rfl rfl rfl | exact Go.Mix.wanted_ff rfl rfl rfl); go_simp; (try (go_ints; try go_simp)); refine hK _ ?_; clear hK K)))
      refine Go.Flo.fw_nil ?_
      intro wz hwwz hfwz huwz
      obtain ⟨iend, hiend⟩ := hwwz
      have hbwz := HW.out iend
      rw [← hiend] at hbwz
      clear hiend iend huwz
      have j7 := (hbwz.block g7 l7).trans H7R.out
      have HBZ := Lib.hid hbwz
      clear hfwz HJ HW hne hbwz
      clear W I
      refine Go.Flo.tw_step ?_ (fun K hK => ?_)
      · (first | exact Go.Mix.wanted_none rfl | exact Go.Mix.wanted_tt rfl rfl rfl | exact Go.Mix.wanted_ff rfl rfl rfl)
      refine wp_store_row 72 (.tmp 7) (.tmp 100) rfl g7 _ rfl rfl 72 _ j7 size_rc rfl (by simp [Value.oneCell']) (hK _ _ ?_)
      clear hK K
      refine Go.Flo.tw_nil ?_
      go_wp2_with fail
      refine bodyPost_ret (results_tmp_cell rfl _ _ g7 _ _ _ rfl (setRow_heap _ _ _ _ _ _ j7) Try.underlying72 rfl size_rc) rfl ?_
      exact ⟨below_setRow (HBW.out.trans (HBZ.out.mono HBW.out.size)) hg7b _, 0, 0, 0, 0, none, 0, 0, by rw [HV2.out]; rfl, fun h => absurd (HV2.out.symm.trans h) HD0.out, fun _ => ⟨rfl, rfl, rfl, rfl, rfl, rfl, rfl⟩⟩
end Go.Proofs.Ytmihhapedpalmaa
