/- TurnEnds: a turn whose units work within their deadlines is done within the bound. -/
import Derived.Test.YtboojcahflkkmaaLaw20n
import Derived.Test.YtboojcahflkkmaaOwn
import Derived.Deep.CutBlock
import Derived.Deep.DeepCutAuto
namespace Go.Proofs.Ytboojcahflkkmaa
open Go.RowKit Go.Own Bs
set_option linter.unusedVariables false
set_option linter.unusedSimpArgs false
/-- The values of a row of small numbers. -/
def zb (l : List Int) : Nat → Value := fun i => .int .u8 (l.getD i 0)
def mostI (l : List Int) : Int := l.foldl max 0
theorem mostI_snoc (l : List Int) (x : Int) : mostI (l ++ [x]) = max (mostI l) x := by simp [mostI]
theorem mostI_bd {l : List Int} (h : ∀ x ∈ l, 0 ≤ x ∧ x ≤ 255) : 0 ≤ mostI l ∧ mostI l ≤ 255 := by
  have k : ∀ (l : List Int) (a : Int), 0 ≤ a → a ≤ 255 → (∀ x ∈ l, 0 ≤ x ∧ x ≤ 255) → 0 ≤ l.foldl max a ∧ l.foldl max a ≤ 255 := by
    intro l
    induction l with
    | nil => intro a h0 h1 _; exact ⟨h0, h1⟩
    | cons x l ih =>
      intro a h0 h1 hl
      have hx := hl x (by simp)
      exact ih (max a x) (by omega) (by omega) (fun y hy => hl y (by simp [hy]))
  exact k l 0 (by decide) (by decide) h
theorem min_lit {P : Program} (ats : Array TypeId) (ty : TypeId) (k : IntKind) (a b : Int) (w : World) : (Builtin.min_ ats ty #[.int k a, .int k b]).run P w = .ok (.int k (min a b)) w := by
  have e2 : (Builtin.min2 (.int k a) (.int k b)).run P w = .ok (.int k (min a b)) w := by
    unfold Builtin.min2
    by_cases h : b < a
    · have e : min a b = b := by omega
      simp [e, h]
    · have e : min a b = a := by omega
      simp [e, h]
  simp [Builtin.min_, e2]
set_option maxRecDepth 100000 in
set_option maxHeartbeats 2000000 in
theorem Bound_any (a : Option Addr) (len cap n : Nat) (l : List Int) (w : World) (hl : l.length = len) (hb : ∀ x ∈ l, 0 ≤ x ∧ x ≤ 255) (hn : n ≤ w.heap.size) (hr : Rd n w a len cap (zb l)) :
    Calls Try.prog 58 #[.slice a len cap] w fun e w' => e = .returned (.int .i64 (mostI l + 4)) ∧ Below w.heap.size w w' := by
  have h1 := hr.le
  have h2 := hr.top
  unfold maxLen at h2
  have HR := Lib.hid hr
  have HBD := Lib.hid hb
  clear hr hb
  go_enter Try.func58, Try.ntmps58
  go_wp2_with fail
  go_loopw [3, 8] (fun v i wr => ∃ k : Nat, k ≤ len ∧ i = .int .i64 (k : Nat) ∧ v = .int .i64 (mostI (l.take k)) ∧ Below w.heap.size w wr) (fun _ i _ => len - (intOf i).toNat)
  case atStart => exact ⟨0, Nat.zero_le _, rfl, by simp [mostI], Below.refl _ _⟩
  case round =>
    obtain ⟨k, hk, rfl, rfl, hB⟩ := hrel
    have HB := Lib.hid hB
    clear hB
    have hm := mostI_bd (l := l.take k) (fun x hx => HBD.out x (List.mem_of_mem_take hx))
    obtain ⟨M, hM⟩ : ∃ M, M = mostI (l.take k) := ⟨_, rfl⟩
    rw [← hM] at hm ⊢
    by_cases hlt : k < len
    · obtain ⟨bb, off, rfl, hbb, hcx⟩ := (HR.out.below' HB.out hn).at hlt
      unfold zb at hcx
      have ht : mostI (l.take (k + 1)) = max M (l.getD k 0) := by rw [Bs.takeI_succ l (by omega), mostI_snoc, hM]
      have hxb := HBD.out (l.getD k 0) (by
        unfold List.getD
        rw [List.getElem?_eq_getElem (show k < l.length by omega)]
        exact List.getElem_mem _)
      obtain ⟨x, hx⟩ : ∃ x, x = l.getD k 0 := ⟨_, rfl⟩
      rw [← hx] at hcx ht hxb
      have hmx := fun (w : World) => run_maxJ (P := Try.prog) #[3, 3] 3 .i64 M x w
      have HT := Lib.hid ht
      obtain ⟨p0, p1⟩ := hxb
      obtain ⟨m0, m1⟩ := hm
      clear ht hx hM
      go_wp2_with fail
      go_roundw
      case rel => exact ⟨k + 1, by omega, by go_num, by rw [HT.out], HB.out⟩
      case measure => simp [intOf]; omega
    · obtain rfl : k = len := by omega
      rw [List.take_of_length_le (by omega)] at hM
      have HM := Lib.hid hM
      obtain ⟨m0, m1⟩ := hm
      clear hM
      go_wp2_with fail
      go_ret
      exact ⟨by rw [← HM.out]; rfl, HB.out⟩
theorem info_u8E : (Try.prog.info? 5).map (fun i => (i.zero, i.size, i.bytes)) = some (some (.int .u8 0), 1, 1) := by kernel_rfl
/-- Where the law stands: the chains, the turn, the waits. -/
structure EnSt (w wr : World) (g4 g5 : Nat) (f t : Nat → Int) (a : Option Addr) (c : Nat) (ys : List Int) (B : Nat) : Prop where
  be : Below w.heap.size w wr
  b4 : wr.heap[g4]? = some (.cells #[.int .i8 (f 0), .int .i8 (f 1), .int .i8 (f 2), .int .i8 (f 3), .int .i8 (f 4), .int .i8 (f 5)] 67 (0, 0))
  b5 : wr.heap[g5]? = some (.cells #[.int .i8 (t 0), .int .i8 (t 1), .int .i8 (t 2), .int .i8 (t 3), .int .i8 (t 4), .int .i8 (t 5)] 67 (0, 0))
  rd : Rd B wr a ys.length c (zb ys)
  sz : B ≤ wr.heap.size
  l4 : g4 < B
  l5 : g5 < B
  lb : w.heap.size ≤ B
theorem EnSt.step {w wr w' : World} {g4 g5 : Nat} {f t : Nat → Int} {a : Option Addr} {c : Nat} {ys : List Int} {B k : Nat} (h : EnSt w wr g4 g5 f t a c ys B) (hb : Below k wr w') (hk : B ≤ k) : EnSt w w' g4 g5 f t a c ys B :=
  ⟨h.be.trans (hb.mono (Nat.le_trans h.lb hk)), box_below h.b4 hb (Nat.lt_of_lt_of_le h.l4 hk), box_below h.b5 hb (Nat.lt_of_lt_of_le h.l5 hk), h.rd.below' hb hk, Nat.le_trans h.sz hb.size, h.l4, h.l5, h.lb⟩
/-- How far the turn is, after n cycles. -/
def EnQ (f t : Nat → Int) (k : Nat) (p : Int) (f' t' : Nat → Int) (n : Nat) : Prop :=
  (p = 1 ∧ f' = f ∧ t' = t ∧ n ≤ k) ∨ (p = 2 ∧ f' = f ∧ t' = t ∧ n ≤ k + 1) ∨ (p = 3 ∧ f' = f ∧ t' = t ∧ n ≤ k + 2) ∨ (p = 0 ∧ f' = t ∧ t' = t ∧ n ≤ k + 3)
theorem EnQ.next {f t f' t' : Nat → Int} {k n : Nat} {p : Int} (h : EnQ f t k p f' t' n) (hp : p ≠ 0) (wk : Nat) (hw : k ≤ n → wk = unitsS t 6) : ∃ (p' : Int) (f2 t2 : Nat → Int) (o : Nat) (d : Bool), nxtR p f' t' wk 0 = ⟨p', f2, t2, o, d, 0⟩ ∧ EnQ f t k p' f2 t2 (n + 1) := by
  rcases h with ⟨rfl, rfl, rfl, hn⟩ | ⟨rfl, rfl, rfl, hn⟩ | ⟨rfl, rfl, rfl, hn⟩ | ⟨rfl, _⟩
  · show ∃ p' f2 t2 o d, (if (1 : Int) = 1 then powR f' t' wk 0 else _) = _ ∧ _
    rw [if_pos rfl]
    unfold powR
    rw [if_pos (Nat.and_zero _)]
    by_cases hk : k ≤ n
    · rw [hw hk, lessS_self (unitsS_lt t' 6), if_pos rfl]
      exact ⟨2, _, _, 0, false, rfl, .inr (.inl ⟨rfl, rfl, rfl, by omega⟩)⟩
    · split
      · exact ⟨2, _, _, 0, false, rfl, .inr (.inl ⟨rfl, rfl, rfl, by omega⟩)⟩
      · exact ⟨1, _, _, 0, false, rfl, .inl ⟨rfl, rfl, rfl, by omega⟩⟩
  · exact ⟨3, _, _, 0, false, rfl, .inr (.inr (.inl ⟨rfl, rfl, rfl, by omega⟩))⟩
  · exact ⟨0, _, _, _, true, rfl, .inr (.inr (.inr ⟨rfl, rfl, rfl, by omega⟩))⟩
  · exact absurd rfl hp
theorem EnQ.ok {f t f' t' : Nat → Int} {k n : Nat} {p : Int} (h : EnQ f t k p f' t' n) (hf : ChOk f) (ht : ChOk t) : ChOk f' ∧ ChOk t' := by
  rcases h with ⟨_, rfl, rfl, _⟩ | ⟨_, rfl, rfl, _⟩ | ⟨_, rfl, rfl, _⟩ | ⟨_, rfl, rfl, _⟩ <;> exact ⟨by assumption, by assumption⟩
set_option maxRecDepth 100000 in
set_option maxHeartbeats 8000000 in
theorem walk_TurnEnds (z0 z1 : List Int) (a2 : Option Addr) (len2 cap2 : Nat) (z2 : List Int) (a3 : Int) (w : World) (l0 : z0.length = 6) (w0 : ∀ x ∈ z0, (Lit.int .i8 x).wf = true) (l1 : z1.length = 6) (w1 : ∀ x ∈ z1, (Lit.int .i8 x).wf = true) (w2 : IsRow .u8 w a2 len2 cap2 z2) (w3 : (Lit.int .u8 a3).wf = true) :
    Calls Try.prog 11 #[.agg (z0.map (Value.int .i8)).toArray, .agg (z1.map (Value.int .i8)).toArray, .slice a2 len2 cap2, .int .u8 a3] w fun e w' => e = .returned (.bool true) ∧ Below w.heap.size w w' := by
  obtain ⟨i0, hi, hz0, hz1, hz2⟩ := info_parts info_u8E
  obtain ⟨f, hf, e0⟩ := ch_of l0 w0
  obtain ⟨t, ht, e1⟩ := ch_of l1 w1
  rw [e0, e1]
  clear e0 e1 l0 w0 l1 w1
  obtain ⟨p0, p1⟩ := bounds_u8 w3
  have HC := Lib.hid (And.intro hf ht)
  have HR := Lib.hid w2
  clear w3 w2 hf ht
  have hzt := zero_tn
  have hzs := zero_st
  obtain ⟨h4, h5⟩ := al2T w (.cells #[.int .i8 (f 0), .int .i8 (f 1), .int .i8 (f 2), .int .i8 (f 3), .int .i8 (f 4), .int .i8 (f 5)] 67) (.cells #[.int .i8 (t 0), .int .i8 (t 1), .int .i8 (t 2), .int .i8 (t 3), .int .i8 (t 4), .int .i8 (t 5)] 67)
  have hb0 : Below w.heap.size w ((w.alloc (.cells #[.int .i8 (f 0), .int .i8 (f 1), .int .i8 (f 2), .int .i8 (f 3), .int .i8 (f 4), .int .i8 (f 5)] 67)).alloc (.cells #[.int .i8 (t 0), .int .i8 (t 1), .int .i8 (t 2), .int .i8 (t 3), .int .i8 (t 4), .int .i8 (t 5)] 67)) := by repeat' (first | (with_reducible exact Below.refl _ _) | (with_reducible assumption) | (with_reducible refine Below.setCell ?_ ?_ _) | (with_reducible refine Below.alloc ?_ ?_ _) | (with_reducible refine Below.drew ?_) | (with_reducible refine Below.drawsN ?_ _) | go_size)
  go_enter Try.func11, Try.ntmps11
  go_upto_region 1 with fail
  obtain ⟨wa, hwa⟩ : ∃ w1, w1 = (w.alloc (.cells #[.int .i8 (f 0), .int .i8 (f 1), .int .i8 (f 2), .int .i8 (f 3), .int .i8 (f 4), .int .i8 (f 5)] 67)).alloc (.cells #[.int .i8 (t 0), .int .i8 (t 1), .int .i8 (t 2), .int .i8 (t 3), .int .i8 (t 4), .int .i8 (t 5)] 67) := ⟨_, rfl⟩
  rw [← hwa] at h4 h5 hb0 ⊢
  obtain ⟨g5, hg5⟩ : ∃ g, g = w.heap.size + 1 := ⟨_, rfl⟩
  rw [← hg5] at h5 ⊢
  obtain ⟨g4, hg4⟩ : ∃ g, g = w.heap.size := ⟨_, rfl⟩
  rw [show (Value.pointer (some ⟨w.heap.size, 0, none⟩)) = .pointer (some ⟨g4, 0, none⟩) by rw [hg4]]
  rw [← hg4] at h4
  have HB0 := Lib.hid hb0
  have H4 := Lib.hid (And.intro h4 h5)
  clear hwa hg4 hg5 hb0 h4 h5
  go_wp2_with fail
  go_at_call 46
  refine (awake20 _).mono ?_
  rintro e wb ⟨rfl, hb⟩
  have HB1 := Lib.hid (HB0.out.trans (hb.mono HB0.out.size))
  have H42 := Lib.hid (And.intro (box_below H4.out.1 hb (box_lt H4.out.1)) (box_below H4.out.2 hb (box_lt H4.out.2)))
  clear hb HB0 H4
  have hmn := fun (w : World) => min_lit (P := Try.prog) #[3, 3] 3 .i64 (len2 : Int) 6 w
  obtain ⟨m, hm⟩ : ∃ m : Nat, m = min len2 6 := ⟨_, rfl⟩
  rw [show min (len2 : Int) 6 = (m : Int) by omega] at hmn
  have hm6 : m ≤ 6 := by omega
  have hml : m ≤ len2 := by omega
  have HM := Lib.hid hm
  clear hm
  go_upto_region 3 with fail
  have hwb := HB1.out.size
  go_cut [2] (fun v wx => ∃ (a : Option Addr) (c : Nat) (ys : List Int), v = .slice a ys.length c ∧ ys.length ≤ 6 ∧ (∀ y ∈ ys, 0 ≤ y ∧ y ≤ 255) ∧ Rd wx.heap.size wx a ys.length c (zb ys) ∧ Below wb.heap.size wb wx)
  case first =>
    rcases HR.out with ⟨rfl, rfl, rfl, rfl⟩ | ⟨x, rfl, hl, hmm, hz, hcell, hwz⟩
    · obtain rfl : m = 0 := by omega
      clear hmn
      have hmn := fun (w : World) => min_lit (P := Try.prog) #[3, 3] 3 .i64 (0 : Int) 6 w
      rw [show min (0 : Int) 6 = 0 by decide] at hmn
      go_wp2
      go_meet
      case rel => exact ⟨_, 0, [], rfl, by simp, by simp, ⟨Nat.le_refl _, Nat.zero_le _, fun _ => rfl, fun h => absurd h (by decide)⟩, (Below.refl _ _).alloc (Nat.le_refl _) _⟩
    · obtain ⟨ys, hy1, hy2, hy3, -⟩ := Go.Own.take_row hcell hwz m (by omega)
      have hnw := Go.Own.news_of hy2 HB1.out
      go_wp2_with (at_builtin; refine wpList_append_own _ rfl _ _ 34 rfl wb.heap.size 5 i0 (.int .u8 0) 1 1 Try.underlying34 hi hz0 hz1 hz2 rfl (by decide) _ _ _ rfl (World.ownsRow_made _ #[] 0 ?c0 (by decide) rfl) x m cap2 (ys.map (Value.int .u8)) rfl ?c1 ?c2 (Go.Own.news_one _) ?c3 ?c4 ?c5 ?_)
      case c0 => exact Nat.le_refl _
      case c1 => simp [hy1]
      case c2 => exact Go.Own.news_of hy2 (HB1.out.alloc HB1.out.size _)
      case c3 => unfold maxLen; omega
      case c4 => omega
      case c5 => simp
      intro v' w2 hown hgrow hnil
      have hb2 : Below wb.heap.size wb w2 := ((Below.refl _ _).alloc (Nat.le_refl _) _).grown hgrow (by simp) (fun k hk => by simp [Value.ownBlock] at hk; omega)
      obtain ⟨a, c, rfl⟩ := own_formZ hown
      have hrd := rd_of_own (f := zb ys) hown (fun i hi => by
        have : i < ys.length := by omega
        simp [zb, List.getD, this])
      rw [← hy1] at hrd
      have HRD := Lib.hid hrd
      have HB2 := Lib.hid hb2
      have HY := Lib.hid hy1
      clear hown hgrow hnil hcell hwz hy2 hnw hrd hb2 hz hy1
      go_wp2
      go_meet
      case rel => exact ⟨a, c, ys, by rw [HY.out], by rw [HY.out]; exact hm6, fun y hy => bounds_u8 (hy3 y hy), HRD.out, HB2.out⟩
  case rest =>
    obtain ⟨a, c, ys, rfl, hy6, hyb, hrd, hB⟩ := hcut
    obtain ⟨wd, rfl⟩ : ∃ wd, wd = wc := ⟨_, rfl⟩
    have h42 := H42.out
    have HS := Lib.hid (show EnSt w wd g4 g5 f t a c ys wd.heap.size from ⟨HB1.out.trans (hB.mono HB1.out.size), box_below h42.1 hB (box_lt h42.1), box_below h42.2 hB (box_lt h42.2), hrd, Nat.le_refl _, Nat.lt_of_lt_of_le (box_lt h42.1) hB.size, Nat.lt_of_lt_of_le (box_lt h42.2) hB.size, Nat.le_trans HB1.out.size hB.size⟩)
    have HYB := Lib.hid hyb
    have hle := hrd.le
    have htop := hrd.top
    unfold maxLen at htop
    obtain ⟨B, hBE⟩ : ∃ B, B = wd.heap.size := ⟨_, rfl⟩
    rw [← hBE] at HS
    obtain ⟨len, hlen⟩ : ∃ len, len = ys.length := ⟨_, rfl⟩
    rw [← hlen] at hle hy6 ⊢
    have HL := Lib.hid hlen
    clear hrd hB h42 hyb hBE H42 HB1 hmn HR HM hlen
    go_wp2_with fail
    go_loopw [9, 29] (fun v i wr => ∃ k : Nat, k ≤ len ∧ i = .int .i64 (k : Nat) ∧ v = .int .i64 (mostI (ys.take k)) ∧ EnSt w wr g4 g5 f t a c ys B) (fun _ i _ => len - (intOf i).toNat)
    case atStart => exact ⟨0, Nat.zero_le _, rfl, by simp [mostI], HS.out⟩
    case round =>
      clear HS
      obtain ⟨k, hk, rfl, rfl, hS⟩ := hrel
      have HS := Lib.hid hS
      clear hS
      have hmb := mostI_bd (l := ys.take k) (fun x hx => HYB.out x (List.mem_of_mem_take hx))
      obtain ⟨M, hM⟩ : ∃ M, M = mostI (ys.take k) := ⟨_, rfl⟩
      rw [← hM] at hmb ⊢
      obtain ⟨m0, m1⟩ := hmb
      by_cases hlt : k < len
      · have hrk := HS.out.rd
        rw [← HL.out] at hrk
        obtain ⟨bb, off, rfl, hbb, hcx⟩ := hrk.at hlt
        unfold zb at hcx
        have hly := HL.out
        have htt : mostI (ys.take (k + 1)) = max M (ys.getD k 0) := by rw [Bs.takeI_succ ys (by omega), mostI_snoc, hM]
        have hxb := HYB.out (ys.getD k 0) (by
          unfold List.getD
          rw [List.getElem?_eq_getElem (show k < ys.length by omega)]
          exact List.getElem_mem _)
        obtain ⟨x, hx⟩ : ∃ x, x = ys.getD k 0 := ⟨_, rfl⟩
        rw [← hx] at hcx htt hxb
        have hmx := fun (w : World) => run_maxJ (P := Try.prog) #[3, 3] 3 .i64 M x w
        have HT := Lib.hid htt
        obtain ⟨x0, x1⟩ := hxb
        clear htt hx hM hly hrk
        go_wp2_with fail
        go_roundw
        case rel => exact ⟨k + 1, by omega, by go_num, by rw [HT.out], HS.out⟩
        case measure => simp [intOf]; omega
      · obtain rfl : k = len := by omega
        rw [List.take_of_length_le (by have := HL.out; omega)] at hM
        have HM := Lib.hid hM
        clear hM
        obtain ⟨n, rfl⟩ := Int.eq_ofNat_of_zero_le m0
        obtain ⟨l, rfl⟩ := Int.eq_ofNat_of_zero_le p0
        go_upto_region 11 with fail
        obtain ⟨kk, hkk⟩ : ∃ kk, kk = l % (n + 1) := ⟨_, rfl⟩
        have hkn : kk ≤ n := by have := Nat.mod_lt l (show 0 < n + 1 by omega); omega
        rw [show (l : Int) % ((n : Int) + 1) = (kk : Int) by rw [hkk]; push_cast; rfl]
        have hn255 : n ≤ 255 := by omega
        clear hkk m0 m1 p0 p1
        have b4 := HS.out.b4
        have b5 := HS.out.b5
        have HST := Lib.hid (fun w => Start_idle f f t 0 w HC.out.2 (by decide))
        go_wp2_with (first | ((with_reducible show wpList _ _ _ (_ :: _) _ _); refine wpList_load_row rfl 67 _ rfl _ rfl _ _ _ _ b4 Try.underlying67 rfl (by exact size_ch) ?_; (try go_simp)) | ((with_reducible show wpList _ _ _ (_ :: _) _ _); refine wpList_load_row rfl 67 _ rfl _ rfl _ _ _ _ b5 Try.underlying67 rfl (by exact size_ch) ?_; (try go_simp)))
        go_at_call 54
        refine (HST.out _).mono ?_
        rintro e w4 ⟨v, rfl, ho, hb⟩
        obtain ⟨va, vc, rfl⟩ := own_formZ ho
        obtain ⟨vl, hvl⟩ : ∃ vl, vl = (upTo (lessS (unitsS t 6) 0) 16).length := ⟨_, rfl⟩
        rw [← hvl]
        obtain ⟨q1, q2, q3, q4, q5⟩ := pairBox w4 #[.int .u8 1, .int .i8 (f 0), .int .i8 (f 1), .int .i8 (f 2), .int .i8 (f 3), .int .i8 (f 4), .int .i8 (f 5), .int .i8 (t 0), .int .i8 (t 1), .int .i8 (t 2), .int .i8 (t 3), .int .i8 (t 4), .int .i8 (t 5)] #[.slice va vl vc, .slice none 0 0, .bool false, .int .u16 0]
        have hS4 := HS.out.step hb HS.out.sz
        have HS5 := Lib.hid (hS4.step q5 hS4.sz)
        have hBg : B ≤ w4.heap.size := hS4.sz
        clear hvl ho hb b4 b5 HST HS hS4 q4 q5
        go_upto_region 12 with (first | ((with_reducible show wpList _ _ _ (_ :: _) _ _); refine wpList_store_row rfl 96 _ _ rfl _ _ rfl rfl _ _ q1 (by exact size_tn) (by rfl) (by simp [Value.oneCell']) ?_) | ((with_reducible show wpList _ _ _ (_ :: _) _ _); refine wpList_store_row rfl 98 _ _ rfl _ _ rfl rfl _ _ q2 (by exact size_st) (by rfl) (by simp [Value.oneCell']) ?_))
        clear q1 q2
        obtain ⟨w5, hw5⟩ : ∃ w5, w5 = (((w4.alloc (.cells #[.int .u8 0, .int .i8 0, .int .i8 0, .int .i8 0, .int .i8 0, .int .i8 0, .int .i8 0, .int .i8 0, .int .i8 0, .int .i8 0, .int .i8 0, .int .i8 0, .int .i8 0] 96)).alloc (.cells #[.slice none 0 0, .slice none 0 0, .bool false, .int .u16 0] 98)).setRow w4.heap.size #[.int .u8 1, .int .i8 (f 0), .int .i8 (f 1), .int .i8 (f 2), .int .i8 (f 3), .int .i8 (f 4), .int .i8 (f 5), .int .i8 (t 0), .int .i8 (t 1), .int .i8 (t 2), .int .i8 (t 3), .int .i8 (t 4), .int .i8 (t 5)]).setRow (w4.heap.size + 1) #[.slice va vl vc, .slice none 0 0, .bool false, .int .u16 0] := ⟨_, rfl⟩
        rw [← hw5] at q3 HS5 ⊢
        obtain ⟨g13, hg13⟩ : ∃ g, g = w4.heap.size := ⟨_, rfl⟩
        rw [← hg13] at q3 hBg
        rw [show (Value.pointer (some ⟨w4.heap.size, 0, none⟩)) = .pointer (some ⟨g13, 0, none⟩) by rw [hg13]]
        clear hw5 hg13
        obtain ⟨u, hu⟩ : ∃ u, u = unitsS t 6 := ⟨_, rfl⟩
        have hu1 : u < 65536 := by rw [hu]; exact unitsS_lt t 6
        have HU := Lib.hid hu
        have Q3 := Lib.hid q3
        clear hu q3
        go_wp2_with fail
        go_loopw [16] (fun v wr => ∃ (q : Nat) (p : Int) (f' t' : Nat → Int), v = .int .i64 (q : Nat) ∧ EnQ f t kk p f' t' q ∧ EnSt w wr g4 g5 f t a c ys B ∧ wr.heap[g13]? = some (.cells #[.int .u8 p, .int .i8 (f' 0), .int .i8 (f' 1), .int .i8 (f' 2), .int .i8 (f' 3), .int .i8 (f' 4), .int .i8 (f' 5), .int .i8 (t' 0), .int .i8 (t' 1), .int .i8 (t' 2), .int .i8 (t' 3), .int .i8 (t' 4), .int .i8 (t' 5)] 96 (0, 0))) (fun v _ => 400 - (intOf v).toNat)
        case atStart => exact ⟨0, 1, f, t, rfl, .inl ⟨rfl, rfl, rfl, Nat.zero_le _⟩, HS5.out, Q3.out⟩
        case round =>
          clear HS5 Q3
          obtain ⟨q, p, f', t', rfl, hQ, hS, hT⟩ := hrel
          have HS := Lib.hid hS
          have HQ := Lib.hid hQ
          have HT := Lib.hid hT
          clear hS hQ hT
          have b13 := HT.out
          go_wp2_with (((with_reducible show wpList _ _ _ (_ :: _) _ _); refine wpList_load_row rfl 96 _ rfl _ rfl _ _ _ _ b13 Try.underlying96 rfl (by exact size_tn) ?_; (try go_simp)))
          go_at_call 52
          refine (Busy_any p f' t' _).mono ?_
          rintro e w6 ⟨rfl, hb⟩
          have HT6 := Lib.hid (box_below HT.out hb (box_lt HT.out))
          have HS6 := Lib.hid (HS.out.step hb HS.out.sz)
          clear hb HS HT b13
          by_cases hp : p = 0
          · have hpp : (p != 0) = false := by simp [hp]
            rw [hpp]
            have hft : f' = t ∧ t' = t := by
              rcases HQ.out with ⟨h, _⟩ | ⟨h, _⟩ | ⟨h, _⟩ | ⟨_, h1, h2, _⟩
              · omega
              · omega
              · omega
              · exact ⟨h1, h2⟩
            obtain ⟨rfl, rfl⟩ := hft
            have b5 := HS6.out.b5
            have b13 := HT6.out
            have l5 := box_lt b5
            have l13 := box_lt b13
            clear hp hpp
            go_upto_region 21 with fail
            obtain ⟨I, W, hne, hWI, hIW⟩ := Go.Mix.family (fun v => Below w6.heap.size w6 v) (Below.refl _ _)
            have HJ := Lib.hid hIW
            have HW := Lib.hid hWI
            clear hWI hIW
            refine Go.Flo.wp_region (fun w' => ∃ i, w' = W i) 9 [Go.Flo.Spec.is (.agg #[.int .i8 (t' 0), .int .i8 (t' 1), .int .i8 (t' 2), .int .i8 (t' 3), .int .i8 (t' 4), .int .i8 (t' 5)]), Go.Flo.Spec.is (.int .i64 4)] (by kernel_rfl) (by kernel_rfl) (by decide) (by rintro _ w' ⟨i, rfl⟩ hb; exact HJ.out _ ((HW.out i).trans (hb.mono (HW.out i).size))) (HJ.out _ (Below.refl _ _).drew) ?_
            simp only [Go.Flo.pair, Go.Mix.calm, List.take, List.drop, if_true, Bool.false_eq_true, if_false, Nat.reduceAdd, Nat.reduceSub]
            have he : ∀ w, (binOp .eql 67 (.agg #[.int .i8 (t' 0), .int .i8 (t' 1), .int .i8 (t' 2), .int .i8 (t' 3), .int .i8 (t' 4), .int .i8 (t' 5)]) (.agg #[.int .i8 (t' 0), .int .i8 (t' 1), .int .i8 (t' 2), .int .i8 (t' 3), .int .i8 (t' 4), .int .i8 (t' 5)])).run Try.prog w = .ok (.bool true) w := fun w => by rw [eqlCh HC.out.2 HC.out.2, sameC_refl]
            have HE := Lib.hid he
            clear he
            (refine Go.Flo.fw_calm rfl ?_ (fun K hK => ?_); (first | exact Go.Mix.wanted_none rfl | exact Go.Mix.wanted_tt rfl rfl rfl | exact Go.Mix.wanted_ff rfl rfl rfl); refine Go.Flo.quiet_load_row 96 _ rfl _ rfl _ #[.int .u8 p, .int .i8 (t' 0), .int .i8 (t' 1), .int .i8 (t' 2), .int .i8 (t' 3), .int .i8 (t' 4), .int .i8 (t' 5), .int .i8 (t' 0), .int .i8 (t' 1), .int .i8 (t' 2), .int .i8 (t' 3), .int .i8 (t' 4), .int .i8 (t' 5)] _ (by rintro _ ⟨i, rfl⟩; exact ((HW.out i).block _ l13).trans b13) Try.underlying96 rfl size_tn ?_; go_simp; refine hK _ ?_; clear hK K)
            refine Go.Flo.fw_loud rfl ?_ rfl (by simp) (fun wv hwv hav K hK => ?_) (fun v hv K hK => ?_)
            · (first | exact Go.Mix.wanted_none rfl | exact Go.Mix.wanted_tt rfl rfl rfl | exact Go.Mix.wanted_ff rfl rfl rfl)
            · obtain ⟨iv, rfl⟩ := hwv
              have hbv := HW.out iv
              (first | go_big_op | go_simp)
              go_at_call 51
              refine (Active_any p t' t' _).mono ?_
              rintro e w' ⟨rfl, hb⟩
              rw [actC_same]
              exact hK _ _ (Go.Flo.owes_is _ rfl hb)
            obtain rfl := hv.is
            go_simp
            refine hK _ ?_
            clear hK K hv
            (refine Go.Flo.fw_calm rfl ?_ (fun K hK => ?_); (first | exact Go.Mix.wanted_none rfl | exact Go.Mix.wanted_tt rfl rfl rfl | exact Go.Mix.wanted_ff rfl rfl rfl); refine Go.Flo.quiet_load_row 67 _ rfl _ rfl _ #[.int .i8 (t' 0), .int .i8 (t' 1), .int .i8 (t' 2), .int .i8 (t' 3), .int .i8 (t' 4), .int .i8 (t' 5)] _ (by rintro _ ⟨i, rfl⟩; exact ((HW.out i).block _ l5).trans b5) Try.underlying67 rfl size_ch ?_; go_simp; refine hK _ ?_; clear hK K)
            have he := HE.out
            (first | (refine Go.Flo.fw_calm rfl ?_ (fun K hK => ?_); (first | exact Go.Mix.wanted_none rfl | exact Go.Mix.wanted_tt rfl rfl rfl | exact Go.Mix.wanted_ff rfl rfl rfl); go_big_quiet_op; refine hK _ ?_; clear hK K) | (refine Go.Flo.fw_skip ?_ (fun K hK => ?_); (first | exact Go.Mix.wanted_tf rfl rfl rfl | exact Go.Mix.wanted_ft rfl rfl rfl); go_simp; refine hK _ ?_; clear hK K) | (refine Go.Flo.fw_any rfl ?_ (fun K hK => ?_); (first | exact Go.Mix.wanted_none rfl | exact Go.Mix.wanted_tt rfl rfl rfl | exact Go.Mix.wanted_ff rfl rfl rfl); go_simp; (try (go_ints; try go_simp)); refine hK _ ?_; clear hK K))
            clear he
            (first | (refine Go.Flo.fw_calm rfl ?_ (fun K hK => ?_); (first | exact Go.Mix.wanted_none rfl | exact Go.Mix.wanted_tt rfl rfl rfl | exact Go.Mix.wanted_ff rfl rfl rfl); go_big_quiet_op; refine hK _ ?_; clear hK K) | (refine Go.Flo.fw_skip ?_ (fun K hK => ?_); (first | exact Go.Mix.wanted_tf rfl rfl rfl | exact Go.Mix.wanted_ft rfl rfl rfl); go_simp; refine hK _ ?_; clear hK K) | (refine Go.Flo.fw_any rfl ?_ (fun K hK => ?_); (first | exact Go.Mix.wanted_none rfl | exact Go.Mix.wanted_tt rfl rfl rfl | exact Go.Mix.wanted_ff rfl rfl rfl); go_simp; (try (go_ints; try go_simp)); refine hK _ ?_; clear hK K))
            refine Go.Flo.fw_loud rfl ?_ rfl (by simp) (fun wv hwv hav K hK => ?_) (fun v hv K hK => ?_)
            · (first | exact Go.Mix.wanted_none rfl | exact Go.Mix.wanted_tt rfl rfl rfl | exact Go.Mix.wanted_ff rfl rfl rfl)
            · obtain ⟨iv, rfl⟩ := hwv
              have hbv := HW.out iv
              (first | go_big_op | go_simp)
              go_at_call 58
              refine (Bound_any none 0 0 _ [] _ rfl (by simp) (Nat.le_refl _) (Rd.none_ _ _ _)).mono ?_
              rintro e w' ⟨rfl, hb⟩
              exact hK _ _ (Go.Flo.owes_is _ rfl hb)
            obtain rfl := hv.is
            go_simp
            refine hK _ ?_
            clear hK K hv
            (repeat (first | (refine Go.Flo.fw_calm rfl ?_ (fun K hK => ?_); (first | exact Go.Mix.wanted_none rfl | exact Go.Mix.wanted_tt rfl rfl rfl | exact Go.Mix.wanted_ff rfl rfl rfl); go_big_quiet_op; refine hK _ ?_; clear hK K) | (refine Go.Flo.fw_skip ?_ (fun K hK => ?_); (first | exact Go.Mix.wanted_tf rfl rfl rfl | exact Go.Mix.wanted_ft rfl rfl rfl); go_simp; refine hK _ ?_; clear hK K) | (refine Go.Flo.fw_any rfl ?_ (fun K hK => ?_); (first | exact Go.Mix.wanted_none rfl | exact Go.Mix.wanted_tt rfl rfl rfl | exact Go.Mix.wanted_ff rfl rfl rfl); go_simp; (try (go_ints; try go_simp)); refine hK _ ?_; clear hK K)))
            refine Go.Flo.fw_nil ?_
            intro we hwwe hfwe huwe
            refine Go.Flo.tw_nil ?_
            obtain ⟨iend, hiend⟩ := hwwe
            have hbwe := HW.out iend
            rw [← hiend] at hbwe
            clear hiend iend huwe
            have HB := Lib.hid (HS6.out.be.trans (hbwe.mono HS6.out.be.size))
            clear hfwe HJ HW hne hbwe b5 b13 HT6 HS6 HE
            go_wp2_with fail
            go_ret
            exact ⟨rfl, HB.out⟩
          · have hpp : (p != 0) = true := by simpa using hp
            rw [hpp]
            have hq5 : q ≤ kk + 2 := by
              rcases HQ.out with ⟨_, _, _, h⟩ | ⟨_, _, _, h⟩ | ⟨_, _, _, h⟩ | ⟨h, _⟩ <;> omega
            have hok := HQ.out.ok HC.out.1 HC.out.2
            by_cases hk2 : kk ≤ q
            · obtain ⟨p2, f2, t2, o, d, hn, hQ2⟩ := HQ.out.next hp u (fun _ => HU.out)
              have HN := Lib.hid hn
              have HQ2 := Lib.hid hQ2
              have b5 := HS6.out.b5
              clear hn hQ2 hp hpp HQ
              go_wp2_with (((with_reducible show wpList _ _ _ (_ :: _) _ _); refine wpList_load_row rfl 67 _ rfl _ rfl _ _ _ _ b5 Try.underlying67 rfl (by exact size_ch) ?_; (try go_simp)))
              go_at_call 34
              refine (Units_any t _ HC.out.2).mono ?_
              rintro e w7 ⟨rfl, hb⟩
              rw [← HU.out]
              have HT7 := Lib.hid (box_below HT6.out hb (box_lt HT6.out))
              have HS7 := Lib.hid (HS6.out.step hb HS6.out.sz)
              clear hb HS6 HT6 b5
              skip
              have b13 := HT7.out
              go_wp2_with (((with_reducible show wpList _ _ _ (_ :: _) _ _); refine wpList_load_row rfl 96 _ rfl _ rfl _ _ _ _ b13 Try.underlying96 rfl (by exact size_tn) ?_; (try go_simp)))
              go_at_call 47
              refine (Next_det _ hok.1 hok.2 hu1 (by decide) HN.out).mono ?_
              rintro e w8 ⟨v, rfl, ho, hb⟩
              obtain ⟨xa, xc, rfl⟩ := own_formZ ho
              have hT8 := box_below HT7.out hb (box_lt HT7.out)
              have hS8 := HS7.out.step hb HS7.out.sz
              have b13 := hT8
              have HT9 := Lib.hid (setRow_heap w8 g13 _ #[.int .u8 p2, .int .i8 (f2 0), .int .i8 (f2 1), .int .i8 (f2 2), .int .i8 (f2 3), .int .i8 (f2 4), .int .i8 (f2 5), .int .i8 (t2 0), .int .i8 (t2 1), .int .i8 (t2 2), .int .i8 (t2 3), .int .i8 (t2 4), .int .i8 (t2 5)] _ _ hT8)
              have HS9 := Lib.hid (hS8.step (show Below B w8 (w8.setRow g13 #[.int .u8 p2, .int .i8 (f2 0), .int .i8 (f2 1), .int .i8 (f2 2), .int .i8 (f2 3), .int .i8 (f2 4), .int .i8 (f2 5), .int .i8 (t2 0), .int .i8 (t2 1), .int .i8 (t2 2), .int .i8 (t2 3), .int .i8 (t2 4), .int .i8 (t2 5)]) from ⟨rfl, rfl, rfl, by simp [World.setRow], fun i hi => setRow_other _ g13 i _ (by omega)⟩) (Nat.le_refl _))
              clear hT8 hS8 ho hb HT7 HS7
              go_upto_region 18 with (((with_reducible show wpList _ _ _ (_ :: _) _ _); refine wpList_store_row rfl 96 _ _ rfl _ _ rfl rfl _ _ b13 (by exact size_tn) (by rfl) (by simp [Value.oneCell']) ?_))
              obtain ⟨w9, hw9⟩ : ∃ w9, w9 = w8.setRow g13 #[.int .u8 p2, .int .i8 (f2 0), .int .i8 (f2 1), .int .i8 (f2 2), .int .i8 (f2 3), .int .i8 (f2 4), .int .i8 (f2 5), .int .i8 (t2 0), .int .i8 (t2 1), .int .i8 (t2 2), .int .i8 (t2 3), .int .i8 (t2 4), .int .i8 (t2 5)] := ⟨_, rfl⟩
              rw [← hw9] at HT9 HS9 ⊢
              clear hw9 b13
              have hrb := HS9.out.rd
              rw [← HL.out] at hrb
              have HRB := Lib.hid hrb
              have hsz9 := HS9.out.sz
              have hM := HM.out
              have HBA := Lib.hid (fun w => Bound_any a k c B ys w HL.out.symm HYB.out)
              clear hrb hM
              go_wp2_with fail
              go_at_call 58
              refine (HBA.out _ hsz9 HRB.out).mono ?_
              rintro e w10 ⟨rfl, hb⟩
              rw [show mostI ys = (n : Int) from HM.out.symm]
              have HT10 := Lib.hid (box_below HT9.out hb (box_lt HT9.out))
              have HS10 := Lib.hid (HS9.out.step hb HS9.out.sz)
              clear hb HT9 HS9 HRB HBA
              go_wp2_with fail
              go_roundw
              case rel => exact ⟨q + 1, p2, f2, t2, by go_num, HQ2.out, HS10.out, HT10.out⟩
              case measure => simp [intOf]; omega
            · obtain ⟨p2, f2, t2, o, d, hn, hQ2⟩ := HQ.out.next hp 0 (fun h => absurd h hk2)
              have HN := Lib.hid hn
              have HQ2 := Lib.hid hQ2
              have HT7 := Lib.hid HT6.out
              have HS7 := Lib.hid HS6.out
              clear hn hQ2 hp hpp HQ HT6 HS6
              skip
              have b13 := HT7.out
              go_wp2_with (((with_reducible show wpList _ _ _ (_ :: _) _ _); refine wpList_load_row rfl 96 _ rfl _ rfl _ _ _ _ b13 Try.underlying96 rfl (by exact size_tn) ?_; (try go_simp)))
              go_at_call 47
              refine (Next_det _ hok.1 hok.2 (by decide) (by decide) HN.out).mono ?_
              rintro e w8 ⟨v, rfl, ho, hb⟩
              obtain ⟨xa, xc, rfl⟩ := own_formZ ho
              have hT8 := box_below HT7.out hb (box_lt HT7.out)
              have hS8 := HS7.out.step hb HS7.out.sz
              have b13 := hT8
              have HT9 := Lib.hid (setRow_heap w8 g13 _ #[.int .u8 p2, .int .i8 (f2 0), .int .i8 (f2 1), .int .i8 (f2 2), .int .i8 (f2 3), .int .i8 (f2 4), .int .i8 (f2 5), .int .i8 (t2 0), .int .i8 (t2 1), .int .i8 (t2 2), .int .i8 (t2 3), .int .i8 (t2 4), .int .i8 (t2 5)] _ _ hT8)
              have HS9 := Lib.hid (hS8.step (show Below B w8 (w8.setRow g13 #[.int .u8 p2, .int .i8 (f2 0), .int .i8 (f2 1), .int .i8 (f2 2), .int .i8 (f2 3), .int .i8 (f2 4), .int .i8 (f2 5), .int .i8 (t2 0), .int .i8 (t2 1), .int .i8 (t2 2), .int .i8 (t2 3), .int .i8 (t2 4), .int .i8 (t2 5)]) from ⟨rfl, rfl, rfl, by simp [World.setRow], fun i hi => setRow_other _ g13 i _ (by omega)⟩) (Nat.le_refl _))
              clear hT8 hS8 ho hb HT7 HS7
              go_upto_region 18 with (((with_reducible show wpList _ _ _ (_ :: _) _ _); refine wpList_store_row rfl 96 _ _ rfl _ _ rfl rfl _ _ b13 (by exact size_tn) (by rfl) (by simp [Value.oneCell']) ?_))
              obtain ⟨w9, hw9⟩ : ∃ w9, w9 = w8.setRow g13 #[.int .u8 p2, .int .i8 (f2 0), .int .i8 (f2 1), .int .i8 (f2 2), .int .i8 (f2 3), .int .i8 (f2 4), .int .i8 (f2 5), .int .i8 (t2 0), .int .i8 (t2 1), .int .i8 (t2 2), .int .i8 (t2 3), .int .i8 (t2 4), .int .i8 (t2 5)] := ⟨_, rfl⟩
              rw [← hw9] at HT9 HS9 ⊢
              clear hw9 b13
              have hrb := HS9.out.rd
              rw [← HL.out] at hrb
              have HRB := Lib.hid hrb
              have hsz9 := HS9.out.sz
              have hM := HM.out
              have HBA := Lib.hid (fun w => Bound_any a k c B ys w HL.out.symm HYB.out)
              clear hrb hM
              go_wp2_with fail
              go_at_call 58
              refine (HBA.out _ hsz9 HRB.out).mono ?_
              rintro e w10 ⟨rfl, hb⟩
              rw [show mostI ys = (n : Int) from HM.out.symm]
              have HT10 := Lib.hid (box_below HT9.out hb (box_lt HT9.out))
              have HS10 := Lib.hid (HS9.out.step hb HS9.out.sz)
              clear hb HT9 HS9 HRB HBA
              go_wp2_with fail
              go_roundw
              case rel => exact ⟨q + 1, p2, f2, t2, by go_num, HQ2.out, HS10.out, HT10.out⟩
              case measure => simp [intOf]; omega
end Go.Proofs.Ytboojcahflkkmaa
