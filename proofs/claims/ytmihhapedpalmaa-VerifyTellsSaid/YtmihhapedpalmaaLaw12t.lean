/- VerifyTells, walked. -/
import Derived.Test.YtmihhapedpalmaaVfA
import Derived.Test.YtmihhapedpalmaaVr2
namespace Go.Proofs.Ytmihhapedpalmaa
open Go.RowKit Go.Own Go.Maps
set_option linter.unusedVariables false
set_option linter.unusedSimpArgs false
theorem wpLoadGV {P : Program} {ops : Array Oper} {rest : List Oper} {o : Oper} {a : Act} {w : World} {Q : Exit → Act → World → Prop} (hwt : Region.wanted o (yielded ops a.tmps) = true) (ty : TypeId) (x : Operand) (ho : o.op = .load ty x)
    (g : Nat) (hx : a.eval x = .pointer (some ⟨g, 0, none⟩)) (t : TypeId) (cs : Array Value) (fr : Nat × Nat) (d : TypeDesc) (hg : w.heap[g]? = some (.cells cs t fr))
    (hu : P.underlying ty = some d) (hd : (match d with | .struct _ | .array _ _ => true | _ => false) = true) (hi : (P.info? ty).map (·.size) = some cs.size)
    (h : wpList P ops Q rest (a.put o.dst (.agg cs)) w) : wpList P ops Q (o :: rest) a w := by
  unfold wpList
  rw [if_pos hwt]
  exact .inl (wp_load_row ty x ho g hx t cs fr d hg hu hd hi h)
theorem below_drewsV (B : Nat) (w : World) (n : Nat) : Below B w (w.drewN n) := ⟨rfl, rfl, rfl, Nat.le_refl _, fun _ _ => rfl⟩
/-- A row that has outgrown another's block lies elsewhere. -/
theorem own_apart {w : World} {B B' n gy m : Nat} {e e' : TypeId} {v : Value} {xs ys : List Value} (h : w.ownsRow B e 1 v n xs) (hy : w.ownsRow B' e' 1 (.slice (some ⟨gy, 0, none⟩) m m) m ys) (hlt : m < n) : v.ownBlock ≠ some gy := by
  intro he
  rcases h.2 with ⟨_, h0⟩ | ⟨g, cap, cur, hv, _, hg, hn, _, hs, _⟩
  · omega
  · rw [hv] at he
    simp only [Value.ownBlock, Option.some.injEq] at he
    subst he
    rcases hy.2 with ⟨hv', _⟩ | ⟨g', cap', cur', hv', _, hg', _, _, hs', _⟩
    · simp at hv'
    · simp only [Value.slice.injEq, Option.some.injEq, Addr.mk.injEq, and_true, true_and] at hv'
      obtain ⟨rfl, rfl⟩ := hv'
      rw [hg'] at hg
      simp only [Option.some.injEq, Obj.cells.injEq] at hg
      obtain ⟨rfl, _⟩ := hg
      omega
theorem RwS.mono {lo n n' : Nat} {w : World} {a : Option Addr} {cap : Nat} {l : List Rw} (h : RwS lo n w a cap l) (hn : n ≤ n') : RwS lo n' w a cap l :=
  ⟨h.le, h.top, fun hl => by
    obtain ⟨x, off, e, hlo, hlt, hc⟩ := h.at_ hl
    exact ⟨x, off, e, hlo, Nat.lt_of_lt_of_le hlt hn, hc⟩⟩
set_option maxRecDepth 100000 in
set_option maxHeartbeats 1000000 in
theorem NumF_any (n k : Nat) (w : World) (hn : n < 18446744073709551616) (hk : k ≤ 8) :
    Calls Try.prog 37 #[.int .u64 n, .int .i64 k] w fun e w' => e = .returned (.slice (some ⟨w.heap.size, 0, none⟩) k k) ∧ w'.ownsRow w.heap.size 5 1 (.slice (some ⟨w.heap.size, 0, none⟩) k k) k (bl (numB n k)) ∧ Below w.heap.size w w' := by
  obtain ⟨i0, hi, hz0, hz1, hz2⟩ := info_parts info_u8
  go_enter Try.func37, Try.ntmps37
  go_wp2_with (at_make; refine wpList_make_full w rfl _ _ 54 rfl w.heap.size 5 i0 (.int .u8 0) 1 Try.underlying54 hi hz0 hz1 .i64 .i64 _ _ k rfl rfl rfl rfl ?c1 ?c2 ?c3 ?_)
  case c1 => rw [hz2]; omega
  case c2 => unfold maxLen; omega
  case c3 => exact Nat.le_refl _
  intro w1 hown hgrow
  rw [zeros_bl] at hown
  have hB := (Below.refl w.heap.size w).grown hgrow (Nat.le_refl _) (fun k hk => by cases hk)
  obtain ⟨g, hg⟩ : ∃ g, g = w.heap.size := ⟨_, rfl⟩
  rw [← hg] at hown hB ⊢
  have HG := Lib.hid hg
  clear hgrow hg
  go_wp2
  go_loopw [0, 6] (fun v i wr => ∃ j : Nat, j ≤ k ∧ i = .int .i64 ((k : Int) - 1 - j) ∧ v = .int .u64 (n / 256 ^ j : Nat) ∧ wr.ownsRow g 5 1 (.slice (some ⟨g, 0, none⟩) k k) k (bl (numR n k j)) ∧ Below g w wr)
    (fun _ i _ => (intOf i + 1).toNat)
  case atStart => exact ⟨0, Nat.zero_le _, by go_num, by simp, by rw [numR_zero]; exact hown, hB⟩
  case round =>
    obtain ⟨j, hj, rfl, rfl, hown, hB⟩ := hrel
    have hle : n / 256 ^ j ≤ n := Nat.div_le_self _ _
    by_cases hlt : j < k
    · obtain ⟨q, hq⟩ : ∃ q, q = k - 1 - j := ⟨_, rfl⟩
      have hs := numR_set n k j hlt
      have hd : n / 256 ^ (j + 1) = n / 256 ^ j / 256 := by rw [Nat.pow_succ, Nat.div_div_eq_div_mul]
      rw [← hq] at hs
      have hi1 : (k : Int) - 1 - j = (q : Int) := by omega
      rw [hi1]
      obtain ⟨m, hm⟩ : ∃ m, m = n / 256 ^ j := ⟨_, rfl⟩
      rw [← hm] at hs hd hle ⊢
      have HS := Lib.hid hs
      have HD := Lib.hid hd
      have hc := hown.cellAt q (by omega)
      have hf := hown.frozenAt q
      rw [bl_at _ (by rw [numR_len _ _ _ hj]; omega)] at hc
      unfold bv at hc
      obtain ⟨y, hy⟩ : ∃ y, y = (numR n k j).getD q 0 := ⟨_, rfl⟩
      rw [← hy] at hc
      have HO := Lib.hid hown
      have HI := Lib.hid hi1.symm
      have hqk : q < k := by omega
      clear hq
      clear hs hd hy hown hi1 hm
      go_wp2
      go_roundw
      case rel =>
        obtain ⟨h1, h2⟩ := HO.out.stored q (.int .u8 ((m % 256 : Nat) : Int))
        have hi2 := HI.out
        refine ⟨j + 1, by omega, ret_int' (by omega), ?_, ?_, ?_⟩
        · rw [HD.out]; go_num
        · rw [← HS.out]; exact h1
        · exact hB.grown h2 (by have := hB.size; have := HG.out; omega) (fun i hi => by cases hi; omega)
      case measure => have := HI.out; simp [intOf] <;> omega
    · obtain rfl : j = k := by omega
      rw [numR_all] at hown
      go_wp2
      go_ret
      exact ⟨by rw [← HG.out]; rfl, by rw [← HG.out]; exact hown, by rw [← HG.out]; exact hB⟩

/-- What VerifyTells has: the verdict's box, the two reports' data. -/
structure TlS (w wr : World) (g : Nat) (C : Array Value) (p1 p2 : Value) (l1 l2 : List Nat) : Prop where
  hp : wr.heap[g]? = some (.cells C 70 (0, 0))
  o1 : wr.ownsRow w.heap.size 5 1 p1 l1.length (bl l1)
  o2 : wr.ownsRow w.heap.size 5 1 p2 l2.length (bl l2)
  bel : Below w.heap.size w wr
theorem TlS.below {w wr w' : World} {g : Nat} {C : Array Value} {p1 p2 : Value} {l1 l2 : List Nat} (h : TlS w wr g C p1 p2 l1 l2) (hb : Below wr.heap.size wr w') : TlS w w' g C p1 p2 l1 l2 :=
  ⟨(hb.block g (box_lt h.hp)).trans h.hp, own_keep h.o1 hb, own_keep h.o2 hb, h.bel.trans (hb.mono h.bel.size)⟩
theorem vData_len (i k : Nat) : (vData i k).length = if k = 0 then 4 else 5 := by
  unfold vData
  split <;> simp [numB_len]
theorem vData_bytes (i : Nat) {k : Nat} (hk : k < 256) : bytes (vData i k) := by
  unfold vData
  split
  · exact numB_bytes i 4
  · intro x hx
    rcases List.mem_append.1 hx with hx | hx
    · exact numB_bytes i 4 x hx
    · simp at hx; omega
/-- Does a row of the kind stand in the list? -/
def knL (l : List Rw) (sv : Nat) : Bool := l.any (fun r => r.s == sv)
theorem knL_snoc (l : List Rw) (r : Rw) (sv : Nat) : knL (l ++ [r]) sv = (knL l sv || ((r.s : Int) == (sv : Int))) := by
  have e : ((r.s : Int) == (sv : Int)) = (r.s == sv) := by
    by_cases h : r.s = sv
    · simp [h]
    · rw [beq_eq_false_iff_ne.2 h, beq_eq_false_iff_ne]; omega
  rw [e]
  simp [knL]
theorem knL_knows {l : List Rw} (h : RwOk l) (sv : Nat) : knL l sv = true ↔ KnowsT (tabL l) sv := by
  rw [tabL_knows h]
  simp [knL]
set_option maxRecDepth 100000 in
set_option maxHeartbeats 8000000 in
theorem walk_VerifyTells (k k2 i f sv : Int) (x : Option Addr) (len cap : Nat) (w : World)
    (w0 : (Lit.int .u8 k).wf = true) (w1 : (Lit.int .u8 k2).wf = true) (w2 : (Lit.int .u32 i).wf = true) (w3 : (Lit.int .u8 f).wf = true) (w4 : (Lit.int .u8 sv).wf = true) (w5 : IsFlat [.int .u8, .int .u8, .int .i64, .int .i64] w x len cap) :
    Calls Try.prog 6 #[.int .u8 k, .int .u8 k2, .int .u32 i, .int .u8 f, .int .u8 sv, .slice x len cap] w fun e w' => e = .returned (.bool true) ∧ Below w.heap.size w w' := by
  obtain ⟨i0, hi, hz0, hz1, hz2⟩ := info_parts info_u8
  have hzc := zero_cm
  have hzv := zero_vd
  obtain ⟨p0, p1⟩ := bounds_u8 w0
  obtain ⟨q0, q1⟩ := bounds_u8 w1
  obtain ⟨r0, r1⟩ := bounds_u32 w2
  obtain ⟨t0, t1⟩ := bounds_u8 w3
  obtain ⟨y0, y1⟩ := bounds_u8 w4
  obtain ⟨k, rfl⟩ := Int.eq_ofNat_of_zero_le p0
  obtain ⟨k2, rfl⟩ := Int.eq_ofNat_of_zero_le q0
  obtain ⟨i, rfl⟩ := Int.eq_ofNat_of_zero_le r0
  obtain ⟨f, rfl⟩ := Int.eq_ofNat_of_zero_le t0
  obtain ⟨sv, rfl⟩ := Int.eq_ofNat_of_zero_le y0
  have hk : k < 256 := by omega
  have hk2 : k2 < 256 := by omega
  have hi32 : i < 4294967296 := by omega
  have hf : f < 256 := by omega
  have hsv : sv < 256 := by omega
  obtain ⟨m, hm⟩ : ∃ m, m = min len 12 := ⟨_, rfl⟩
  obtain ⟨L, hL, hok, hr⟩ := rws_flat w5 (show m ≤ len by omega)
  have HX := Lib.hid (show len ≤ cap ∧ (x = none → cap = 0) from ⟨w5.1, w5.2.2.1⟩)
  have HM := Lib.hid hm
  have HL := Lib.hid hL
  have HOK := Lib.hid hok
  have HR := Lib.hid hr
  clear w0 w1 w2 w3 w4 w5 p1 q0 q1 r0 r1 t0 t1 y0 y1 p0 hm hL hok hr
  go_enter Try.func6, Try.ntmps6
  go_wp2_with fail
  go_at_call 25
  refine (awake12 _).mono ?_
  rintro e w1 ⟨rfl, hb1⟩
  have hb3 := hb1.alloc hb1.size (.cells #[.int .u8 (k : Nat), .int .u32 (i : Nat), .int .u8 (f : Nat), .int .u8 0, .int .u8 0, .int .u16 0, .slice none 0 0] 70)
  have h3 := heap_alloc_new w1 (.cells #[.int .u8 (k : Nat), .int .u32 (i : Nat), .int .u8 (f : Nat), .int .u8 0, .int .u8 0, .int .u16 0, .slice none 0 0] 70)
  obtain ⟨w3, hw3⟩ : ∃ w3, w1.alloc (.cells #[.int .u8 (k : Nat), .int .u32 (i : Nat), .int .u8 (f : Nat), .int .u8 0, .int .u8 0, .int .u16 0, .slice none 0 0] 70) = w3 := ⟨_, rfl⟩
  rw [hw3] at hb3 h3
  have HB3 := Lib.hid hb3
  clear hb1 hb3
  have h3s := heap_alloc_new w1 (.cells #[.int .u8 0, .int .u32 0, .int .u8 0, .int .u8 0, .int .u8 0, .int .u16 0, .slice none 0 0] 70)
  go_upto_region 4 with ((with_reducible show wpList _ _ _ (_ :: _) _ _); refine wpList_store_row rfl 70 _ _ rfl _ _ rfl rfl _ _ h3s (by exact size_vd) (by rfl) (by simp [Value.oneCell']) ?_; rw [World.setRow_alloc_new, hw3])
  clear h3s
  obtain ⟨g, hg⟩ : ∃ g, g = w1.heap.size := ⟨_, rfl⟩
  rw [← hg] at h3 ⊢
  clear hg hw3
  have H3 := Lib.hid h3
  go_wp2_with (refine wpList_load_row rfl 70 _ rfl _ rfl _ _ _ _ H3.out Try.underlying70 rfl (by exact size_vd) ?_; (try go_simp))
  go_at_call 35
  refine (vAccepted k i f 0 0 0 _ w3 hk hi32).mono ?_
  rintro e w4 ⟨p, rfl, ho1, hb4⟩
  have h4 := (hb4.block g (box_lt H3.out)).trans H3.out
  have HB4 := Lib.hid (HB3.out.trans (hb4.mono HB3.out.size))
  have HO1 := Lib.hid (own_base ho1 HB3.out.size)
  have H4 := Lib.hid h4
  clear ho1 hb4 h4 h3 H3 HB3
  go_wp2_with (refine wpList_load_row rfl 70 _ rfl _ rfl _ _ _ _ H4.out Try.underlying70 rfl (by exact size_vd) ?_; (try go_simp))
  go_at_call 36
  refine (vDone k i f 0 0 0 k2 _ w4 hk2 hi32).mono ?_
  rintro e w5 ⟨p2, rfl, ho2, hb5⟩
  have ST5 := Lib.hid (TlS.mk ((hb5.block g (box_lt H4.out)).trans H4.out) (own_keep HO1.out hb5) (own_base ho2 HB4.out.size) (HB4.out.trans (hb5.mono HB4.out.size)))
  clear ho2 hb5 H4 HO1 HB4
  go_wp2_with fail
  go_at_call 37
  refine (NumF_any i 4 w5 (by omega) (by omega)).mono ?_
  rintro e w6 ⟨rfl, hx6, hb6⟩
  have HX6 := Lib.hid hx6
  have HB6 := Lib.hid hb6
  clear hx6 hb6
  go_wp2_with fail
  go_at_call 37
  refine (NumF_any i 4 w6 (by omega) (by omega)).mono ?_
  rintro e w7 ⟨rfl, hy7, hb7⟩
  have hx7 := own_keep HX6.out hb7
  have hb57 := HB6.out.trans (hb7.mono HB6.out.size)
  obtain ⟨gy, hgy⟩ : ∃ gy, gy = w6.heap.size := ⟨_, rfl⟩
  obtain ⟨gx, hgx⟩ : ∃ gx, gx = w5.heap.size := ⟨_, rfl⟩
  have hgxy : gx < gy := by have := (HX6.out.lt gx (by rw [hgx]; rfl)).2; omega
  rw [← hgx] at hx7 hb57 ⊢
  rw [← hgy] at hy7 ⊢
  have HX7 := Lib.hid hx7
  have HY7 := Lib.hid hy7
  have HB7 := Lib.hid hb57
  have HGX := Lib.hid hgx
  clear hx7 hy7 hb57 hgx hgy HX6 HB6 hb7
  go_upto_if 52 with fail
  go_cut [18, 20] (fun s18 s20 wx => ∃ xa xc, s18 = .slice xa (vData i k).length xc ∧ s20 = .int .u8 (vSub k 1 2 : Nat) ∧ wx.ownsRow gx 5 1 (.slice xa (vData i k).length xc) (vData i k).length (bl (vData i k)) ∧ (Value.slice xa (vData i k).length xc).ownBlock ≠ some gy ∧ wx.ownsRow gx 5 1 (.slice (some ⟨gy, 0, none⟩) 4 4) 4 (bl (numB i 4)) ∧ Below gx w5 wx)
  case first =>
    by_cases hk0 : k = 0
    · subst hk0
      go_wp2
      go_meet
      case rel => rw [vData_len, if_pos rfl, show vData i 0 = numB i 4 from rfl]; exact ⟨_, _, rfl, rfl, HX7.out, fun e => by simp [Value.ownBlock] at e; omega, own_base HY7.out (Nat.le_of_lt hgxy), HB7.out⟩
    · have hkI : ((k : Int) != 0) = true := by simp [hk0]
      have hsz := HB7.out.size
      rw [← HGX.out] at hsz
      go_wp2_with (at_builtin; refine wpList_append_own _ rfl _ _ 54 rfl gx 5 i0 (.int .u8 0) 1 1 Try.underlying54 hi hz0 hz1 hz2 rfl (by decide) _ _ _ rfl (HX7.out.alloc _) ⟨w7.heap.size, 0, none⟩ 1 1 [.int .u8 (k : Nat)] rfl rfl (cell_one_new _ _ _) (by simp [Value.oneCell']) (by unfold maxLen; omega) (by omega) (by simp; omega) ?_; intro v8 w8 hown8 hgr8 _)
      have hxy : (Value.slice (some ⟨gy, 0, none⟩) 4 4).ownBlock ≠ (Value.slice (some ⟨gx, 0, none⟩) 4 4).ownBlock := fun e => by
        have e2 : some gy = some gx := e
        injection e2; omega
      have hy8 := (HY7.out.alloc (.cells #[.int .u8 (k : Nat)] 5)).kept hgr8 (.inr hxy)
      have hne := own_apart hown8 hy8 (by decide)
      have hb8 := (HB7.out.alloc hsz (.cells #[.int .u8 (k : Nat)] 5)).grown hgr8 (by simp; omega) (fun j hj => by cases hj; exact Nat.le_refl _)
      have hs2 : vSub k 1 2 = 2 := if_neg hk0
      have hd2 : vData i k = numB i 4 ++ [k] := if_neg hk0
      have hl2 : (vData i k).length = 5 := by rw [vData_len, if_neg hk0]
      have hown8 : w8.ownsRow gx 5 1 v8 5 (bl (numB i 4 ++ [k])) := by simpa [bl] using hown8
      obtain ⟨xa, xc, rfl⟩ := own_form hown8
      go_meet
      case rel => rw [hs2, hl2, hd2]; exact ⟨_, _, rfl, rfl, hown8, hne, own_base hy8 (Nat.le_of_lt hgxy), hb8⟩
  case rest =>
    obtain ⟨xa, xc, rfl, rfl, hx8, hne, hy8, hb8⟩ := hcut
    obtain ⟨w8, rfl⟩ : ∃ w8, w8 = wc := ⟨_, rfl⟩
    have HX8 := Lib.hid hx8
    have HY8 := Lib.hid hy8
    have HB8 := Lib.hid hb8
    have HNE := Lib.hid hne
    clear hx8 hy8 hb8 hne HX7 HY7 HB7
    go_upto_if 58 with fail
    go_cut [19, 21] (fun s19 s21 wx => ∃ ya yc, s19 = .slice ya (vData i k2).length yc ∧ s21 = .int .u8 (vSub k2 7 8 : Nat) ∧ wx.ownsRow gx 5 1 (.slice ya (vData i k2).length yc) (vData i k2).length (bl (vData i k2)) ∧ wx.ownsRow gx 5 1 (.slice xa (vData i k).length xc) (vData i k).length (bl (vData i k)) ∧ Below gx w5 wx)
    case first =>
      have hsz := HB8.out.size
      rw [← HGX.out] at hsz
      by_cases hk0 : k2 = 0
      · subst hk0
        go_wp2
        go_meet
        case rel =>
          rw [vData_len i 0, if_pos rfl, show vData i 0 = numB i 4 from rfl]
          exact ⟨_, _, rfl, rfl, HY8.out, HX8.out, HB8.out⟩
      · have hkI : ((k2 : Int) != 0) = true := by simp [hk0]
        go_wp2_with (at_builtin; refine wpList_append_own _ rfl _ _ 54 rfl gx 5 i0 (.int .u8 0) 1 1 Try.underlying54 hi hz0 hz1 hz2 rfl (by decide) _ _ _ rfl (HY8.out.alloc _) ⟨w8.heap.size, 0, none⟩ 1 1 [.int .u8 (k2 : Nat)] rfl rfl (cell_one_new _ _ _) (by simp [Value.oneCell']) (by unfold maxLen; omega) (by omega) (by simp; omega) ?_; intro v9 w9 hown9 hgr9 _)
        have hx9 := (HX8.out.alloc (.cells #[.int .u8 (k2 : Nat)] 5)).kept hgr9 (.inr HNE.out)
        have hb9 := (HB8.out.alloc hsz (.cells #[.int .u8 (k2 : Nat)] 5)).grown hgr9 (by simp; omega) (fun j hj => by cases hj; exact Nat.le_of_lt hgxy)
        have hs2 : vSub k2 7 8 = 8 := if_neg hk0
        have hd2 : vData i k2 = numB i 4 ++ [k2] := if_neg hk0
        have hl2 : (vData i k2).length = 5 := by rw [vData_len, if_neg hk0]
        have hown9 : w9.ownsRow gx 5 1 v9 5 (bl (numB i 4 ++ [k2])) := by simpa [bl] using hown9
        obtain ⟨ya, yc, rfl⟩ := own_form hown9
        go_meet
        case rel => rw [hs2, hl2, hd2]; exact ⟨_, _, rfl, rfl, hown9, hx9, hb9⟩
    case rest =>
      obtain ⟨ya, yc, rfl, rfl, hy9, hx9, hb9⟩ := hcut
      obtain ⟨w9, rfl⟩ : ∃ w9, w9 = wc := ⟨_, rfl⟩
      have hs5 : w.heap.size ≤ gx := by rw [HGX.out]; exact ST5.out.bel.size
      have hb9 : Below w5.heap.size w5 w9 := by rw [← HGX.out]; exact hb9
      have ST9 := Lib.hid (ST5.out.below hb9)
      have HX9 := Lib.hid (own_base hx9 hs5)
      have HY9 := Lib.hid (own_base hy9 hs5)
      have HR9 := Lib.hid ((HR.out.below ST9.out.bel (Nat.le_refl _)).mono ST9.out.bel.size)
      clear hb9 hx9 hy9 HX8 HY8 HB8 HNE hgxy hs5 HGX ST5 HR
      go_wp2_with fail
      go_at_call 27
      refine (table_any x len cap m L w9 HM.out HX.out.1 HX.out.2 HL.out HOK.out HR9.out).mono ?_
      rintro e wt ⟨b, n, D, tx, tc, rfl, ht, hrt, hbt⟩
      have STt := Lib.hid (ST9.out.below hbt)
      have HXt := Lib.hid (own_keep HX9.out hbt)
      have HYt := Lib.hid (own_keep HY9.out hbt)
      have HT := Lib.hid ht
      have HRT := Lib.hid hrt
      have hm12 : m ≤ 12 := by have := HM.out; omega
      clear ht hrt hbt ST9 HX9 HY9 HR9 HM HX
      have hle := HRT.out.le
      have htop := HRT.out.top
      unfold maxLen at htop
      rw [HL.out] at hle
      go_wp2_with fail
      go_loopw [24, 70] (fun s24 s70 wr => ∃ (j : Nat), j ≤ m ∧ s70 = .int .i64 (j : Nat) ∧ s24 = .bool (knL (L.take j) sv) ∧ Below wt.heap.size wt wr) (fun _ v _ => m - (intOf v).toNat)
      case atStart => exact ⟨0, Nat.zero_le _, rfl, rfl, Below.refl _ _⟩
      case round =>
        obtain ⟨j, hj, rfl, rfl, hB⟩ := hrel
        have HB := Lib.hid hB
        clear hB
        by_cases hlt : j < m
        · have hkl : j < L.length := by have := HL.out; omega
          obtain ⟨bb, off, rfl, hlo, hbn, hc⟩ := (HRT.out.below HB.out (Nat.le_refl _)).at_ (by omega)
          have hs := (HOK.out.at hkl).1
          have htk : L.take (j + 1) = L.take j ++ [L.getD j rw0] := by
            rw [List.take_add_one, List.getElem?_eq_getElem hkl]
            simp [List.getD, hkl]
          have hrg := hc j hkl
          obtain ⟨r, hr⟩ : ∃ r, r = L.getD j rw0 := ⟨_, rfl⟩
          rw [← hr] at hs htk hrg
          have hrl : wr.rangeAt bb (off + j * 4) (Rw.cs r) := hrg
          have hkn := knL_snoc (L.take j) r sv
          rw [← htk] at hkn
          obtain ⟨t, ht⟩ : ∃ t, t = knL (L.take j) sv := ⟨_, rfl⟩
          rw [← ht] at hkn ⊢
          have HKN := Lib.hid hkn
          have hal := (Below.refl wr.heap.size wr).alloc (Nat.le_refl _) (.cells #[.int .u8 (r.s : Nat), .int .u8 (r.u : Nat), .int .i64 r.p, .int .i64 r.q] 84)
          have h6 := heap_alloc_new wr (.cells #[.int .u8 (r.s : Nat), .int .u8 (r.u : Nat), .int .i64 r.p, .int .i64 r.q] 84)
          obtain ⟨we, hwe⟩ : ∃ we, wr.alloc (.cells #[.int .u8 (r.s : Nat), .int .u8 (r.u : Nat), .int .i64 r.p, .int .i64 r.q] 84) = we := ⟨_, rfl⟩
          rw [hwe] at hal h6
          have HB2 := Lib.hid (HB.out.trans (hal.mono HB.out.size))
          clear hr hrg htk hc hkn ht hal HB
          go_upto_region 17 with (first | ((with_reducible show wpList _ _ _ (_ :: _) _ _); refine wpList_load_mid rfl 84 _ rfl _ (off + j * 4) rfl (Rw.cs r) _ hrl Try.underlying84 rfl size_row12 ?_; rw [show (Rw.cs r).toArray = #[.int .u8 (r.s : Nat), .int .u8 (r.u : Nat), .int .i64 r.p, .int .i64 r.q] from rfl]; (try go_simp)) | ((with_reducible show wpList _ _ _ (_ :: _) _ _); refine wpList_store_row rfl 84 _ _ rfl _ _ rfl rfl _ _ (heap_alloc_new _ _) (by exact size_row12) (by rfl) (by simp [Value.oneCell']) ?_; rw [World.setRow_alloc_new, hwe]))
          clear hrl hwe
          obtain ⟨g6, hg6⟩ : ∃ g, g = wr.heap.size := ⟨_, rfl⟩
          rw [← hg6] at h6 ⊢
          clear hg6
          have c0 := cell_of_row _ g6 0 _ _ _ h6
          clear h6
          have hjm : j + 1 ≤ m := hlt
          clear hs hlo hbn hkl
          cases t with
          | true =>
            go_wp2
            go_roundw
            case rel => exact ⟨j + 1, hjm, by go_num, by rw [HKN.out]; rfl, HB2.out⟩
            case measure => simp [intOf]; omega
          | false =>
            go_wp2
            go_roundw
            case rel => exact ⟨j + 1, hjm, by go_num, by rw [HKN.out]; simp, HB2.out⟩
            case measure => simp [intOf]; omega
        · obtain rfl : j = m := by omega
          have hLk : L.take j = L := List.take_of_length_le (by have := HL.out; omega)
          rw [hLk]
          have STr := Lib.hid (STt.out.below HB.out)
          have HXr := Lib.hid (own_keep HXt.out HB.out)
          have HYr := Lib.hid (own_keep HYt.out HB.out)
          have HTr := Lib.hid (HT.out.below HB.out)
          obtain ⟨t, ht⟩ : ∃ t, t = knL L sv := ⟨_, rfl⟩
          have htk := knL_knows HOK.out sv
          rw [← ht] at htk ⊢
          have HTK := Lib.hid htk
          clear ht htk hLk HB HT HXt HYt STt HRT HOK HL
          obtain ⟨v1, hv1⟩ : ∃ v1, v1 = vSub k 1 2 := ⟨_, rfl⟩
          obtain ⟨v2, hv2⟩ : ∃ v2, v2 = vSub k2 7 8 := ⟨_, rfl⟩
          obtain ⟨l1, hl1⟩ : ∃ l1, l1 = vData i k := ⟨_, rfl⟩
          obtain ⟨l2, hl2⟩ : ∃ l2, l2 = vData i k2 := ⟨_, rfl⟩
          rw [← hv1, ← hv2, ← hl1, ← hl2]
          rw [← hl1, ← hl2] at STr
          rw [← hl1] at HXr
          rw [← hl2] at HYr
          have hby1 : bytes l1 := by rw [hl1]; exact vData_bytes i hk
          have hby2 : bytes l2 := by rw [hl2]; exact vData_bytes i hk2
          clear hv1 hv2 hl1 hl2
          obtain ⟨pa, pc, rfl⟩ := own_form STr.out.o1
          obtain ⟨qa, qc, rfl⟩ := own_form STr.out.o2
          have hp := STr.out.hp
          go_wp2_with fail
          go_at_call 33
          refine (Same_any pa xa l1.length l1.length pc xc _ _ l1 l1 wr rfl rfl (rd_of_own (f := bv l1) STr.out.o1 (fun i hi => bl_at l1 hi)) (rd_of_own (f := bv l1) HXr.out (fun i hi => bl_at l1 hi)) hby1 hby1).mono ?_
          rintro e ws ⟨rfl, js, hws⟩
          have hbs : Below wr.heap.size wr ws := by rw [hws]; exact below_drewsV _ _ _
          have STs := Lib.hid (STr.out.below hbs)
          have HYs := Lib.hid (own_keep HYr.out hbs)
          have HTs := Lib.hid (HTr.out.below hbs)
          rw [decide_eq_true (rfl : l1 = l1)]
          clear hws hbs STr HXr HYr HTr hp hby1
          go_wp2_with fail
          go_at_call 33
          refine (Same_any qa ya l2.length l2.length qc yc _ _ l2 l2 ws rfl rfl (rd_of_own (f := bv l2) STs.out.o2 (fun i hi => bl_at l2 hi)) (rd_of_own (f := bv l2) HYs.out (fun i hi => bl_at l2 hi)) hby2 hby2).mono ?_
          rintro e wu ⟨rfl, ju, hwu⟩
          have hbu : Below ws.heap.size ws wu := by rw [hwu]; exact below_drewsV _ _ _
          have STu := Lib.hid (STs.out.below hbu)
          have HTu := Lib.hid (HTs.out.below hbu)
          rw [decide_eq_true (rfl : l2 = l2)]
          clear hwu hbu STs HYs HTs hby2
          go_wp2_with (refine wpLoadGV (by (first | exact Go.Mix.wanted_none rfl | exact Go.Mix.wanted_tt rfl rfl rfl | exact Go.Mix.wanted_ff rfl rfl rfl)) 70 _ rfl _ rfl _ _ _ _ STu.out.hp Try.underlying70 rfl (by exact size_vd) ?_; (try go_simp))
          go_at_call 38
          refine (vWants k i f 0 0 0 _ true wu hk hf).mono ?_
          rintro e wa ⟨rfl, hba⟩
          have STa := Lib.hid (STu.out.below hba)
          have HTa := Lib.hid (HTu.out.below hba)
          clear hba STu HTu
          rw [if_pos rfl]
          obtain ⟨c1, hc1⟩ : ∃ c1, c1 = decide (f % 2 = 1) := ⟨_, rfl⟩
          obtain ⟨c2, hc2⟩ : ∃ c2, c2 = decide (f / 8 % 2 = 1) := ⟨_, rfl⟩
          have hi1 : ((f : Int) % 2 == 1) = c1 := by
            rw [hc1]
            by_cases e : f % 2 = 1
            · rw [decide_eq_true e, beq_iff_eq]; omega
            · rw [decide_eq_false e, beq_eq_false_iff_ne]; omega
          have hi2 : ((f : Int) / 8 % 2 == 1) = c2 := by
            rw [hc2]
            by_cases e : f / 8 % 2 = 1
            · rw [decide_eq_true e, beq_iff_eq]; omega
            · rw [decide_eq_false e, beq_eq_false_iff_ne]; omega
          have hwn := fun w => vWants k i f 0 0 0 (.slice none 0 0) false w hk hf
          rw [if_neg (by decide), ← hc2] at hwn
          rw [← hc1]
          clear hc1 hc2
          have HWN := Lib.hid hwn
          clear hwn
          by_cases hk0 : k = 0
          · have hkd : decide (k ≠ 0) = false := by simp [hk0]
            rw [hkd]
            have HKD := Lib.hid hkd
            have hkI : ((k : Int) != 0) = false := by simp [hk0]
            clear hkd hk0
            go_wp2_with (refine wpLoadGV (by (first | exact Go.Mix.wanted_none rfl | exact Go.Mix.wanted_tt rfl rfl rfl | exact Go.Mix.wanted_ff rfl rfl rfl)) 70 _ rfl _ rfl _ _ _ _ STa.out.hp Try.underlying70 rfl (by exact size_vd) ?_; (try go_simp))
            go_at_call 38
            refine (HWN.out _).mono ?_
            rintro e wb ⟨rfl, hbb⟩
            have STb := Lib.hid (STa.out.below hbb)
            have HTb := Lib.hid (HTa.out.below hbb)
            clear hbb STa HTa
            rw [HKD.out]
            go_wp2_with fail
            go_at_call 39
            refine (Known_any sv b n (tabL L) D wb HTb.out t HTK.out hsv).mono ?_
            rintro e wc ⟨rfl, hbc⟩
            have HBC := Lib.hid (STb.out.below hbc).bel
            clear hbc STb HTb
            go_wp2
            go_ret
            exact ⟨by simp, HBC.out⟩
          · have hkd : decide (k ≠ 0) = true := by simp [hk0]
            rw [hkd]
            have HKD := Lib.hid hkd
            have hkI : ((k : Int) != 0) = true := by simp [hk0]
            clear hkd hk0
            go_wp2_with (refine wpLoadGV (by (first | exact Go.Mix.wanted_none rfl | exact Go.Mix.wanted_tt rfl rfl rfl | exact Go.Mix.wanted_ff rfl rfl rfl)) 70 _ rfl _ rfl _ _ _ _ STa.out.hp Try.underlying70 rfl (by exact size_vd) ?_; (try go_simp))
            go_at_call 38
            refine (HWN.out _).mono ?_
            rintro e wb ⟨rfl, hbb⟩
            have STb := Lib.hid (STa.out.below hbb)
            have HTb := Lib.hid (HTa.out.below hbb)
            clear hbb STa HTa
            rw [HKD.out]
            go_wp2_with fail
            go_at_call 39
            refine (Known_any sv b n (tabL L) D wb HTb.out t HTK.out hsv).mono ?_
            rintro e wc ⟨rfl, hbc⟩
            have HBC := Lib.hid (STb.out.below hbc).bel
            clear hbc STb HTb
            go_wp2
            go_ret
            exact ⟨by simp, HBC.out⟩
end Go.Proofs.Ytmihhapedpalmaa
