/- Layer 22: the law's few. -/
import Derived.Test.YtinaimacocgemaaAlr
import Derived.Test.YtinaimacocgemaaOwn
import Derived.Deep.MidRow
import Derived.Deep.DeepCutAuto
namespace Go.Proofs.Ytinaimacocgemaa
open Go.RowKit Go.Own Go.Proofs
set_option linter.unusedVariables false
set_option linter.unusedSimpArgs false
theorem min_litV {P : Program} (ats : Array TypeId) (ty : TypeId) (k : IntKind) (a b : Int) (w : World) : (Builtin.min_ ats ty #[.int k a, .int k b]).run P w = .ok (.int k (min a b)) w := by
  have e2 : (Builtin.min2 (.int k a) (.int k b)).run P w = .ok (.int k (min a b)) w := by
    unfold Builtin.min2
    by_cases h : b < a
    · have e : min a b = b := by omega
      simp [e, h]
    · have e : min a b = a := by omega
      simp [e, h]
  simp [Builtin.min_, e2]
theorem own_keepA {w w' : World} {base : Nat} {e : TypeId} {size : Nat} {v : Value} {n : Nat} {xs : List Value} (h : w.ownsRow base e size v n xs) (hb : Below w.heap.size w w') : w'.ownsRow base e size v n xs := by
  obtain ⟨h1, h2 | ⟨g, cap, cur, hv, hbb, hr, ho⟩⟩ := h
  · exact ⟨h1, .inl h2⟩
  · exact ⟨h1, .inr ⟨g, cap, cur, hv, hbb, (hb.block g (Array.getElem?_eq_some_iff.1 hr).1).trans hr, ho⟩⟩
theorem lit_cellsA (w : World) (t : TypeId) (l : List Value) : ∀ (j : Nat) (u : Value), l[j]? = some u → (w.alloc (.cells l.toArray t)).cell? ((⟨w.heap.size, 0, none⟩ : Addr).add j) = some u := fun j u h => by
  rw [Addr.add_mid, Nat.zero_add]
  exact (cell_of_row _ _ j _ _ _ (heap_alloc_new w _)).trans (by rw [← h, ← Array.getElem?_toList])
theorem info_al : (Try.prog.info? 84).map (fun i => (i.zero, i.size, i.bytes)) = some (some (.agg #[.int .u8 0, .int .i64 0, .int .u8 0]), 3, 24) := by kernel_rfl
theorem info_alr : (Try.prog.info? 87).map (fun i => (i.zero, i.size, i.bytes)) = some (some (.agg #[.int .u8 0, .int .i64 0, .int .u8 0]), 3, 24) := by kernel_rfl
theorem size_alr : (Try.prog.info? 87).map (·.size) = some 3 := by kernel_rfl
theorem zero_alr (w : World) : (zeroValue 87).run Try.prog w = .ok (.agg #[.int .u8 0, .int .i64 0, .int .u8 0]) w := by kernel_rfl
theorem own_formA {w : World} {base m : Nat} {e : TypeId} {size : Nat} {v : Value} {xs : List Value} (h : w.ownsRow base e size v m xs) : ∃ a c, v = .slice a m c := by
  obtain ⟨h1, ⟨h2, h3⟩ | ⟨g', cap, cur, hv, hb', hr, ho⟩⟩ := h
  · exact ⟨none, 0, by simp_all⟩
  · exact ⟨_, _, hv⟩
theorem alrl_snoc (l : List Al) (r : Al) : alrl (l ++ [r]) = alrl l ++ r.cs := by simp [alrl]
theorem alrl_take (l : List Al) {k : Nat} (hk : k < l.length) : alrl (l.take (k + 1)) = alrl (l.take k) ++ (l.getD k al0).cs := by
  rw [show l.take (k + 1) = l.take k ++ [l.getD k al0] by rw [List.take_add_one, List.getElem?_eq_getElem hk]; simp [List.getD, hk]]
  simp [alrl]
set_option maxRecDepth 100000 in
set_option maxHeartbeats 4000000 in
theorem few_any (a : Option Addr) (len cap m : Nat) (L : List Al) (w : World) (hm : m = min len 20) (hlc : len ≤ cap) (hn : a = none → cap = 0) (hL : L.length = m) (hr : AlS 0 w.heap.size w a cap L) :
    Calls Try.prog 43 #[.slice a len cap] w fun e w' => ∃ (x : Option Addr) (c : Nat) (y : Option Addr) (d : Nat), e = .returned (.tuple #[.slice x m c, .slice y m d]) ∧ AlS w.heap.size w'.heap.size w' x c L ∧ AlS w.heap.size w'.heap.size w' y d L ∧ Below w.heap.size w w' := by
  obtain ⟨i0, hi, hz0, hz1, hz2⟩ := info_parts info_al
  obtain ⟨i1, hj, hy0, hy1, hy2⟩ := info_parts info_alr
  have hzr := zero_al
  have hcap := hr.top
  unfold maxLen at hcap
  have hmn := fun (w : World) => min_litV (P := Try.prog) #[3, 3] 3 .i64 (len : Int) 20 w
  rw [show min (len : Int) 20 = (m : Int) by omega] at hmn
  have hm12 : m ≤ 20 := by omega
  have hml : m ≤ len := by omega
  have HM := Lib.hid hm
  have HR := Lib.hid hr
  have HL := Lib.hid hL
  have HN := Lib.hid hn
  clear hm hr hL hn
  go_enter Try.func43, Try.ntmps43
  go_upto_region 1 with fail
  go_cut [0] (fun v wx => ∃ (x : Option Addr) (c : Nat), v = .slice x m c ∧ AlS w.heap.size wx.heap.size wx x c L ∧ Below w.heap.size w wx)
  case first =>
    by_cases hnn : a = none
    · have hc0 := HN.out hnn
      subst hnn
      obtain rfl : cap = 0 := hc0
      obtain rfl : len = 0 := by omega
      obtain rfl : m = 0 := by omega
      clear hmn
      have hmn := fun (w : World) => min_litV (P := Try.prog) #[3, 3] 3 .i64 (0 : Int) 20 w
      rw [show min (0 : Int) 20 = 0 by decide] at hmn
      go_wp2
      go_meet
      case rel => exact ⟨_, 0, rfl, ⟨by have := HL.out; omega, Nat.zero_le _, fun h => by have := HL.out; omega⟩, (Below.refl _ _).alloc (Nat.le_refl _) _⟩
    · obtain ⟨x, rfl⟩ := Option.ne_none_iff_exists'.1 hnn
      have hrw : ∀ i v, (alrl L)[i]? = some v → (w.alloc (.cells #[] 84)).cell? (x.add i) = some v := by
        intro i v hv
        have hil : i < (alrl L).length := (List.getElem?_eq_some_iff.1 hv).1
        rw [alrl_len] at hil
        obtain ⟨bb, off, e, _, hlt, hc⟩ := HR.out.at_ (by omega)
        cases e
        have h1 := alrl_at L (i / 3) (by omega) (i % 3) (Nat.mod_lt _ (by decide))
        rw [show i / 3 * 3 + i % 3 = i by omega, hv] at h1
        have h2 := hc (i / 3) (by omega) (i % 3) v h1.symm
        rw [Addr.add_mid]
        rw [show off + i / 3 * 3 + i % 3 = off + i by omega] at h2
        have hbl : Below w.heap.size w (w.alloc (.cells #[] 84)) := (Below.refl _ _).alloc (Nat.le_refl _) _
        exact (hbl.cell (p := ⟨bb, off + i, none⟩) hlt).trans h2
      go_wp2_with (at_builtin; refine wpList_append_own _ rfl _ _ 79 rfl w.heap.size 84 i0 (.agg #[.int .u8 0, .int .i64 0, .int .u8 0]) 3 24 Try.underlying79 hi hz0 hz1 hz2 rfl (by decide) _ _ _ rfl (World.ownsRow_made _ #[] 0 ?c0 (by decide) rfl) x m cap (alrl L) rfl ?c1 ?c2 ?c6 ?c3 ?c4 ?c5 ?_)
      case c0 => exact Nat.le_refl _
      case c1 => rw [alrl_len, HL.out]
      case c2 => exact hrw
      case c6 =>
        intro v hv
        obtain ⟨r, hr, hv⟩ := List.mem_flatMap.1 hv
        exact r.one v hv
      case c3 => unfold maxLen; omega
      case c4 => omega
      case c5 => simp
      intro v' w2 hown hgrow hnil
      have hb2 : Below w.heap.size w w2 := ((Below.refl _ _).alloc (Nat.le_refl _) _).grown hgrow (by simp) (fun k hk => by simp [Value.ownBlock] at hk; omega)
      obtain ⟨y, c, rfl⟩ : ∃ y c, v' = .slice y m c := by
        obtain ⟨h1, h2 | ⟨g, cp, cur, hv, _⟩⟩ := hown
        · exact absurd h2.1 hnil
        · exact ⟨_, _, hv⟩
      have HRW := Lib.hid (als_own hown HL.out)
      have HB2 := Lib.hid hb2
      clear hown hgrow hnil hb2 hrw
      go_wp2
      go_meet
      case rel => exact ⟨_, _, rfl, HRW.out, HB2.out⟩
  case rest =>
    obtain ⟨x, c, rfl, hrw, hB⟩ := hcut
    obtain ⟨wd, hwd⟩ : ∃ wd, wd = wc := ⟨_, rfl⟩
    rw [← hwd] at hrw hB ⊢
    have HRW := Lib.hid hrw
    have HBD := Lib.hid hB
    have hle := hrw.le
    have htop := hrw.top
    have hlm := HL.out
    unfold maxLen at htop
    rw [hlm] at hle
    obtain ⟨n, hn⟩ : ∃ n, n = wd.heap.size := ⟨_, rfl⟩
    rw [← hn] at HRW
    have HN2 := Lib.hid hn
    have hwn : w.heap.size ≤ n := by rw [hn]; exact HBD.out.size
    clear hwd hrw hB hn hmn HR HN hlm
    go_wp2_with fail
    go_loopw [4, 16] (fun u v wr => ∃ (k : Nat), k ≤ m ∧ v = .int .i64 (k : Nat) ∧ wr.ownsRow n 87 3 u k (alrl (L.take k)) ∧ AlS w.heap.size n wr x c L ∧ n ≤ wr.heap.size ∧ Below w.heap.size w wr) (fun _ v _ => m - (intOf v).toNat)
    case atStart => exact ⟨0, Nat.zero_le _, rfl, ⟨rfl, .inl ⟨rfl, rfl⟩⟩, HRW.out, Nat.le_of_eq HN2.out, HBD.out⟩
    case round =>
      clear HRW HBD HN2
      obtain ⟨k, hk, rfl, hown, hrw, hnw, hB⟩ := hrel
      have HO := Lib.hid hown
      have HRW := Lib.hid hrw
      have HB := Lib.hid hB
      have HNW := Lib.hid hnw
      clear hown hrw hB hnw
      by_cases hlt : k < m
      · have hkl : k < L.length := by have := HL.out; omega
        obtain ⟨bb, off, rfl, hlo, hbn, hc⟩ := HRW.out.at_ (by omega)
        have htk := alrl_take L hkl
        have hrg := hc k hkl
        obtain ⟨r, hr⟩ : ∃ r, r = L.getD k al0 := ⟨_, rfl⟩
        rw [← hr] at htk hrg
        have hrange : wr.rangeAt bb (off + k * 3) (Al.cs r) := hrg
        have HRG := Lib.hid hrange
        have HTK := Lib.hid htk
        have hal := (Below.refl wr.heap.size wr).alloc (Nat.le_refl _) (.cells #[.int .u8 (r.l : Nat), .int .i64 r.u, .int .u8 (r.e : Nat)] 84)
        have h6 := heap_alloc_new wr (.cells #[.int .u8 (r.l : Nat), .int .i64 r.u, .int .u8 (r.e : Nat)] 84)
        obtain ⟨we, hwe⟩ : ∃ we, wr.alloc (.cells #[.int .u8 (r.l : Nat), .int .i64 r.u, .int .u8 (r.e : Nat)] 84) = we := ⟨_, rfl⟩
        rw [hwe] at hal h6
        have HO2 := Lib.hid (own_keepA HO.out hal)
        have HRW2 := Lib.hid (HRW.out.below hal HNW.out)
        have HB2 := Lib.hid (HB.out.trans (hal.mono HB.out.size))
        have hnw2 := Nat.le_trans HNW.out hal.size
        have HNW2 := Lib.hid hnw2
        clear hr hrange htk hc hrg hal HO HRW HB HNW hnw2
        have hrl := HRG.out
        go_upto_region 6 with (first | ((with_reducible show wpList _ _ _ (_ :: _) _ _); refine wpList_load_mid rfl 84 _ rfl _ (off + k * 3) rfl (Al.cs r) _ hrl Try.underlying84 rfl size_al ?_; rw [show (Al.cs r).toArray = #[.int .u8 (r.l : Nat), .int .i64 r.u, .int .u8 (r.e : Nat)] from rfl]; (try go_simp)) | (((with_reducible show wpList _ _ _ (_ :: _) _ _); refine wpList_store_row rfl 84 _ _ rfl _ _ rfl rfl _ _ (heap_alloc_new _ _) (by exact size_al) (by rfl) (by simp [Value.oneCell']) ?_; rw [World.setRow_alloc_new]); rw [hwe]))
        clear hrl hwe HRG
        obtain ⟨g6, hg6⟩ : ∃ g, g = wr.heap.size := ⟨_, rfl⟩
        rw [← hg6] at h6 ⊢
        clear hg6
        obtain ⟨ua, uc, hu4⟩ := own_formA HO2.out
        subst hu4
        have hBs := HB2.out.size
        go_wp2_with (first | (refine wpList_load_row rfl 84 _ rfl _ rfl _ _ _ _ h6 Try.underlying84 rfl (by exact size_al) ?_; (try go_simp)) | (at_builtin; refine wpList_append_own _ rfl _ _ 80 rfl n 87 i1 (.agg #[.int .u8 0, .int .i64 0, .int .u8 0]) 3 24 Try.underlying80 hj hy0 hy1 hy2 rfl (by decide) _ _ _ rfl (HO2.out.alloc _) ⟨we.heap.size, 0, none⟩ 1 1 [.int .u8 (r.l : Nat), .int .i64 r.u, .int .u8 (r.e : Nat)] rfl rfl (lit_cellsA _ _ _) (by simp [Value.oneCell']) (by unfold maxLen; omega) (by omega) (by have := HNW2.out; simp; omega) ?_))
        intro v' w4 hown4 hgrow4 _
        have hb4 : Below n we w4 := ((Below.refl n we).alloc HNW2.out _).grown hgrow4 (by have := HNW2.out; simp; omega) (fun j hj => (HO2.out.lt j hj).1)
        rw [show [Value.int .u8 (r.l : Nat), .int .i64 r.u, .int .u8 (r.e : Nat)] = r.cs from rfl, ← HTK.out] at hown4
        have HO3 := Lib.hid hown4
        have HRW3 := Lib.hid (HRW2.out.below hb4 (Nat.le_refl _))
        have HB3 := Lib.hid (HB2.out.trans (hb4.mono hwn))
        have HNW3 := Lib.hid (Nat.le_trans HNW2.out hb4.size)
        clear hown4 hgrow4 hb4 h6 HO2 HRW2 HB2 HNW2 HTK
        go_wp2_with fail
        go_roundw
        case rel => exact ⟨k + 1, by omega, by go_num, HO3.out, HRW3.out, HNW3.out, HB3.out⟩
        case measure => simp [intOf]; omega
      · obtain rfl : k = m := by omega
        have hLk : L.take k = L := List.take_of_length_le (by have := HL.out; omega)
        have ho := HO.out
        rw [hLk] at ho
        obtain ⟨ua, uc, hu4⟩ := own_formA ho
        subst hu4
        have hy := als_own ho HL.out
        have hx := HRW.out
        have HX := Lib.hid (show AlS w.heap.size wr.heap.size wr x c L from ⟨hx.le, hx.top, fun h => by
          obtain ⟨bb, off, e, hlo, hbn, hc⟩ := hx.at_ h
          exact ⟨bb, off, e, hlo, Nat.lt_of_lt_of_le hbn HNW.out, hc⟩⟩)
        have HY := Lib.hid (show AlS w.heap.size wr.heap.size wr ua uc L from ⟨hy.le, hy.top, fun h => by
          obtain ⟨bb, off, e, hlo, hbn, hc⟩ := hy.at_ h
          exact ⟨bb, off, e, Nat.le_trans hwn hlo, hbn, hc⟩⟩)
        clear ho hLk hy hx HO HRW
        go_wp2_with fail
        go_ret2
        exact ⟨_, _, _, _, rfl, HX.out, HY.out, HB.out⟩
end Go.Proofs.Ytinaimacocgemaa
