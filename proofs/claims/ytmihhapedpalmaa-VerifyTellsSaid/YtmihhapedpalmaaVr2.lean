/- Layer 12: the law's table of some rows. -/
import Derived.Test.YtmihhapedpalmaaVr
import Derived.Test.YtmihhapedpalmaaOwn
import Derived.Deep.MidRow
import Derived.Deep.CutBlock
import Derived.Deep.DeepCutAuto
namespace Go.Proofs.Ytmihhapedpalmaa
open Go.RowKit Go.Own Go.Maps
set_option linter.unusedVariables false
set_option linter.unusedSimpArgs false
theorem min_litV {P : Program} (ats : Array TypeId) (ty : TypeId) (k : IntKind) (a b : Int) (w : World) : (Builtin.min_ ats ty #[.int k a, .int k b]).run P w = .ok (.int k (min a b)) w := by
  have e2 : (Builtin.min2 (.int k a) (.int k b)).run P w = .ok (.int k (min a b)) w := by
    unfold Builtin.min2
    by_cases h : b < a
    · have e : min a b = b := by omega
      simp [e, h]
    · have e : min a b = a := by omega
      simp [e, h]
  simp [Builtin.min_, e2]
theorem info_row12 : (Try.prog.info? 84).map (fun i => (i.zero, i.size, i.bytes)) = some (some (.agg #[.int .u8 0, .int .u8 0, .int .i64 0, .int .i64 0]), 4, 24) := by kernel_rfl
theorem size_row12 : (Try.prog.info? 84).map (·.size) = some 4 := by kernel_rfl
theorem zero_row12 (w : World) : (zeroValue 84).run Try.prog w = .ok (.agg #[.int .u8 0, .int .u8 0, .int .i64 0, .int .i64 0]) w := by kernel_rfl
set_option maxRecDepth 100000 in
set_option maxHeartbeats 4000000 in
theorem table_any (a : Option Addr) (len cap m : Nat) (L : List Rw) (w : World) (hm : m = min len 12) (hlc : len ≤ cap) (hn : a = none → cap = 0) (hL : L.length = m) (hok : RwOk L) (hr : RwS 0 w.heap.size w a cap L) :
    Calls Try.prog 27 #[.slice a len cap] w fun e w' => ∃ (b n : Nat) (D : DataW Nat) (x : Option Addr) (c : Nat), e = .returned (.tuple #[.map (some b), .slice x m c]) ∧ Tab w' b n (tabL L) D ∧ RwS 0 w'.heap.size w' x c L ∧ Below w.heap.size w w' := by
  obtain ⟨i0, hi, hz0, hz1, hz2⟩ := info_parts info_row12
  have hmm := @run_makeMap Try.prog
  have hzr := zero_row12
  have hcap := hr.top
  unfold maxLen at hcap
  have hmn := fun (w : World) => min_litV (P := Try.prog) #[3, 3] 3 .i64 (len : Int) 12 w
  rw [show min (len : Int) 12 = (m : Int) by omega] at hmn
  have hm12 : m ≤ 12 := by omega
  have hml : m ≤ len := by omega
  have HM := Lib.hid hm
  have HR := Lib.hid hr
  have HL := Lib.hid hL
  have HOK := Lib.hid hok
  have HN := Lib.hid hn
  have ht0 := tab_made w
  have hal := (Below.refl w.heap.size w).alloc (Nat.le_refl _) (.map #[] 0)
  clear hm hr hL hok hn
  go_enter Try.func27, Try.ntmps27
  go_upto_region 2 with fail
  obtain ⟨b, hb⟩ : ∃ b, b = w.heap.size := ⟨_, rfl⟩
  obtain ⟨w1, hw1⟩ : ∃ w1, w1 = w.alloc (.map #[] 0) := ⟨_, rfl⟩
  have hs1 : b < w1.heap.size := by rw [hw1, hb]; simp
  rw [← hw1] at ht0 hal ⊢
  rw [← hb] at ht0 ⊢
  have HT := Lib.hid ht0
  have HA := Lib.hid hal
  have HBE := Lib.hid hb
  clear hw1 hb ht0 hal
  go_cut [0] (fun v wx => ∃ (x : Option Addr) (c : Nat), v = .slice x m c ∧ RwS w1.heap.size wx.heap.size wx x c L ∧ Below w1.heap.size w1 wx)
  case first =>
    by_cases hnn : a = none
    · have hc0 := HN.out hnn
      subst hnn
      obtain rfl : cap = 0 := hc0
      obtain rfl : len = 0 := by omega
      obtain rfl : m = 0 := by omega
      clear hmn
      have hmn := fun (w : World) => min_litV (P := Try.prog) #[3, 3] 3 .i64 (0 : Int) 12 w
      rw [show min (0 : Int) 12 = 0 by decide] at hmn
      go_wp2
      go_meet
      case rel => exact ⟨_, 0, rfl, ⟨by have := HL.out; omega, Nat.zero_le _, fun h => by have := HL.out; omega⟩, (Below.refl _ _).alloc (Nat.le_refl _) _⟩
    · obtain ⟨x, rfl⟩ := Option.ne_none_iff_exists'.1 hnn
      have hrw : ∀ i v, (rwl L)[i]? = some v → (w1.alloc (.cells #[] 84)).cell? (x.add i) = some v := by
        intro i v hv
        have hil : i < (rwl L).length := (List.getElem?_eq_some_iff.1 hv).1
        rw [rwl_len] at hil
        obtain ⟨bb, off, e, _, hlt, hc⟩ := HR.out.at_ (by omega)
        cases e
        have h1 := rwl_at L (i / 4) (by omega) (i % 4) (Nat.mod_lt _ (by decide))
        rw [show i / 4 * 4 + i % 4 = i by omega, hv] at h1
        have h2 := hc (i / 4) (by omega) (i % 4) v h1.symm
        rw [Addr.add_mid]
        rw [show off + i / 4 * 4 + i % 4 = off + i by omega] at h2
        have hbl : Below w.heap.size w (w1.alloc (.cells #[] 84)) := HA.out.alloc HA.out.size _
        exact (hbl.cell (p := ⟨bb, off + i, none⟩) hlt).trans h2
      go_wp2_with (at_builtin; refine wpList_append_own _ rfl _ _ 57 rfl w1.heap.size 84 i0 (.agg #[.int .u8 0, .int .u8 0, .int .i64 0, .int .i64 0]) 4 24 Try.underlying57 hi hz0 hz1 hz2 rfl (by decide) _ _ _ rfl (World.ownsRow_made _ #[] 0 ?c0 (by decide) rfl) x m cap (rwl L) rfl ?c1 ?c2 ?c6 ?c3 ?c4 ?c5 ?_)
      case c0 => exact Nat.le_refl _
      case c1 => rw [rwl_len, HL.out]
      case c2 => exact hrw
      case c6 => 
        intro v hv
        obtain ⟨r, hr, hv⟩ := List.mem_flatMap.1 hv
        simp [Rw.cs] at hv
        rcases hv with rfl | rfl | rfl | rfl <;> rfl
      case c3 => unfold maxLen; omega
      case c4 => omega
      case c5 => simp
      intro v' w2 hown hgrow hnil
      have hb2 : Below w1.heap.size w1 w2 := ((Below.refl _ _).alloc (Nat.le_refl _) _).grown hgrow (by simp) (fun k hk => by simp [Value.ownBlock] at hk; omega)
      obtain ⟨y, c, rfl⟩ : ∃ y c, v' = .slice y m c := by
        obtain ⟨h1, h2 | ⟨g, cp, cur, hv, _⟩⟩ := hown
        · exact absurd h2.1 hnil
        · exact ⟨_, _, hv⟩
      have HRW := Lib.hid (rws_own hown HL.out)
      have HB2 := Lib.hid hb2
      clear hown hgrow hnil hb2 hrw
      go_wp2
      go_meet
      case rel => exact ⟨_, _, rfl, HRW.out, HB2.out⟩
  case rest =>
    obtain ⟨x, c, rfl, hrw, hB⟩ := hcut
    obtain ⟨wd, hwd⟩ : ∃ wd, wd = wc := ⟨_, rfl⟩
    rw [← hwd] at hrw hB ⊢
    have HRW := Lib.hid hrw
    have HBD := Lib.hid (HA.out.trans (hB.mono HA.out.size))
    have HTD := Lib.hid (HT.out.below hB)
    have hle := hrw.le
    have htop := hrw.top
    have hlm := HL.out
    unfold maxLen at htop
    rw [hlm] at hle
    obtain ⟨n, hn⟩ : ∃ n, n = wd.heap.size := ⟨_, rfl⟩
    rw [← hn] at HRW
    have HN2 := Lib.hid hn
    clear hwd hrw hB hn hmn HT HR HN hlm
    go_wp2_with fail
    go_loopw [17] (fun v wr => ∃ (k : Nat) (D : DataW Nat), k ≤ m ∧ v = .int .i64 (k : Nat) ∧ Tab wr b k (tabL (L.take k)) D ∧ RwS w1.heap.size n wr x c L ∧ n ≤ wr.heap.size ∧ Below w.heap.size w wr) (fun v _ => m - (intOf v).toNat)
    case atStart => exact ⟨0, _, Nat.zero_le _, rfl, HTD.out, HRW.out, Nat.le_of_eq HN2.out, HBD.out⟩
    case round =>
      clear HTD HRW HBD HN2
      obtain ⟨k, D, hk, rfl, ht, hrw, hnw, hB⟩ := hrel
      have HT := Lib.hid ht
      have HRW := Lib.hid hrw
      have HB := Lib.hid hB
      have HNW := Lib.hid hnw
      clear ht hrw hB hnw
      by_cases hlt : k < m
      · have hkl : k < L.length := by have := HL.out; omega
        obtain ⟨bb, off, rfl, hlo, hbn, hc⟩ := HRW.out.at_ (by omega)
        obtain ⟨hs, hu⟩ := HOK.out.at hkl
        have htk : L.take (k + 1) = L.take k ++ [L.getD k rw0] := by
          rw [List.take_add_one, List.getElem?_eq_getElem hkl]
          simp [List.getD, hkl]
        have hrg := hc k hkl
        obtain ⟨r, hr⟩ : ∃ r, r = L.getD k rw0 := ⟨_, rfl⟩
        rw [← hr] at hs hu htk hrg
        have hrange : wr.rangeAt bb (off + k * 4) (Rw.cs r) := hrg
        have HRG := Lib.hid hrange
        have HTK := Lib.hid htk
        have hal := (Below.refl wr.heap.size wr).alloc (Nat.le_refl _) (.cells #[.int .u8 (r.s : Nat), .int .u8 (r.u : Nat), .int .i64 r.p, .int .i64 r.q] 84)
        have h6 := heap_alloc_new wr (.cells #[.int .u8 (r.s : Nat), .int .u8 (r.u : Nat), .int .i64 r.p, .int .i64 r.q] 84)
        obtain ⟨we, hwe⟩ : ∃ we, wr.alloc (.cells #[.int .u8 (r.s : Nat), .int .u8 (r.u : Nat), .int .i64 r.p, .int .i64 r.q] 84) = we := ⟨_, rfl⟩
        rw [hwe] at hal h6
        have HT2 := Lib.hid (HT.out.below hal)
        have HRW2 := Lib.hid (HRW.out.below hal HNW.out)
        have HB2 := Lib.hid (HB.out.trans (hal.mono HB.out.size))
        have hnw2 := Nat.le_trans HNW.out hal.size
        have HNW2 := Lib.hid hnw2
        clear hr hrange htk hc hrg hal HT HRW HB HNW hnw2
        have hrl := HRG.out
        go_upto_region 6 with (first | ((with_reducible show wpList _ _ _ (_ :: _) _ _); refine wpList_load_mid rfl 84 _ rfl _ (off + k * 4) rfl (Rw.cs r) _ hrl Try.underlying84 rfl size_row12 ?_; rw [show (Rw.cs r).toArray = #[.int .u8 (r.s : Nat), .int .u8 (r.u : Nat), .int .i64 r.p, .int .i64 r.q] from rfl]; (try go_simp)) | ((with_reducible show wpList _ _ _ (_ :: _) _ _); refine wpList_store_row rfl 84 _ _ rfl _ _ rfl rfl _ _ (heap_alloc_new _ _) (by exact size_row12) (by rfl) (by simp [Value.oneCell']) ?_; rw [World.setRow_alloc_new, hwe]))
        clear hrl hwe HRG
        obtain ⟨g6, hg6⟩ : ∃ g, g = wr.heap.size := ⟨_, rfl⟩
        rw [← hg6] at h6 ⊢
        clear hg6
        have c0 := cell_of_row _ g6 0 _ _ _ h6
        have c1 := cell_of_row _ g6 1 _ _ _ h6
        have c2 := cell_of_row _ g6 2 _ _ _ h6
        have c3 := cell_of_row _ g6 3 _ _ _ h6
        have hkey := kl_of hs hu
        have hkm : k < maxLen := by unfold maxLen; omega
        go_wp2_with (at_mapUpdate; refine wpList_mapUpdate_own _ rfl _ _ _ 60 rfl _ _ kind_keyed Try.underlying60 formR b k D rfl HT2.out.own hkm _ _ _ rfl rfl hkey (formD r.p r.q) [] (formR_mk r.p r.q) ?_; intro wu hown hgr)
        have ht2 := HT2.out.put hs hu (r.p, r.q) hown
        rw [← tabL_snoc, ← HTK.out] at ht2
        have hB3 := HB2.out.grown hgr HB2.out.size (fun j hj => by cases hj; have := HBE.out; omega)
        have hrw3 := HRW2.out.kept hgr HNW2.out hs1
        go_roundw
        case rel => exact ⟨k + 1, _, by omega, by go_num, ht2, hrw3, Nat.le_trans HNW2.out hgr.size, hB3⟩
        case measure => simp [intOf]; omega
      · obtain rfl : k = m := by omega
        have hLk : L.take k = L := List.take_of_length_le (by have := HL.out; omega)
        have ht := HT.out
        rw [hLk] at ht
        have HT3 := Lib.hid ht
        clear ht hLk
        go_wp2_with fail
        go_ret2
        exact ⟨b, k, D, _, _, rfl, HT3.out, ⟨HRW.out.le, HRW.out.top, fun h => by
          obtain ⟨bb, off, e, _, hbn, hc⟩ := HRW.out.at_ h
          exact ⟨bb, off, e, Nat.zero_le _, Nat.lt_of_lt_of_le hbn HNW.out, hc⟩⟩, HB.out⟩
end Go.Proofs.Ytmihhapedpalmaa
