/- QueuePlays. -/
import Derived.Test.YtioclbkgfbjpdaaQp
import Derived.Deep.QuietTactic
namespace Go.Proofs.Ytioclbkgfbjpdaa
open Go.RowKit Go.Own
set_option linter.unusedVariables false
set_option linter.unusedSimpArgs false
theorem zero_qact (w : World) : (zeroValue 45).run Try.prog w = .ok (.agg #[.int .u8 0, .int .u8 0, .int .u8 0, .int .u32 0, .slice none 0 0, .int .i64 0]) w := by kernel_rfl
theorem own_formR {w : World} {base n : Nat} {e : TypeId} {size : Nat} {v : Value} {xs : List Value} (h : w.ownsRow base e size v n xs) : ∃ a c, v = .slice a n c := by
  rcases h.2 with ⟨hv, hx⟩ | ⟨g, cap, cur, hv, _⟩
  · exact ⟨none, 0, by rw [hv, hx]⟩
  · exact ⟨_, _, hv⟩
theorem own_loQ {w : World} {base n c : Nat} {e : TypeId} {size : Nat} {a : Option Addr} {xs : List Value} (h : w.ownsRow base e size (.slice a n c) n xs) {y : Addr} (hy : a = some y) : base ≤ y.block ∨ n = 0 := by
  rcases h.2 with ⟨hv, hx⟩ | ⟨g, cap, cur, hv, hb, _⟩
  · exact .inr hx
  · injection hv with h1 h2 h3
    rw [hy] at h1
    injection h1 with h1
    subst h1
    exact .inl hb
theorem RdQ.kep3Q {w w' : World} {gx gq g b m k : Nat} {a : Option Addr} {L : List Rq} (h : RdQ w a L) (hk : Kep3 gq g b w w') (hl : L.length = m) (ha : ∀ y, a = some y → gx + 1 ≤ y.block ∨ k = 0) (h1 : gq < gx) (h2 : g < gx) (h3 : b < gx) (hmk : m ≤ k) : RdQ w' a L :=
  ⟨fun hp => by
    obtain ⟨bb, off, e, hb, hc⟩ := h.rd hp
    have := ha _ e
    have hge : gx + 1 ≤ bb := by
      rcases this with h5 | h5
      · exact h5
      · omega
    exact ⟨bb, off, e, Nat.lt_of_lt_of_le hb hk.size, fun j u hj => (World.cell?_of_block (a := ⟨bb, off + j, none⟩) (hk.block bb hb (by omega) (by omega) (by omega))).trans (hc j u hj)⟩, h.len⟩
set_option maxRecDepth 100000 in
set_option maxHeartbeats 8000000 in
theorem walk_QueuePlays (a0 : Int) (a1 : Option Addr) (len1 cap1 : Nat) (a2 a3 : Int) (w : World) (w0 : (Lit.int .u8 a0).wf = true) (w1 : IsFlat [.int .u8, .int .u8, .int .u8, .int .u32, .row .u8, .int .i64] w a1 len1 cap1) (w2 : (Lit.int .u8 a2).wf = true) (w3 : (Lit.int .u8 a3).wf = true) :
    Calls Try.prog 4 #[.int .u8 a0, .slice a1 len1 cap1, .int .u8 a2, .int .u8 a3] w fun e w' => e = .returned (.bool true) ∧ Below w.heap.size w w' := by
  obtain ⟨f, hf⟩ := qas_flat w1
  have HF := Lib.hid hf
  have hlen : len1 ≤ maxLen := Nat.le_trans w1.1 w1.2.1
  unfold maxLen at hlen
  obtain ⟨r0, r1⟩ := bounds_u8 w0
  obtain ⟨p0, p1⟩ := bounds_u8 w2
  obtain ⟨v0, v1⟩ := bounds_u8 w3
  obtain ⟨rm, rfl⟩ := Int.eq_ofNat_of_zero_le r0
  obtain ⟨p, rfl⟩ := Int.eq_ofNat_of_zero_le p0
  obtain ⟨v, rfl⟩ := Int.eq_ofNat_of_zero_le v0
  obtain ⟨q, hq⟩ : ∃ q, q = rm % 16 := ⟨_, rfl⟩
  have hqI : (rm : Int) % 16 = (q : Int) := by omega
  obtain ⟨n, hn⟩ : ∃ n, n = 1 + q := ⟨_, rfl⟩
  have hnI : 1 + (q : Int) = (n : Int) := by omega
  have hn1 : 1 ≤ n := by omega
  have hn16 : n ≤ 16 := by omega
  have hq16 : q < 16 := by omega
  have hp : p < 256 := by omega
  have hv : v < 256 := by omega
  clear w0 w1 w2 w3 hq hn hf r0 r1 p0 p1 v0 v1
  go_enter Try.func4, Try.ntmps4
  go_wp2_with fail
  go_at_call 17
  refine (awake11 _).mono ?_
  rintro e wa ⟨rfl, hba⟩
  have HBA := Lib.hid hba
  clear hba
  go_wp2_with fail
  go_at_call 18
  refine (qNew_ok n wa hn1 hn16).mono ?_
  rintro e wb ⟨gq, g, b, rfl, hq, l1, l2, l3, hbb⟩
  have hsa := HBA.out.size
  have HBB := Lib.hid (HBA.out.trans (hbb.mono hsa))
  have hw1 : w.heap.size ≤ gq := Nat.le_trans hsa l1
  have hw2 : w.heap.size ≤ g := Nat.le_trans hsa l2
  have hw3 : w.heap.size ≤ b := Nat.le_trans hsa l3
  have hg1 : gq < wb.heap.size := hq.hq
  have hg2 : g < wb.heap.size := hq.hg
  have hg3 : b < wb.heap.size := hq.hb
  have HQB := Lib.hid hq
  clear hbb hq HBA l1 l2 l3 hsa hqI hnI
  have hbx := (Below.refl wb.heap.size wb).alloc (Nat.le_refl _) (.cells #[.slice none 0 0, .int .i64 ((n : Nat) : Int), .int .i64 0, .int .u16 0] 41)
  have hhx := heap_alloc_new wb (.cells #[.slice none 0 0, .int .i64 ((n : Nat) : Int), .int .i64 0, .int .u16 0] 41)
  go_upto_region 6 with fail
  obtain ⟨w4, hw4⟩ : ∃ w4, w4 = wb.alloc (.cells #[.slice none 0 0, .int .i64 ((n : Nat) : Int), .int .i64 0, .int .u16 0] 41) := ⟨_, rfl⟩
  obtain ⟨gx, hgx⟩ : ∃ x, x = wb.heap.size := ⟨_, rfl⟩
  rw [← hw4] at hbx hhx ⊢
  rw [show (Value.pointer (some ⟨wb.heap.size, 0, none⟩)) = .pointer (some ⟨gx, 0, none⟩) by rw [hgx]]
  rw [← hgx] at hhx
  have HQ4 := Lib.hid ((HQB.out.below hbx (Nat.le_refl _)).raise (B' := gx + 1) (by omega))
  have HX4 := Lib.hid (show XQ w4 gx (gx + 1) n 0 0 (.slice none ([] : List Rq).length 0) [] from ⟨hhx, World.ownsRow_nil _ _ _ _, Nat.lt_succ_self _, fun r hr => by cases hr⟩)
  have HB4 := Lib.hid (HBB.out.trans (hbx.mono HBB.out.size))
  rw [← hgx] at hg1 hg2 hg3
  have hgw : w.heap.size ≤ gx := by omega
  clear hw4 hgx hbx hhx HQB HBB
  have hza := zero_qact
  go_wp2_with fail
  go_loopw [42] (fun v wr => ∃ (i : Nat) (L N : List Rq) (cnt d : Nat) (a' : Option Addr) (c' : Nat), i ≤ len1 ∧ v = .int .i64 (i : Nat) ∧ QuS wr (gx + 1) gq g b n cnt d L ∧ XQ wr gx (gx + 1) n cnt d (.slice a' N.length c') N ∧ AlkL L N ∧ Below w.heap.size w wr) (fun v _ => len1 - (intOf v).toNat)
  case atStart => exact ⟨0, [], [], 0, 0, none, 0, Nat.zero_le _, rfl, HQ4.out, HX4.out, AlkL.nil, HB4.out⟩
  case round =>
    clear HQ4 HX4 HB4
    obtain ⟨i, L, N, cnt, d, a', c', hi, rfl, hq, hx, hal, hbw⟩ := hrel
    have HQ := Lib.hid hq
    have HX := Lib.hid hx
    have HAL := Lib.hid hal
    have HBW := Lib.hid hbw
    have hle := hq.ring.le
    have hsx : gx + 1 ≤ wr.heap.size := box_lt hx.head
    clear hq hx hal hbw
    by_cases hlt : i < len1
    · obtain ⟨bb, off, rfl, hbn, hrg⟩ := HF.out.at_ (by omega)
      have hrg := hrg i hlt
      have hok := HF.out.ok i hlt
      obtain ⟨x, hxf⟩ : ∃ x, x = f i := ⟨_, rfl⟩
      rw [← hxf] at hrg hok
      have hrl : wr.rangeAt bb (off + i * 6) x.cs := fun j v hv => (HBW.out.cell (p := ⟨bb, off + i * 6 + j, none⟩) hbn).trans (hrg j v hv)
      obtain ⟨k, s, u, t, da, dn, dc, l, M⟩ := x
      have hk : k < 256 := hok.hk
      have hs : s < 256 := hok.hs
      have hu : u < 256 := hok.hu
      have ht : t < 4294967296 := hok.ht
      have hll : l.length = dn := hok.len
      have hby : bytes l := hok.by_
      have hrd : Rd w.heap.size w da dn dc (bv l) := hok.rd
      have HRD := Lib.hid hrd
      have HBY := Lib.hid hby
      have HLL := Lib.hid hll
      clear hxf hrg hbn hok hrd hby hll
      go_upto_region 11 with (first | ((with_reducible show wpList _ _ _ (_ :: _) _ _); refine wpList_load_mid rfl 45 _ rfl _ (off + i * 6) rfl (Qa.cs ⟨k, s, u, t, da, dn, dc, l, M⟩) _ hrl Try.underlying45 rfl size_qa ?_; rw [show (Qa.cs ⟨k, s, u, t, da, dn, dc, l, M⟩).toArray = #[.int .u8 ((k : Nat) : Int), .int .u8 ((s : Nat) : Int), .int .u8 ((u : Nat) : Int), .int .u32 ((t : Nat) : Int), .slice da dn dc, .int .i64 M] from rfl]; (try go_simp)) | ((with_reducible show wpList _ _ _ (_ :: _) _ _); refine wpList_store_row rfl 45 _ _ rfl _ _ rfl rfl _ _ (heap_alloc_new _ _) (by exact size_qa) (by rfl) (by simp [Value.oneCell']) ?_; rw [World.setRow_alloc_new]))
      have h14 := heap_alloc_new wr (.cells #[.int .u8 ((k : Nat) : Int), .int .u8 ((s : Nat) : Int), .int .u8 ((u : Nat) : Int), .int .u32 ((t : Nat) : Int), .slice da dn dc, .int .i64 M] 45)
      have hb5 := (Below.refl wr.heap.size wr).alloc (Nat.le_refl _) (.cells #[.int .u8 ((k : Nat) : Int), .int .u8 ((s : Nat) : Int), .int .u8 ((u : Nat) : Int), .int .u32 ((t : Nat) : Int), .slice da dn dc, .int .i64 M] 45)
      obtain ⟨w5, hw5⟩ : ∃ w5, w5 = wr.alloc (.cells #[.int .u8 ((k : Nat) : Int), .int .u8 ((s : Nat) : Int), .int .u8 ((u : Nat) : Int), .int .u32 ((t : Nat) : Int), .slice da dn dc, .int .i64 M] 45) := ⟨_, rfl⟩
      obtain ⟨g14, hg14⟩ : ∃ g, g = wr.heap.size := ⟨_, rfl⟩
      rw [← hw5] at h14 hb5 ⊢
      rw [show (Value.pointer (some ⟨wr.heap.size, 0, none⟩)) = .pointer (some ⟨g14, 0, none⟩) by rw [hg14]]
      rw [← hg14] at h14
      have HQ5 := Lib.hid (HQ.out.below hb5 (Nat.le_refl _))
      have HX5 := Lib.hid (HX.out.below hb5)
      have HB5 := Lib.hid (HBW.out.trans (hb5.mono HBW.out.size))
      have hs5 : g14 < w5.heap.size := box_lt h14
      have hx14 : gx < g14 := by omega
      have hgr : wr.heap.size ≤ g14 := by omega
      have HB0 := Lib.hid hb5
      clear hw5 hg14 hb5 hrl
      by_cases h60 : 60 ≤ i
      · have h60d : decide ((60 : Int) ≤ ((i : Nat) : Int)) = true := decide_eq_true (by omega)
        have h60i : (60 : Int) ≤ ((i : Nat) : Int) := by omega
        obtain ⟨wt, hwt⟩ : ∃ wt, wt = w5 := ⟨_, rfl⟩
        have HQt := Lib.hid (show QuS wt (gx + 1) gq g b n cnt d L by rw [hwt]; exact HQ5.out)
        have HXt := Lib.hid (show XQ wt gx (gx + 1) n cnt d (.slice a' N.length c') N by rw [hwt]; exact HX5.out)
        have HBt := Lib.hid (show Below w.heap.size w wt by rw [hwt]; exact HB5.out)
        have HALt := HAL
        rw [← hwt]
        clear hwt h14 hs5 hk hs hu ht HRD HBY HLL HQ5 HX5 HB5 HQ HX HBW HB0 HAL hx14 hgr
        simp only [Act.put]
        skip
        have hz11 := zero_11
        have hxt := HXt.out
        obtain ⟨ln, hln⟩ : ∃ ln, N.length = ln := ⟨_, rfl⟩
        rw [hln] at hxt
        have hl16 : ln ≤ 16 := by have h1 := HQt.out.ring.le.1; have h2 := HALt.out.1; omega
        have HN := Lib.hid hln
        have c0 : wt.cell? ⟨gx, 0, none⟩ = some (.slice a' ln c') := cell_of_row _ _ 0 _ _ _ hxt.head
        have HA := Lib.hid (show RdQ wt a' N from ⟨own_rdQ (show wt.ownsRow (gx + 1) 57 5 (.slice a' ln c') ln (ql N) by have := hxt.own; rw [hln] at this; exact this) hln, by omega⟩)
        have HOA := Lib.hid (show ∀ r ∈ N, RqOk wt 0 r from fun r hr => (hxt.data r hr).low)
        clear hxt hln HXt hza
        go_wp2_with fail
        go_loopw [17, 124] (fun kv iv wr => ∃ j : Nat, j ≤ ln ∧ iv = .int .i64 (j : Nat) ∧ kv = .int .i64 ((hasQ p v (N.take j) : Nat) : Int) ∧ Below wt.heap.size wt wr) (fun _ iv _ => ln - (intOf iv).toNat)
        case atStart => exact ⟨0, Nat.zero_le _, rfl, rfl, Below.refl _ _⟩
        case round =>
          obtain ⟨j, hj, rfl, rfl, hbw⟩ := hrel
          have HBj := Lib.hid hbw
          have hsz := hbw.size
          clear hbw
          by_cases hlt : j < ln
          · have hiL : j < N.length := by rw [HN.out]; exact hlt
            obtain ⟨ba, oa, rfl, _, ra⟩ := (HA.out.below HBj.out).at hiL
            have hsc := hasQ_succ p v N hiL
            have hax := HOA.out _ (getD_memQ N hiL)
            obtain ⟨x, hx⟩ : ∃ x, x = N.getD j rq0 := ⟨_, rfl⟩
            rw [← hx] at ra hsc hax
            clear hx
            obtain ⟨kk, hkk⟩ : ∃ kk, kk = hasQ p v (N.take j) := ⟨_, rfl⟩
            have hkl : kk ≤ 1000 := by rw [hkk]; exact Nat.le_trans (hasQ_le _ _ _) (by rw [List.length_take]; omega)
            rw [← hkk] at hsc ⊢
            clear hkk hiL
            obtain ⟨s, u, c, t, xa, xn, xc, xd⟩ := x
            have hs1 : s < 256 := hax.hs
            have hu1 : u < 256 := hax.hu
            have HSC := Lib.hid (show hasQ p v (N.take (j + 1)) = kk + (if s = p ∧ u = v then 1 else 0) from hsc)
            clear hax hsc
            have hb5 := (Below.refl wr.heap.size wr).alloc (Nat.le_refl _) (.cells #[.int .u8 ((s : Nat) : Int), .int .u8 ((u : Nat) : Int), .int .u16 ((c : Nat) : Int), .int .u32 ((t : Nat) : Int), .slice xa xn xc] 57)
            have hx5 := heap_alloc_new wr (.cells #[.int .u8 ((s : Nat) : Int), .int .u8 ((u : Nat) : Int), .int .u16 ((c : Nat) : Int), .int .u32 ((t : Nat) : Int), .slice xa xn xc] 57)
            go_upto_region 26 with (first | ((with_reducible show wpList _ _ _ (_ :: _) _ _); refine wpList_load_mid rfl 57 _ rfl _ (oa + j * 5) rfl (Rq.cs ⟨s, u, c, t, xa, xn, xc, xd⟩) _ ra Try.underlying57 rfl size_11 ?_; rw [show (Rq.cs ⟨s, u, c, t, xa, xn, xc, xd⟩).toArray = #[.int .u8 ((s : Nat) : Int), .int .u8 ((u : Nat) : Int), .int .u16 ((c : Nat) : Int), .int .u32 ((t : Nat) : Int), .slice xa xn xc] from rfl]; (try go_simp)) | ((with_reducible show wpList _ _ _ (_ :: _) _ _); refine wpList_store_row rfl 57 _ _ rfl _ _ rfl rfl _ _ (heap_alloc_new _ _) (by exact size_11) (by rfl) (by simp [Value.oneCell']) ?_; rw [World.setRow_alloc_new]))
            obtain ⟨w5, hw5⟩ : ∃ w5, w5 = wr.alloc (.cells #[.int .u8 ((s : Nat) : Int), .int .u8 ((u : Nat) : Int), .int .u16 ((c : Nat) : Int), .int .u32 ((t : Nat) : Int), .slice xa xn xc] 57) := ⟨_, rfl⟩
            obtain ⟨g6, hg6⟩ : ∃ g, g = wr.heap.size := ⟨_, rfl⟩
            rw [← hw5] at hb5 hx5 ⊢
            rw [show (Value.pointer (some ⟨wr.heap.size, 0, none⟩)) = .pointer (some ⟨g6, 0, none⟩) by rw [hg6]]
            rw [← hg6] at hx5
            have HB5 := Lib.hid (HBj.out.trans (hb5.mono hsz))
            have x0 : w5.cell? ⟨g6, 0, none⟩ = some (.int .u8 ((s : Nat) : Int)) := cell_of_row _ _ 0 _ _ _ hx5
            have x1 : w5.cell? ⟨g6, 1, none⟩ = some (.int .u8 ((u : Nat) : Int)) := cell_of_row _ _ 1 _ _ _ hx5
            clear hw5 hg6 hx5 hb5 ra hz11 c0
            simp only [Act.put]
            by_cases e1 : s = p
            · have f1 : ((s : Int) == (p : Int)) = true := by rw [beq_iff_eq]; omega
              by_cases e2 : u = v
              · have f2 : ((u : Int) == (v : Int)) = true := by rw [beq_iff_eq]; omega
                have HR := Lib.hid (show hasQ p v (N.take (j + 1)) = kk + 1 by rw [HSC.out, if_pos ⟨e1, e2⟩])
                clear e1 e2
                go_wp2_with fail
                go_roundw
                case rel => exact ⟨j + 1, by omega, by go_num, by rw [HR.out]; go_num, HB5.out⟩
                case measure => simp [intOf]; omega
              · have f2 : ((u : Int) == (v : Int)) = false := by rw [beq_eq_false_iff_ne]; omega
                have HR := Lib.hid (show hasQ p v (N.take (j + 1)) = kk by rw [HSC.out, if_neg (fun h => e2 h.2), Nat.add_zero])
                clear e1 e2
                go_wp2_with fail
                go_roundw
                case rel => exact ⟨j + 1, by omega, by go_num, by rw [HR.out], HB5.out⟩
                case measure => simp [intOf]; omega
            · have f1 : ((s : Int) == (p : Int)) = false := by rw [beq_eq_false_iff_ne]; omega
              have HR := Lib.hid (show hasQ p v (N.take (j + 1)) = kk by rw [HSC.out, if_neg (fun h => e1 h.1), Nat.add_zero])
              clear e1
              go_wp2_with fail
              go_roundw
              case rel => exact ⟨j + 1, by omega, by go_num, by rw [HR.out], HB5.out⟩
              case measure => simp [intOf]; omega
          · obtain rfl : j = ln := by omega
            have e : N.take j = N := List.take_of_length_le (by rw [HN.out]; exact Nat.le_refl _)
            rw [e]
            obtain ⟨hh, hhh⟩ : ∃ hh, hasQ p v N = hh := ⟨_, rfl⟩
            rw [hhh]
            have HH := Lib.hid hhh
            have HQr := Lib.hid (HQt.out.below HBj.out (Nat.le_refl _))
            have HBr := Lib.hid (HBt.out.trans (HBj.out.mono HBt.out.size))
            clear e hhh c0 HQt HBt
            go_wp2_with fail
            go_at_call 27
            refine (qAll HQr.out).mono ?_
            rintro e wx ⟨vx, Rs, rfl, hA⟩
            obtain ⟨h1, ⟨xa, xc, rfl, h2⟩, h3, h4⟩ := hA.rdq HQr.out.data (by have h1 := HQr.out.ring.le.1; omega)
            have hS := Has_any xa xc p v Rs hp hv h2 h3
            rw [h1, hasQ_alk p v (h4.trans HALt.out), HH.out] at hS
            have HS := Lib.hid hS
            have HBx := Lib.hid (HBr.out.trans (hA.be.mono HBr.out.size))
            clear hS hA h1 h2 h3 h4
            go_wp2_with fail
            go_at_call 28
            refine HS.out.mono ?_
            rintro e wy ⟨rfl, hb⟩
            have HBy := Lib.hid (HBx.out.trans (hb.mono HBx.out.size))
            have hee : (((hh : Nat) : Int) == ((hh : Nat) : Int)) = true := by simp
            clear hb HS
            go_wp2_with fail
            go_ret
            exact ⟨rfl, HBy.out⟩
      have h60d : decide ((60 : Int) ≤ ((i : Nat) : Int)) = false := decide_eq_false (by omega)
      have h60i : ¬ (60 : Int) ≤ ((i : Nat) : Int) := by omega
      have k4 : w5.cell? ⟨g14, 4, none⟩ = some (.slice da dn dc) := cell_of_row _ _ 4 _ _ _ h14
      simp only [Act.put]
      go_wp2_with fail
      go_at_call 19
      refine (Cut_any da dn dc l 230 w5 HLL.out (rd_grow HRD.out HB5.out) (by omega)).mono ?_
      rintro e w6 ⟨vv, rfl, hown, hb⟩
      obtain ⟨a9, c9, rfl⟩ := own_form hown
      obtain ⟨m, hm⟩ : ∃ m, m = min 230 dn := ⟨_, rfl⟩
      obtain ⟨l9, hl9⟩ : ∃ l9, l9 = l.take 230 := ⟨_, rfl⟩
      rw [← hm, ← hl9] at hown
      rw [← hm]
      have hl9l : l9.length = m := by rw [hl9, List.length_take, HLL.out, hm]
      have hl9b : bytes l9 := by rw [hl9]; exact fun x hx => HBY.out x (List.mem_of_mem_take hx)
      have hm230 : m ≤ 230 := by omega
      clear hm hl9
      have h14 := box_below h14 hb hs5
      have k4 : w6.cell? ⟨g14, 4, none⟩ = some (.slice da dn dc) := cell_of_row _ _ 4 _ _ _ h14
      have f4 : w6.frozen? ⟨g14, 4, none⟩ = false := frozen_of_row _ _ 4 _ _ h14
      have HOW := Lib.hid (own_lo (i := 4) (x := .slice a9 m c9) hown hs5)
      have h15 := heap_setCell_same _ g14 4 _ _ (.slice a9 m c9) h14
      have hbr := (HB0.out.trans (hb.mono HB0.out.size)).setCell (p := ⟨g14, 4, none⟩) hgr (.slice a9 m c9)
      go_upto_region 13 with fail
      obtain ⟨w7, hw7⟩ : ∃ w7, w7 = w6.setCell ⟨g14, 4, none⟩ (.slice a9 m c9) := ⟨_, rfl⟩
      rw [← hw7] at hbr h15 HOW ⊢
      have HQ7 := Lib.hid (HQ.out.below hbr (Nat.le_refl _))
      have HX7 := Lib.hid (HX.out.below hbr)
      have HB7 := Lib.hid (HBW.out.trans (hbr.mono HBW.out.size))
      have h15 : w7.heap[g14]? = some (.cells #[.int .u8 ((k : Nat) : Int), .int .u8 ((s : Nat) : Int), .int .u8 ((u : Nat) : Int), .int .u32 ((t : Nat) : Int), .slice a9 m c9, .int .i64 M] 45 (0, 0)) := h15
      have HL9 := Lib.hid hl9l
      have HY9 := Lib.hid hl9b
      have h59 : gx + 1 ≤ w5.heap.size := by omega
      have hs7 : gx + 1 ≤ w7.heap.size := by have := box_lt h15; omega
      clear hw7 hbr hown hb hl9l hl9b k4 f4 h14 HQ HX HBW HQ5 HX5 HB5 HB0 HRD HBY HLL h60 hgr
      have hLN := HAL.out.1
      obtain ⟨hl1, _, _, hl4, _⟩ := hle
      obtain ⟨r4, hr4⟩ : ∃ r, (k : Int) % 4 = r := ⟨_, rfl⟩
      by_cases hk3 : k % 4 = 3
      · --D
        obtain rfl : r4 = 3 := by omega
        obtain ⟨mm, hmm⟩ : ∃ mm, mm = min M.toNat N.length := ⟨_, rfl⟩
        have hmL : mm = min M.toNat L.length := by rw [hLN]; exact hmm
        have HML := Lib.hid hmL
        have hm16 : mm ≤ 16 := by omega
        have HLT := Lib.hid (show (L.take mm).length = mm by rw [List.length_take]; omega)
        have HMN := Lib.hid (show mm ≤ N.length by omega)
        have HNT := Lib.hid (show (N.take mm).length = mm by rw [List.length_take]; omega)
        go_wp2_with ((with_reducible show wpList _ _ _ (_ :: _) _ _); refine wpList_load_row rfl 45 _ rfl _ rfl _ _ _ _ h15 Try.underlying45 rfl (by exact size_qa) ?_; (try go_simp))
        go_at_call 20
        refine (Q_take k s u t a9 m c9 M mm HX7.out hk3 hmm (by omega) hk hs7).mono ?_
        rintro e w8 ⟨rfl, ⟨a2, c2, hx8⟩, hkx⟩
        have hq8 := HQ7.out.keptx hkx hg1 hg2 hg3
        have h16 := (hkx.block g14 (box_lt h15) (by omega) (by omega)).trans h15
        have rs8 : RdQ w8 a' (N.take mm) := RdQ.take ⟨own_rdQ (own_keepQ HX7.out.own (fun j hj hjs => hkx.block j hjs (by omega) (by omega))) rfl, by omega⟩ mm
        have ok8 : ∀ r ∈ N.take mm, RqOk w8 (gx + 1) r := fun r hr => (HX7.out.data r (List.mem_of_mem_take hr)).kep (Kep3.of_kept (gq := gx) hkx) (by omega) (by omega) (by omega)
        have k0 : w8.cell? ⟨g14, 0, none⟩ = some (.int .u8 ((k : Nat) : Int)) := cell_of_row _ _ 0 _ _ _ h16
        have k5 : w8.cell? ⟨g14, 5, none⟩ = some (.int .i64 M) := cell_of_row _ _ 5 _ _ _ h16
        have HQ8 := Lib.hid hq8
        have HX8 := Lib.hid hx8
        have HRS := Lib.hid rs8
        have HOS := Lib.hid (show ∀ y, a' = some y → gx + 1 ≤ y.block ∨ N.length = 0 from fun y hy => own_loQ HX7.out.own hy)
        have HOK := Lib.hid ok8
        have hs8 : gx + 1 ≤ w8.heap.size := box_lt hx8.head
        have HB8 := Lib.hid (HB7.out.trans (hkx.below (B := w.heap.size) hgw hgw HB7.out.size))
        clear hq8 hx8 rs8 ok8 hkx HQ7 HX7 h16 hk3 hmm hmL
        go_wp2_with fail
        go_at_call 22
        refine (qTake HQ8.out hs8 M mm HML.out).mono ?_
        rintro e w9 ⟨v9, rfl, hown, hq9, hk9⟩
        obtain ⟨av, cv, rfl⟩ := own_formR hown
        have hx9 := HX8.out.kep3 hk9 hg1 hg2 hg3
        have rv9 : RdQ w9 av (L.take mm) := ⟨own_rdQ hown HLT.out, by rw [HLT.out]; omega⟩
        have rs9 : RdQ w9 a' (N.take mm) := HRS.out.kep3Q hk9 HNT.out HOS.out hg1 hg2 hg3 HMN.out
        have okv : ∀ r ∈ L.take mm, RqOk w9 0 r := fun r hr => ((HQ8.out.data r (List.mem_of_mem_take hr)).kep hk9 HQ8.out.hq HQ8.out.hg HQ8.out.hb).low
        have oks : ∀ r ∈ N.take mm, RqOk w9 0 r := fun r hr => ((HOK.out r hr).kep hk9 HQ8.out.hq HQ8.out.hg HQ8.out.hb).low
        have hS := LSame av a' cv c' (L.take mm) (N.take mm) rv9 rs9 okv oks (HAL.out.take mm)
        rw [HLT.out, HNT.out] at hS
        have HS := Lib.hid hS
        obtain ⟨Lz, Nz, cz, dz, az, cc, hqz, hxz, halz⟩ : ∃ (Lz Nz : List Rq) (cz dz : Nat) (az : Option Addr) (cc : Nat), QuS w9 (gx + 1) gq g b n cz dz Lz ∧ XQ w9 gx (gx + 1) n cz dz (.slice az Nz.length cc) Nz ∧ AlkL Lz Nz := ⟨_, _, _, _, _, _, hq9, hx9, HAL.out.drop mm⟩
        have HQZ := Lib.hid hqz
        have HXZ := Lib.hid hxz
        have HAZ := Lib.hid halz
        have HBZ := Lib.hid (HB8.out.trans (hk9.below (B := w.heap.size) hw1 hw2 hw3 HB8.out.size))
        clear hS rv9 rs9 okv oks hx9 hown hq9 hk9 hqz hxz halz HQ8 HX8 HB8 HOK HRS HOS HLT HNT HAL HML k0 k5
        go_wp2_with fail
        go_at_call 21
        refine HS.out.mono ?_
        rintro e wz ⟨rfl, hbz⟩
        have HQz := Lib.hid (HQZ.out.below hbz (Nat.le_refl _))
        have HXz := Lib.hid (HXZ.out.below hbz)
        have HBz := Lib.hid (HBZ.out.trans (hbz.mono HBZ.out.size))
        clear hbz HQZ HXZ HBZ HS
        skip
        go_upto_region 19 with fail
        obtain ⟨ln, hln⟩ : ∃ ln, Nz.length = ln := ⟨_, rfl⟩
        have hxz := HXz.out
        rw [hln] at hxz
        have hl16 : ln ≤ 16 := by have h1 := HQz.out.ring.le.1; have h2 := HAZ.out.1; omega
        have HLn := Lib.hid (show Lz.length = ln by rw [HAZ.out.1, hln])
        have HNn := Lib.hid hln
        have hgz := box_lt hxz.head
        have c0 : wz.cell? ⟨gx, 0, none⟩ = some (.slice az ln cc) := cell_of_row _ _ 0 _ _ _ hxz.head
        have c2 : wz.cell? ⟨gx, 2, none⟩ = some (.int .i64 ((dz : Nat) : Int)) := cell_of_row _ _ 2 _ _ _ hxz.head
        have c3 : wz.cell? ⟨gx, 3, none⟩ = some (.int .u16 ((cz : Nat) : Int)) := cell_of_row _ _ 3 _ _ _ hxz.head
        have HRZ := Lib.hid (show RdQ wz az Nz from ⟨own_rdQ (show wz.ownsRow (gx + 1) 57 5 (.slice az ln cc) ln (ql Nz) by have := hxz.own; rw [hln] at this; exact this) hln, by omega⟩)
        have HXy := Lib.hid hxz
        clear hxz hln HXz
        obtain ⟨I, W, hne, hWI, hIW⟩ := Go.Mix.family (fun v => Below wz.heap.size wz v) (Below.refl _ _)
        have HJ := Lib.hid hIW
        have HW := Lib.hid hWI
        clear hWI hIW
        refine Go.Flo3.wp_region (fun w' => ∃ i, w' = W i) 36 [Go.Flo.Spec.is (.int .i64 ((ln : Nat) : Int)), Go.Flo.Spec.is (.int .i64 ((dz : Nat) : Int)), Go.Flo.Spec.is (.int .u16 ((cz : Nat) : Int)), SpAll ln Nz, Go.Flo.Spec.is (.bool true)] (by kernel_rfl) (by kernel_rfl) (by decide) (by rintro _ w' ⟨i, rfl⟩ hb; exact HJ.out _ ((HW.out i).trans (hb.mono (HW.out i).size))) (HJ.out _ (Below.refl _ _).drew) ?_
        simp only [Go.Flo.pair, Go.Mix.calm, List.take, List.drop, if_true, Bool.false_eq_true, if_false, Nat.reduceAdd, Nat.reduceSub]
        have e0 : ∀ i, (W i).cell? ⟨gx, 0, none⟩ = some (.slice az ln cc) := fun i => ((HW.out i).cell (p := ⟨gx, 0, none⟩) hgz).trans c0
        have e2 : ∀ i, (W i).cell? ⟨gx, 2, none⟩ = some (.int .i64 ((dz : Nat) : Int)) := fun i => ((HW.out i).cell (p := ⟨gx, 2, none⟩) hgz).trans c2
        have e3 : ∀ i, (W i).cell? ⟨gx, 3, none⟩ = some (.int .u16 ((cz : Nat) : Int)) := fun i => ((HW.out i).cell (p := ⟨gx, 3, none⟩) hgz).trans c3
        clear c0 c2 c3
        (repeat (first | (refine Go.Flo.fw_calm rfl ?_ (fun K hK => ?_); (first | exact Go.Mix.wanted_none rfl | exact Go.Mix.wanted_tt rfl rfl rfl | exact Go.Mix.wanted_ff rfl rfl rfl); go_big_quiet_op; refine hK _ ?_; clear hK K) | (refine Go.Flo.fw_skip ?_ (fun K hK => ?_); (first | exact Go.Mix.wanted_tf rfl rfl rfl | exact Go.Mix.wanted_ft rfl rfl rfl); go_simp; refine hK _ ?_; clear hK K) | (refine Go.Flo.fw_any rfl ?_ (fun K hK => ?_); (first | exact Go.Mix.wanted_none rfl | exact Go.Mix.wanted_tt rfl rfl rfl | exact Go.Mix.wanted_ff rfl rfl rfl); go_simp; (try (go_ints; try go_simp)); refine hK _ ?_; clear hK K)))
        refine Go.Flo.fw_loud rfl ?_ rfl (by simp) (fun wv hwv hav K hK => ?_) (fun v hv K hK => ?_)
        · (first | exact Go.Mix.wanted_none rfl | exact Go.Mix.wanted_tt rfl rfl rfl | exact Go.Mix.wanted_ff rfl rfl rfl)
        · obtain ⟨iv, rfl⟩ := hwv
          have hbv := HW.out iv
          (first | go_big_op | go_simp)
          go_at_call 24
          refine (qLen (HQz.out.below (HW.out iv) (Nat.le_refl _))).mono ?_
          rintro e w' ⟨rfl, rfl⟩
          rw [HLn.out]
          exact hK _ _ (Go.Flo.owes_is _ rfl (Below.refl _ _))
        obtain rfl := hv.is
        go_simp
        refine hK _ ?_
        clear hK K hv
        (repeat (first | (refine Go.Flo.fw_calm rfl ?_ (fun K hK => ?_); (first | exact Go.Mix.wanted_none rfl | exact Go.Mix.wanted_tt rfl rfl rfl | exact Go.Mix.wanted_ff rfl rfl rfl); go_big_quiet_op; refine hK _ ?_; clear hK K) | (refine Go.Flo.fw_skip ?_ (fun K hK => ?_); (first | exact Go.Mix.wanted_tf rfl rfl rfl | exact Go.Mix.wanted_ft rfl rfl rfl); go_simp; refine hK _ ?_; clear hK K) | (refine Go.Flo.fw_any rfl ?_ (fun K hK => ?_); (first | exact Go.Mix.wanted_none rfl | exact Go.Mix.wanted_tt rfl rfl rfl | exact Go.Mix.wanted_ff rfl rfl rfl); go_simp; (try (go_ints; try go_simp)); refine hK _ ?_; clear hK K)))
        refine Go.Flo.fw_loud rfl ?_ rfl (by simp) (fun wv hwv hav K hK => ?_) (fun v hv K hK => ?_)
        · (first | exact Go.Mix.wanted_none rfl | exact Go.Mix.wanted_tt rfl rfl rfl | exact Go.Mix.wanted_ff rfl rfl rfl)
        · obtain ⟨iv, rfl⟩ := hwv
          have hbv := HW.out iv
          (first | go_big_op | go_simp)
          go_at_call 25
          refine (qDropped (HQz.out.below (HW.out iv) (Nat.le_refl _))).mono ?_
          rintro e w' ⟨rfl, rfl⟩
          exact hK _ _ (Go.Flo.owes_is _ rfl (Below.refl _ _))
        obtain rfl := hv.is
        go_simp
        refine hK _ ?_
        clear hK K hv
        (repeat (first | (refine Go.Flo.fw_calm rfl ?_ (fun K hK => ?_); (first | exact Go.Mix.wanted_none rfl | exact Go.Mix.wanted_tt rfl rfl rfl | exact Go.Mix.wanted_ff rfl rfl rfl); go_big_quiet_op; refine hK _ ?_; clear hK K) | (refine Go.Flo.fw_skip ?_ (fun K hK => ?_); (first | exact Go.Mix.wanted_tf rfl rfl rfl | exact Go.Mix.wanted_ft rfl rfl rfl); go_simp; refine hK _ ?_; clear hK K) | (refine Go.Flo.fw_any rfl ?_ (fun K hK => ?_); (first | exact Go.Mix.wanted_none rfl | exact Go.Mix.wanted_tt rfl rfl rfl | exact Go.Mix.wanted_ff rfl rfl rfl); go_simp; (try (go_ints; try go_simp)); refine hK _ ?_; clear hK K)))
        refine Go.Flo.fw_loud rfl ?_ rfl (by simp) (fun wv hwv hav K hK => ?_) (fun v hv K hK => ?_)
        · (first | exact Go.Mix.wanted_none rfl | exact Go.Mix.wanted_tt rfl rfl rfl | exact Go.Mix.wanted_ff rfl rfl rfl)
        · obtain ⟨iv, rfl⟩ := hwv
          have hbv := HW.out iv
          (first | go_big_op | go_simp)
          go_at_call 26
          refine (qCount (HQz.out.below (HW.out iv) (Nat.le_refl _))).mono ?_
          rintro e w' ⟨rfl, rfl⟩
          exact hK _ _ (Go.Flo.owes_is _ rfl (Below.refl _ _))
        obtain rfl := hv.is
        go_simp
        refine hK _ ?_
        clear hK K hv
        (repeat (first | (refine Go.Flo.fw_calm rfl ?_ (fun K hK => ?_); (first | exact Go.Mix.wanted_none rfl | exact Go.Mix.wanted_tt rfl rfl rfl | exact Go.Mix.wanted_ff rfl rfl rfl); go_big_quiet_op; refine hK _ ?_; clear hK K) | (refine Go.Flo.fw_skip ?_ (fun K hK => ?_); (first | exact Go.Mix.wanted_tf rfl rfl rfl | exact Go.Mix.wanted_ft rfl rfl rfl); go_simp; refine hK _ ?_; clear hK K) | (refine Go.Flo.fw_any rfl ?_ (fun K hK => ?_); (first | exact Go.Mix.wanted_none rfl | exact Go.Mix.wanted_tt rfl rfl rfl | exact Go.Mix.wanted_ff rfl rfl rfl); go_simp; (try (go_ints; try go_simp)); refine hK _ ?_; clear hK K)))
        refine Go.Flo.fw_loud rfl ?_ rfl (by simp) (fun wv hwv hav K hK => ?_) (fun v hv K hK => ?_)
        · (first | exact Go.Mix.wanted_none rfl | exact Go.Mix.wanted_tt rfl rfl rfl | exact Go.Mix.wanted_ff rfl rfl rfl)
        · obtain ⟨iv, rfl⟩ := hwv
          have hbv := HW.out iv
          (first | go_big_op | go_simp)
          go_at_call 27
          refine (qAll (HQz.out.below (HW.out iv) (Nat.le_refl _))).mono ?_
          rintro e w' ⟨v, Rs, rfl, hA⟩
          obtain ⟨h1, ⟨xa, xc, rfl, h2⟩, h3, h4⟩ := hA.rdq (HQz.out.below (HW.out iv) (Nat.le_refl _)).data (by rw [HLn.out]; omega)
          rw [HLn.out] at h1 ⊢
          exact hK _ _ (owes_All rfl hA.be ⟨_, _, Rs, rfl, h1, h2, h3, h4.trans HAZ.out⟩)
        obtain ⟨xa, xc, rfl⟩ := ex_All hv
        go_simp
        refine hK _ ?_
        clear hK K hv
        (repeat (first | (refine Go.Flo.fw_calm rfl ?_ (fun K hK => ?_); (first | exact Go.Mix.wanted_none rfl | exact Go.Mix.wanted_tt rfl rfl rfl | exact Go.Mix.wanted_ff rfl rfl rfl); go_big_quiet_op; refine hK _ ?_; clear hK K) | (refine Go.Flo.fw_skip ?_ (fun K hK => ?_); (first | exact Go.Mix.wanted_tf rfl rfl rfl | exact Go.Mix.wanted_ft rfl rfl rfl); go_simp; refine hK _ ?_; clear hK K) | (refine Go.Flo.fw_any rfl ?_ (fun K hK => ?_); (first | exact Go.Mix.wanted_none rfl | exact Go.Mix.wanted_tt rfl rfl rfl | exact Go.Mix.wanted_ff rfl rfl rfl); go_simp; (try (go_ints; try go_simp)); refine hK _ ?_; clear hK K)))
        refine Go.Flo.fw_loud rfl ?_ rfl (by simp) (fun wv hwv hav K hK => ?_) (fun v hv K hK => ?_)
        · (first | exact Go.Mix.wanted_none rfl | exact Go.Mix.wanted_tt rfl rfl rfl | exact Go.Mix.wanted_ff rfl rfl rfl)
        · obtain ⟨iv, rfl⟩ := hwv
          have hbv := HW.out iv
          (first | go_big_op | go_simp)
          obtain ⟨ya, yc, Rs, hy, h1, h2, h3, h4⟩ := ((hav 110 (by decide +kernel)).1.1.1.1.2 rfl).1
          injection hy with hy1 hy2 hy3
          subst hy1 hy3
          have hS := LSame xa az xc cc Rs Nz h2 (HRZ.out.below (HW.out iv)) h3 (fun r hr => ((HXy.out.data r hr).below (HW.out iv) (Nat.le_refl _)).low) h4
          rw [h1, HNn.out] at hS
          go_at_call 21
          refine hS.mono ?_
          rintro e w' ⟨rfl, hb⟩
          exact hK _ _ (Go.Flo.owes_is _ rfl hb)
        obtain rfl := hv.is
        go_simp
        refine hK _ ?_
        clear hK K hv
        (repeat (first | (refine Go.Flo.fw_calm rfl ?_ (fun K hK => ?_); (first | exact Go.Mix.wanted_none rfl | exact Go.Mix.wanted_tt rfl rfl rfl | exact Go.Mix.wanted_ff rfl rfl rfl); go_big_quiet_op; refine hK _ ?_; clear hK K) | (refine Go.Flo.fw_skip ?_ (fun K hK => ?_); (first | exact Go.Mix.wanted_tf rfl rfl rfl | exact Go.Mix.wanted_ft rfl rfl rfl); go_simp; refine hK _ ?_; clear hK K) | (refine Go.Flo.fw_any rfl ?_ (fun K hK => ?_); (first | exact Go.Mix.wanted_none rfl | exact Go.Mix.wanted_tt rfl rfl rfl | exact Go.Mix.wanted_ff rfl rfl rfl); go_simp; (try (go_ints; try go_simp)); refine hK _ ?_; clear hK K)))
        refine Go.Flo.fw_nil ?_
        intro wy hwwy hfwy huwy
        obtain ⟨iend, hiend⟩ := hwwy
        have hbwy := HW.out iend
        rw [← hiend] at hbwy
        clear hiend iend huwy
        refine ⟨fun _ => True, trivial, ?_⟩
        refine Go.Mix.walk_nil ?_
        (try intro _)
        have HQy := Lib.hid (HQz.out.below hbwy (Nat.le_refl _))
        have HXv := Lib.hid (show XQ wy gx (gx + 1) n cz dz (.slice az Nz.length cc) Nz by rw [HNn.out]; exact HXy.out.below hbwy)
        have HBy := Lib.hid (HBz.out.trans (hbwy.mono HBz.out.size))
        clear hbwy HQz HXy HBz
        go_wp2_with fail
        go_roundw
        case rel => exact ⟨i + 1, Lz, Nz, cz, dz, az, cc, by omega, by go_num, HQy.out, HXv.out, HAZ.out, HBy.out⟩
        case measure => simp [intOf]; omega
      · --D
        have hr3 : (r4 == 3) = false := by rw [beq_eq_false_iff_ne]; omega
        have HR7 := Lib.hid (show Rd w7.heap.size w7 a9 m c9 (bv l9) from rd_of_own HOW.out (fun j hj => bl_at _ (by rw [HL9.out]; exact hj)))
        go_wp2_with ((with_reducible show wpList _ _ _ (_ :: _) _ _); refine wpList_load_row rfl 45 _ rfl _ rfl _ _ _ _ h15 Try.underlying45 rfl (by exact size_qa) ?_; (try go_simp))
        go_at_call 20
        by_cases hfull : N.length = n
        · refine (Q_full k s u t a9 m c9 M HX7.out hk3 hfull hn16 hl4 hk).mono ?_
          rintro e w8 ⟨rfl, hh8, hkx⟩
          have hx8 : XQ w8 gx (gx + 1) n cnt (min (d + 1) 65535) (.slice a' N.length c') N := ⟨hh8, own_keepQ HX7.out.own (fun j hj hjs => hkx.block j hjs (by omega) (by omega)), HX7.out.lt, fun r hr => (HX7.out.data r hr).kep (Kep3.of_kept (gq := gx) hkx) (by omega) (by omega) (by omega)⟩
          skip
          have hq8 := HQ7.out.keptx hkx hg1 hg2 hg3
          have h16 := (hkx.block g14 (box_lt h15) (by omega) (by omega)).trans h15
          have k0 : w8.cell? ⟨g14, 0, none⟩ = some (.int .u8 ((k : Nat) : Int)) := cell_of_row _ _ 0 _ _ _ h16
          have k1 : w8.cell? ⟨g14, 1, none⟩ = some (.int .u8 ((s : Nat) : Int)) := cell_of_row _ _ 1 _ _ _ h16
          have k2 : w8.cell? ⟨g14, 2, none⟩ = some (.int .u8 ((u : Nat) : Int)) := cell_of_row _ _ 2 _ _ _ h16
          have k3 : w8.cell? ⟨g14, 3, none⟩ = some (.int .u32 ((t : Nat) : Int)) := cell_of_row _ _ 3 _ _ _ h16
          have k4 : w8.cell? ⟨g14, 4, none⟩ = some (.slice a9 m c9) := cell_of_row _ _ 4 _ _ _ h16
          have HQ8 := Lib.hid hq8
          have HX8 := Lib.hid hx8
          have hs8 : gx + 1 ≤ w8.heap.size := box_lt hx8.head
          have HB8 := Lib.hid (HB7.out.trans (hkx.below (B := w.heap.size) hgw hgw HB7.out.size))
          have HR8 := Lib.hid (show Rd w8.heap.size w8 a9 m c9 (bv l9) from rd_of_own (own_keepQ HOW.out (fun j hj hjs => hkx.block j hjs (by omega) (by omega))) (fun j hj => bl_at _ (by rw [HL9.out]; exact hj)))
          clear hq8 hx8 hkx HQ7 HX7 h16 h15 HOW HR7
          go_wp2_with fail
          go_at_call 23
          refine (qPut_full HQ8.out hs8 (by omega) s u t hs hu ht a9 m c9 l9 HL9.out HY9.out HR8.out (by omega)).mono ?_
          rintro e wz ⟨rfl, hqy, hky⟩
          skip
          obtain ⟨Lz, Nz, cz, dz, az, cc, hqz, hxz, halz⟩ : ∃ (Lz Nz : List Rq) (cz dz : Nat) (az : Option Addr) (cc : Nat), QuS wz (gx + 1) gq g b n cz dz Lz ∧ XQ wz gx (gx + 1) n cz dz (.slice az Nz.length cc) Nz ∧ AlkL Lz Nz := ⟨_, _, _, _, _, _, hqy, HX8.out.kep3 hky hg1 hg2 hg3, HAL.out⟩
          have HQz := Lib.hid hqz
          have HXz := Lib.hid hxz
          have HAZ := Lib.hid halz
          have HBz := Lib.hid (HB8.out.trans (hky.below (B := w.heap.size) hw1 hw2 hw3 HB8.out.size))
          clear hqz hxz halz hqy hky HQ8 HX8 HB8 HAL k0 k1 k2 k3 k4 HR8
          skip
          go_upto_region 19 with fail
          obtain ⟨ln, hln⟩ : ∃ ln, Nz.length = ln := ⟨_, rfl⟩
          have hxz := HXz.out
          rw [hln] at hxz
          have hl16 : ln ≤ 16 := by have h1 := HQz.out.ring.le.1; have h2 := HAZ.out.1; omega
          have HLn := Lib.hid (show Lz.length = ln by rw [HAZ.out.1, hln])
          have HNn := Lib.hid hln
          have hgz := box_lt hxz.head
          have c0 : wz.cell? ⟨gx, 0, none⟩ = some (.slice az ln cc) := cell_of_row _ _ 0 _ _ _ hxz.head
          have c2 : wz.cell? ⟨gx, 2, none⟩ = some (.int .i64 ((dz : Nat) : Int)) := cell_of_row _ _ 2 _ _ _ hxz.head
          have c3 : wz.cell? ⟨gx, 3, none⟩ = some (.int .u16 ((cz : Nat) : Int)) := cell_of_row _ _ 3 _ _ _ hxz.head
          have HRZ := Lib.hid (show RdQ wz az Nz from ⟨own_rdQ (show wz.ownsRow (gx + 1) 57 5 (.slice az ln cc) ln (ql Nz) by have := hxz.own; rw [hln] at this; exact this) hln, by omega⟩)
          have HXy := Lib.hid hxz
          clear hxz hln HXz
          obtain ⟨I, W, hne, hWI, hIW⟩ := Go.Mix.family (fun v => Below wz.heap.size wz v) (Below.refl _ _)
          have HJ := Lib.hid hIW
          have HW := Lib.hid hWI
          clear hWI hIW
          refine Go.Flo3.wp_region (fun w' => ∃ i, w' = W i) 36 [Go.Flo.Spec.is (.int .i64 ((ln : Nat) : Int)), Go.Flo.Spec.is (.int .i64 ((dz : Nat) : Int)), Go.Flo.Spec.is (.int .u16 ((cz : Nat) : Int)), SpAll ln Nz, Go.Flo.Spec.is (.bool true)] (by kernel_rfl) (by kernel_rfl) (by decide) (by rintro _ w' ⟨i, rfl⟩ hb; exact HJ.out _ ((HW.out i).trans (hb.mono (HW.out i).size))) (HJ.out _ (Below.refl _ _).drew) ?_
          simp only [Go.Flo.pair, Go.Mix.calm, List.take, List.drop, if_true, Bool.false_eq_true, if_false, Nat.reduceAdd, Nat.reduceSub]
          have e0 : ∀ i, (W i).cell? ⟨gx, 0, none⟩ = some (.slice az ln cc) := fun i => ((HW.out i).cell (p := ⟨gx, 0, none⟩) hgz).trans c0
          have e2 : ∀ i, (W i).cell? ⟨gx, 2, none⟩ = some (.int .i64 ((dz : Nat) : Int)) := fun i => ((HW.out i).cell (p := ⟨gx, 2, none⟩) hgz).trans c2
          have e3 : ∀ i, (W i).cell? ⟨gx, 3, none⟩ = some (.int .u16 ((cz : Nat) : Int)) := fun i => ((HW.out i).cell (p := ⟨gx, 3, none⟩) hgz).trans c3
          clear c0 c2 c3
          (repeat (first | (refine Go.Flo.fw_calm rfl ?_ (fun K hK => ?_); (first | exact Go.Mix.wanted_none rfl | exact Go.Mix.wanted_tt rfl rfl rfl | exact Go.Mix.wanted_ff rfl rfl rfl); go_big_quiet_op; refine hK _ ?_; clear hK K) | (refine Go.Flo.fw_skip ?_ (fun K hK => ?_); (first | exact Go.Mix.wanted_tf rfl rfl rfl | exact Go.Mix.wanted_ft rfl rfl rfl); go_simp; refine hK _ ?_; clear hK K) | (refine Go.Flo.fw_any rfl ?_ (fun K hK => ?_); (first | exact Go.Mix.wanted_none rfl | exact Go.Mix.wanted_tt rfl rfl rfl | exact Go.Mix.wanted_ff rfl rfl rfl); go_simp; (try (go_ints; try go_simp)); refine hK _ ?_; clear hK K)))
          refine Go.Flo.fw_loud rfl ?_ rfl (by simp) (fun wv hwv hav K hK => ?_) (fun v hv K hK => ?_)
          · (first | exact Go.Mix.wanted_none rfl | exact Go.Mix.wanted_tt rfl rfl rfl | exact Go.Mix.wanted_ff rfl rfl rfl)
          · obtain ⟨iv, rfl⟩ := hwv
            have hbv := HW.out iv
            (first | go_big_op | go_simp)
            go_at_call 24
            refine (qLen (HQz.out.below (HW.out iv) (Nat.le_refl _))).mono ?_
            rintro e w' ⟨rfl, rfl⟩
            rw [HLn.out]
            exact hK _ _ (Go.Flo.owes_is _ rfl (Below.refl _ _))
          obtain rfl := hv.is
          go_simp
          refine hK _ ?_
          clear hK K hv
          (repeat (first | (refine Go.Flo.fw_calm rfl ?_ (fun K hK => ?_); (first | exact Go.Mix.wanted_none rfl | exact Go.Mix.wanted_tt rfl rfl rfl | exact Go.Mix.wanted_ff rfl rfl rfl); go_big_quiet_op; refine hK _ ?_; clear hK K) | (refine Go.Flo.fw_skip ?_ (fun K hK => ?_); (first | exact Go.Mix.wanted_tf rfl rfl rfl | exact Go.Mix.wanted_ft rfl rfl rfl); go_simp; refine hK _ ?_; clear hK K) | (refine Go.Flo.fw_any rfl ?_ (fun K hK => ?_); (first | exact Go.Mix.wanted_none rfl | exact Go.Mix.wanted_tt rfl rfl rfl | exact Go.Mix.wanted_ff rfl rfl rfl); go_simp; (try (go_ints; try go_simp)); refine hK _ ?_; clear hK K)))
          refine Go.Flo.fw_loud rfl ?_ rfl (by simp) (fun wv hwv hav K hK => ?_) (fun v hv K hK => ?_)
          · (first | exact Go.Mix.wanted_none rfl | exact Go.Mix.wanted_tt rfl rfl rfl | exact Go.Mix.wanted_ff rfl rfl rfl)
          · obtain ⟨iv, rfl⟩ := hwv
            have hbv := HW.out iv
            (first | go_big_op | go_simp)
            go_at_call 25
            refine (qDropped (HQz.out.below (HW.out iv) (Nat.le_refl _))).mono ?_
            rintro e w' ⟨rfl, rfl⟩
            exact hK _ _ (Go.Flo.owes_is _ rfl (Below.refl _ _))
          obtain rfl := hv.is
          go_simp
          refine hK _ ?_
          clear hK K hv
          (repeat (first | (refine Go.Flo.fw_calm rfl ?_ (fun K hK => ?_); (first | exact Go.Mix.wanted_none rfl | exact Go.Mix.wanted_tt rfl rfl rfl | exact Go.Mix.wanted_ff rfl rfl rfl); go_big_quiet_op; refine hK _ ?_; clear hK K) | (refine Go.Flo.fw_skip ?_ (fun K hK => ?_); (first | exact Go.Mix.wanted_tf rfl rfl rfl | exact Go.Mix.wanted_ft rfl rfl rfl); go_simp; refine hK _ ?_; clear hK K) | (refine Go.Flo.fw_any rfl ?_ (fun K hK => ?_); (first | exact Go.Mix.wanted_none rfl | exact Go.Mix.wanted_tt rfl rfl rfl | exact Go.Mix.wanted_ff rfl rfl rfl); go_simp; (try (go_ints; try go_simp)); refine hK _ ?_; clear hK K)))
          refine Go.Flo.fw_loud rfl ?_ rfl (by simp) (fun wv hwv hav K hK => ?_) (fun v hv K hK => ?_)
          · (first | exact Go.Mix.wanted_none rfl | exact Go.Mix.wanted_tt rfl rfl rfl | exact Go.Mix.wanted_ff rfl rfl rfl)
          · obtain ⟨iv, rfl⟩ := hwv
            have hbv := HW.out iv
            (first | go_big_op | go_simp)
            go_at_call 26
            refine (qCount (HQz.out.below (HW.out iv) (Nat.le_refl _))).mono ?_
            rintro e w' ⟨rfl, rfl⟩
            exact hK _ _ (Go.Flo.owes_is _ rfl (Below.refl _ _))
          obtain rfl := hv.is
          go_simp
          refine hK _ ?_
          clear hK K hv
          (repeat (first | (refine Go.Flo.fw_calm rfl ?_ (fun K hK => ?_); (first | exact Go.Mix.wanted_none rfl | exact Go.Mix.wanted_tt rfl rfl rfl | exact Go.Mix.wanted_ff rfl rfl rfl); go_big_quiet_op; refine hK _ ?_; clear hK K) | (refine Go.Flo.fw_skip ?_ (fun K hK => ?_); (first | exact Go.Mix.wanted_tf rfl rfl rfl | exact Go.Mix.wanted_ft rfl rfl rfl); go_simp; refine hK _ ?_; clear hK K) | (refine Go.Flo.fw_any rfl ?_ (fun K hK => ?_); (first | exact Go.Mix.wanted_none rfl | exact Go.Mix.wanted_tt rfl rfl rfl | exact Go.Mix.wanted_ff rfl rfl rfl); go_simp; (try (go_ints; try go_simp)); refine hK _ ?_; clear hK K)))
          refine Go.Flo.fw_loud rfl ?_ rfl (by simp) (fun wv hwv hav K hK => ?_) (fun v hv K hK => ?_)
          · (first | exact Go.Mix.wanted_none rfl | exact Go.Mix.wanted_tt rfl rfl rfl | exact Go.Mix.wanted_ff rfl rfl rfl)
          · obtain ⟨iv, rfl⟩ := hwv
            have hbv := HW.out iv
            (first | go_big_op | go_simp)
            go_at_call 27
            refine (qAll (HQz.out.below (HW.out iv) (Nat.le_refl _))).mono ?_
            rintro e w' ⟨v, Rs, rfl, hA⟩
            obtain ⟨h1, ⟨xa, xc, rfl, h2⟩, h3, h4⟩ := hA.rdq (HQz.out.below (HW.out iv) (Nat.le_refl _)).data (by rw [HLn.out]; omega)
            rw [HLn.out] at h1 ⊢
            exact hK _ _ (owes_All rfl hA.be ⟨_, _, Rs, rfl, h1, h2, h3, h4.trans HAZ.out⟩)
          obtain ⟨xa, xc, rfl⟩ := ex_All hv
          go_simp
          refine hK _ ?_
          clear hK K hv
          (repeat (first | (refine Go.Flo.fw_calm rfl ?_ (fun K hK => ?_); (first | exact Go.Mix.wanted_none rfl | exact Go.Mix.wanted_tt rfl rfl rfl | exact Go.Mix.wanted_ff rfl rfl rfl); go_big_quiet_op; refine hK _ ?_; clear hK K) | (refine Go.Flo.fw_skip ?_ (fun K hK => ?_); (first | exact Go.Mix.wanted_tf rfl rfl rfl | exact Go.Mix.wanted_ft rfl rfl rfl); go_simp; refine hK _ ?_; clear hK K) | (refine Go.Flo.fw_any rfl ?_ (fun K hK => ?_); (first | exact Go.Mix.wanted_none rfl | exact Go.Mix.wanted_tt rfl rfl rfl | exact Go.Mix.wanted_ff rfl rfl rfl); go_simp; (try (go_ints; try go_simp)); refine hK _ ?_; clear hK K)))
          refine Go.Flo.fw_loud rfl ?_ rfl (by simp) (fun wv hwv hav K hK => ?_) (fun v hv K hK => ?_)
          · (first | exact Go.Mix.wanted_none rfl | exact Go.Mix.wanted_tt rfl rfl rfl | exact Go.Mix.wanted_ff rfl rfl rfl)
          · obtain ⟨iv, rfl⟩ := hwv
            have hbv := HW.out iv
            (first | go_big_op | go_simp)
            obtain ⟨ya, yc, Rs, hy, h1, h2, h3, h4⟩ := ((hav 110 (by decide +kernel)).1.1.1.1.2 rfl).1
            injection hy with hy1 hy2 hy3
            subst hy1 hy3
            have hS := LSame xa az xc cc Rs Nz h2 (HRZ.out.below (HW.out iv)) h3 (fun r hr => ((HXy.out.data r hr).below (HW.out iv) (Nat.le_refl _)).low) h4
            rw [h1, HNn.out] at hS
            go_at_call 21
            refine hS.mono ?_
            rintro e w' ⟨rfl, hb⟩
            exact hK _ _ (Go.Flo.owes_is _ rfl hb)
          obtain rfl := hv.is
          go_simp
          refine hK _ ?_
          clear hK K hv
          (repeat (first | (refine Go.Flo.fw_calm rfl ?_ (fun K hK => ?_); (first | exact Go.Mix.wanted_none rfl | exact Go.Mix.wanted_tt rfl rfl rfl | exact Go.Mix.wanted_ff rfl rfl rfl); go_big_quiet_op; refine hK _ ?_; clear hK K) | (refine Go.Flo.fw_skip ?_ (fun K hK => ?_); (first | exact Go.Mix.wanted_tf rfl rfl rfl | exact Go.Mix.wanted_ft rfl rfl rfl); go_simp; refine hK _ ?_; clear hK K) | (refine Go.Flo.fw_any rfl ?_ (fun K hK => ?_); (first | exact Go.Mix.wanted_none rfl | exact Go.Mix.wanted_tt rfl rfl rfl | exact Go.Mix.wanted_ff rfl rfl rfl); go_simp; (try (go_ints; try go_simp)); refine hK _ ?_; clear hK K)))
          refine Go.Flo.fw_nil ?_
          intro wy hwwy hfwy huwy
          obtain ⟨iend, hiend⟩ := hwwy
          have hbwy := HW.out iend
          rw [← hiend] at hbwy
          clear hiend iend huwy
          refine ⟨fun _ => True, trivial, ?_⟩
          refine Go.Mix.walk_nil ?_
          (try intro _)
          have HQy := Lib.hid (HQz.out.below hbwy (Nat.le_refl _))
          have HXv := Lib.hid (show XQ wy gx (gx + 1) n cz dz (.slice az Nz.length cc) Nz by rw [HNn.out]; exact HXy.out.below hbwy)
          have HBy := Lib.hid (HBz.out.trans (hbwy.mono HBz.out.size))
          clear hbwy HQz HXy HBz
          go_wp2_with fail
          go_roundw
          case rel => exact ⟨i + 1, Lz, Nz, cz, dz, az, cc, by omega, by go_num, HQy.out, HXv.out, HAZ.out, HBy.out⟩
          case measure => simp [intOf]; omega
        · refine (Q_room k s u t a9 m c9 M l9 HX7.out hk3 (by omega) hn16 hs hu ht HQ7.out.hcnt hk hs7 HL9.out HY9.out HR7.out (by omega)).mono ?_
          rintro e w8 ⟨rfl, ⟨a2, c2, y2, hy2, hx8⟩, hkx⟩
          have hx8 : XQ w8 gx (gx + 1) n ((cnt + 1) % 65536) d (.slice a2 (N ++ [y2]).length c2) (N ++ [y2]) := by rw [List.length_append]; exact hx8
          skip
          have hq8 := HQ7.out.keptx hkx hg1 hg2 hg3
          have h16 := (hkx.block g14 (box_lt h15) (by omega) (by omega)).trans h15
          have k0 : w8.cell? ⟨g14, 0, none⟩ = some (.int .u8 ((k : Nat) : Int)) := cell_of_row _ _ 0 _ _ _ h16
          have k1 : w8.cell? ⟨g14, 1, none⟩ = some (.int .u8 ((s : Nat) : Int)) := cell_of_row _ _ 1 _ _ _ h16
          have k2 : w8.cell? ⟨g14, 2, none⟩ = some (.int .u8 ((u : Nat) : Int)) := cell_of_row _ _ 2 _ _ _ h16
          have k3 : w8.cell? ⟨g14, 3, none⟩ = some (.int .u32 ((t : Nat) : Int)) := cell_of_row _ _ 3 _ _ _ h16
          have k4 : w8.cell? ⟨g14, 4, none⟩ = some (.slice a9 m c9) := cell_of_row _ _ 4 _ _ _ h16
          have HQ8 := Lib.hid hq8
          have HX8 := Lib.hid hx8
          have hs8 : gx + 1 ≤ w8.heap.size := box_lt hx8.head
          have HB8 := Lib.hid (HB7.out.trans (hkx.below (B := w.heap.size) hgw hgw HB7.out.size))
          have HR8 := Lib.hid (show Rd w8.heap.size w8 a9 m c9 (bv l9) from rd_of_own (own_keepQ HOW.out (fun j hj hjs => hkx.block j hjs (by omega) (by omega))) (fun j hj => bl_at _ (by rw [HL9.out]; exact hj)))
          clear hq8 hx8 hkx HQ7 HX7 h16 h15 HOW HR7
          go_wp2_with fail
          go_at_call 23
          refine (qPut_room HQ8.out hs8 (by omega) s u t hs hu ht a9 m c9 l9 HL9.out HY9.out HR8.out (by omega)).mono ?_
          rintro e wz ⟨rfl, y1, hy1, hqy, hky⟩
          skip
          obtain ⟨Lz, Nz, cz, dz, az, cc, hqz, hxz, halz⟩ : ∃ (Lz Nz : List Rq) (cz dz : Nat) (az : Option Addr) (cc : Nat), QuS wz (gx + 1) gq g b n cz dz Lz ∧ XQ wz gx (gx + 1) n cz dz (.slice az Nz.length cc) Nz ∧ AlkL Lz Nz := ⟨_, _, _, _, _, _, hqy, HX8.out.kep3 hky hg1 hg2 hg3, HAL.out.snoc (alk_put hy1 hy2)⟩
          have HQz := Lib.hid hqz
          have HXz := Lib.hid hxz
          have HAZ := Lib.hid halz
          have HBz := Lib.hid (HB8.out.trans (hky.below (B := w.heap.size) hw1 hw2 hw3 HB8.out.size))
          clear hqz hxz halz hqy hky HQ8 HX8 HB8 HAL k0 k1 k2 k3 k4 HR8
          skip
          go_upto_region 19 with fail
          obtain ⟨ln, hln⟩ : ∃ ln, Nz.length = ln := ⟨_, rfl⟩
          have hxz := HXz.out
          rw [hln] at hxz
          have hl16 : ln ≤ 16 := by have h1 := HQz.out.ring.le.1; have h2 := HAZ.out.1; omega
          have HLn := Lib.hid (show Lz.length = ln by rw [HAZ.out.1, hln])
          have HNn := Lib.hid hln
          have hgz := box_lt hxz.head
          have c0 : wz.cell? ⟨gx, 0, none⟩ = some (.slice az ln cc) := cell_of_row _ _ 0 _ _ _ hxz.head
          have c2 : wz.cell? ⟨gx, 2, none⟩ = some (.int .i64 ((dz : Nat) : Int)) := cell_of_row _ _ 2 _ _ _ hxz.head
          have c3 : wz.cell? ⟨gx, 3, none⟩ = some (.int .u16 ((cz : Nat) : Int)) := cell_of_row _ _ 3 _ _ _ hxz.head
          have HRZ := Lib.hid (show RdQ wz az Nz from ⟨own_rdQ (show wz.ownsRow (gx + 1) 57 5 (.slice az ln cc) ln (ql Nz) by have := hxz.own; rw [hln] at this; exact this) hln, by omega⟩)
          have HXy := Lib.hid hxz
          clear hxz hln HXz
          obtain ⟨I, W, hne, hWI, hIW⟩ := Go.Mix.family (fun v => Below wz.heap.size wz v) (Below.refl _ _)
          have HJ := Lib.hid hIW
          have HW := Lib.hid hWI
          clear hWI hIW
          refine Go.Flo3.wp_region (fun w' => ∃ i, w' = W i) 36 [Go.Flo.Spec.is (.int .i64 ((ln : Nat) : Int)), Go.Flo.Spec.is (.int .i64 ((dz : Nat) : Int)), Go.Flo.Spec.is (.int .u16 ((cz : Nat) : Int)), SpAll ln Nz, Go.Flo.Spec.is (.bool true)] (by kernel_rfl) (by kernel_rfl) (by decide) (by rintro _ w' ⟨i, rfl⟩ hb; exact HJ.out _ ((HW.out i).trans (hb.mono (HW.out i).size))) (HJ.out _ (Below.refl _ _).drew) ?_
          simp only [Go.Flo.pair, Go.Mix.calm, List.take, List.drop, if_true, Bool.false_eq_true, if_false, Nat.reduceAdd, Nat.reduceSub]
          have e0 : ∀ i, (W i).cell? ⟨gx, 0, none⟩ = some (.slice az ln cc) := fun i => ((HW.out i).cell (p := ⟨gx, 0, none⟩) hgz).trans c0
          have e2 : ∀ i, (W i).cell? ⟨gx, 2, none⟩ = some (.int .i64 ((dz : Nat) : Int)) := fun i => ((HW.out i).cell (p := ⟨gx, 2, none⟩) hgz).trans c2
          have e3 : ∀ i, (W i).cell? ⟨gx, 3, none⟩ = some (.int .u16 ((cz : Nat) : Int)) := fun i => ((HW.out i).cell (p := ⟨gx, 3, none⟩) hgz).trans c3
          clear c0 c2 c3
          (repeat (first | (refine Go.Flo.fw_calm rfl ?_ (fun K hK => ?_); (first | exact Go.Mix.wanted_none rfl | exact Go.Mix.wanted_tt rfl rfl rfl | exact Go.Mix.wanted_ff rfl rfl rfl); go_big_quiet_op; refine hK _ ?_; clear hK K) | (refine Go.Flo.fw_skip ?_ (fun K hK => ?_); (first | exact Go.Mix.wanted_tf rfl rfl rfl | exact Go.Mix.wanted_ft rfl rfl rfl); go_simp; refine hK _ ?_; clear hK K) | (refine Go.Flo.fw_any rfl ?_ (fun K hK => ?_); (first | exact Go.Mix.wanted_none rfl | exact Go.Mix.wanted_tt rfl rfl rfl | exact Go.Mix.wanted_ff rfl rfl rfl); go_simp; (try (go_ints; try go_simp)); refine hK _ ?_; clear hK K)))
          refine Go.Flo.fw_loud rfl ?_ rfl (by simp) (fun wv hwv hav K hK => ?_) (fun v hv K hK => ?_)
          · (first | exact Go.Mix.wanted_none rfl | exact Go.Mix.wanted_tt rfl rfl rfl | exact Go.Mix.wanted_ff rfl rfl rfl)
          · obtain ⟨iv, rfl⟩ := hwv
            have hbv := HW.out iv
            (first | go_big_op | go_simp)
            go_at_call 24
            refine (qLen (HQz.out.below (HW.out iv) (Nat.le_refl _))).mono ?_
            rintro e w' ⟨rfl, rfl⟩
            rw [HLn.out]
            exact hK _ _ (Go.Flo.owes_is _ rfl (Below.refl _ _))
          obtain rfl := hv.is
          go_simp
          refine hK _ ?_
          clear hK K hv
          (repeat (first | (refine Go.Flo.fw_calm rfl ?_ (fun K hK => ?_); (first | exact Go.Mix.wanted_none rfl | exact Go.Mix.wanted_tt rfl rfl rfl | exact Go.Mix.wanted_ff rfl rfl rfl); go_big_quiet_op; refine hK _ ?_; clear hK K) | (refine Go.Flo.fw_skip ?_ (fun K hK => ?_); (first | exact Go.Mix.wanted_tf rfl rfl rfl | exact Go.Mix.wanted_ft rfl rfl rfl); go_simp; refine hK _ ?_; clear hK K) | (refine Go.Flo.fw_any rfl ?_ (fun K hK => ?_); (first | exact Go.Mix.wanted_none rfl | exact Go.Mix.wanted_tt rfl rfl rfl | exact Go.Mix.wanted_ff rfl rfl rfl); go_simp; (try (go_ints; try go_simp)); refine hK _ ?_; clear hK K)))
          refine Go.Flo.fw_loud rfl ?_ rfl (by simp) (fun wv hwv hav K hK => ?_) (fun v hv K hK => ?_)
          · (first | exact Go.Mix.wanted_none rfl | exact Go.Mix.wanted_tt rfl rfl rfl | exact Go.Mix.wanted_ff rfl rfl rfl)
          · obtain ⟨iv, rfl⟩ := hwv
            have hbv := HW.out iv
            (first | go_big_op | go_simp)
            go_at_call 25
            refine (qDropped (HQz.out.below (HW.out iv) (Nat.le_refl _))).mono ?_
            rintro e w' ⟨rfl, rfl⟩
            exact hK _ _ (Go.Flo.owes_is _ rfl (Below.refl _ _))
          obtain rfl := hv.is
          go_simp
          refine hK _ ?_
          clear hK K hv
          (repeat (first | (refine Go.Flo.fw_calm rfl ?_ (fun K hK => ?_); (first | exact Go.Mix.wanted_none rfl | exact Go.Mix.wanted_tt rfl rfl rfl | exact Go.Mix.wanted_ff rfl rfl rfl); go_big_quiet_op; refine hK _ ?_; clear hK K) | (refine Go.Flo.fw_skip ?_ (fun K hK => ?_); (first | exact Go.Mix.wanted_tf rfl rfl rfl | exact Go.Mix.wanted_ft rfl rfl rfl); go_simp; refine hK _ ?_; clear hK K) | (refine Go.Flo.fw_any rfl ?_ (fun K hK => ?_); (first | exact Go.Mix.wanted_none rfl | exact Go.Mix.wanted_tt rfl rfl rfl | exact Go.Mix.wanted_ff rfl rfl rfl); go_simp; (try (go_ints; try go_simp)); refine hK _ ?_; clear hK K)))
          refine Go.Flo.fw_loud rfl ?_ rfl (by simp) (fun wv hwv hav K hK => ?_) (fun v hv K hK => ?_)
          · (first | exact Go.Mix.wanted_none rfl | exact Go.Mix.wanted_tt rfl rfl rfl | exact Go.Mix.wanted_ff rfl rfl rfl)
          · obtain ⟨iv, rfl⟩ := hwv
            have hbv := HW.out iv
            (first | go_big_op | go_simp)
            go_at_call 26
            refine (qCount (HQz.out.below (HW.out iv) (Nat.le_refl _))).mono ?_
            rintro e w' ⟨rfl, rfl⟩
            exact hK _ _ (Go.Flo.owes_is _ rfl (Below.refl _ _))
          obtain rfl := hv.is
          go_simp
          refine hK _ ?_
          clear hK K hv
          (repeat (first | (refine Go.Flo.fw_calm rfl ?_ (fun K hK => ?_); (first | exact Go.Mix.wanted_none rfl | exact Go.Mix.wanted_tt rfl rfl rfl | exact Go.Mix.wanted_ff rfl rfl rfl); go_big_quiet_op; refine hK _ ?_; clear hK K) | (refine Go.Flo.fw_skip ?_ (fun K hK => ?_); (first | exact Go.Mix.wanted_tf rfl rfl rfl | exact Go.Mix.wanted_ft rfl rfl rfl); go_simp; refine hK _ ?_; clear hK K) | (refine Go.Flo.fw_any rfl ?_ (fun K hK => ?_); (first | exact Go.Mix.wanted_none rfl | exact Go.Mix.wanted_tt rfl rfl rfl | exact Go.Mix.wanted_ff rfl rfl rfl); go_simp; (try (go_ints; try go_simp)); refine hK _ ?_; clear hK K)))
          refine Go.Flo.fw_loud rfl ?_ rfl (by simp) (fun wv hwv hav K hK => ?_) (fun v hv K hK => ?_)
          · (first | exact Go.Mix.wanted_none rfl | exact Go.Mix.wanted_tt rfl rfl rfl | exact Go.Mix.wanted_ff rfl rfl rfl)
          · obtain ⟨iv, rfl⟩ := hwv
            have hbv := HW.out iv
            (first | go_big_op | go_simp)
            go_at_call 27
            refine (qAll (HQz.out.below (HW.out iv) (Nat.le_refl _))).mono ?_
            rintro e w' ⟨v, Rs, rfl, hA⟩
            obtain ⟨h1, ⟨xa, xc, rfl, h2⟩, h3, h4⟩ := hA.rdq (HQz.out.below (HW.out iv) (Nat.le_refl _)).data (by rw [HLn.out]; omega)
            rw [HLn.out] at h1 ⊢
            exact hK _ _ (owes_All rfl hA.be ⟨_, _, Rs, rfl, h1, h2, h3, h4.trans HAZ.out⟩)
          obtain ⟨xa, xc, rfl⟩ := ex_All hv
          go_simp
          refine hK _ ?_
          clear hK K hv
          (repeat (first | (refine Go.Flo.fw_calm rfl ?_ (fun K hK => ?_); (first | exact Go.Mix.wanted_none rfl | exact Go.Mix.wanted_tt rfl rfl rfl | exact Go.Mix.wanted_ff rfl rfl rfl); go_big_quiet_op; refine hK _ ?_; clear hK K) | (refine Go.Flo.fw_skip ?_ (fun K hK => ?_); (first | exact Go.Mix.wanted_tf rfl rfl rfl | exact Go.Mix.wanted_ft rfl rfl rfl); go_simp; refine hK _ ?_; clear hK K) | (refine Go.Flo.fw_any rfl ?_ (fun K hK => ?_); (first | exact Go.Mix.wanted_none rfl | exact Go.Mix.wanted_tt rfl rfl rfl | exact Go.Mix.wanted_ff rfl rfl rfl); go_simp; (try (go_ints; try go_simp)); refine hK _ ?_; clear hK K)))
          refine Go.Flo.fw_loud rfl ?_ rfl (by simp) (fun wv hwv hav K hK => ?_) (fun v hv K hK => ?_)
          · (first | exact Go.Mix.wanted_none rfl | exact Go.Mix.wanted_tt rfl rfl rfl | exact Go.Mix.wanted_ff rfl rfl rfl)
          · obtain ⟨iv, rfl⟩ := hwv
            have hbv := HW.out iv
            (first | go_big_op | go_simp)
            obtain ⟨ya, yc, Rs, hy, h1, h2, h3, h4⟩ := ((hav 110 (by decide +kernel)).1.1.1.1.2 rfl).1
            injection hy with hy1 hy2 hy3
            subst hy1 hy3
            have hS := LSame xa az xc cc Rs Nz h2 (HRZ.out.below (HW.out iv)) h3 (fun r hr => ((HXy.out.data r hr).below (HW.out iv) (Nat.le_refl _)).low) h4
            rw [h1, HNn.out] at hS
            go_at_call 21
            refine hS.mono ?_
            rintro e w' ⟨rfl, hb⟩
            exact hK _ _ (Go.Flo.owes_is _ rfl hb)
          obtain rfl := hv.is
          go_simp
          refine hK _ ?_
          clear hK K hv
          (repeat (first | (refine Go.Flo.fw_calm rfl ?_ (fun K hK => ?_); (first | exact Go.Mix.wanted_none rfl | exact Go.Mix.wanted_tt rfl rfl rfl | exact Go.Mix.wanted_ff rfl rfl rfl); go_big_quiet_op; refine hK _ ?_; clear hK K) | (refine Go.Flo.fw_skip ?_ (fun K hK => ?_); (first | exact Go.Mix.wanted_tf rfl rfl rfl | exact Go.Mix.wanted_ft rfl rfl rfl); go_simp; refine hK _ ?_; clear hK K) | (refine Go.Flo.fw_any rfl ?_ (fun K hK => ?_); (first | exact Go.Mix.wanted_none rfl | exact Go.Mix.wanted_tt rfl rfl rfl | exact Go.Mix.wanted_ff rfl rfl rfl); go_simp; (try (go_ints; try go_simp)); refine hK _ ?_; clear hK K)))
          refine Go.Flo.fw_nil ?_
          intro wy hwwy hfwy huwy
          obtain ⟨iend, hiend⟩ := hwwy
          have hbwy := HW.out iend
          rw [← hiend] at hbwy
          clear hiend iend huwy
          refine ⟨fun _ => True, trivial, ?_⟩
          refine Go.Mix.walk_nil ?_
          (try intro _)
          have HQy := Lib.hid (HQz.out.below hbwy (Nat.le_refl _))
          have HXv := Lib.hid (show XQ wy gx (gx + 1) n cz dz (.slice az Nz.length cc) Nz by rw [HNn.out]; exact HXy.out.below hbwy)
          have HBy := Lib.hid (HBz.out.trans (hbwy.mono HBz.out.size))
          clear hbwy HQz HXy HBz
          go_wp2_with fail
          go_roundw
          case rel => exact ⟨i + 1, Lz, Nz, cz, dz, az, cc, by omega, by go_num, HQy.out, HXv.out, HAZ.out, HBy.out⟩
          case measure => simp [intOf]; omega
    · obtain ⟨wt, hwt⟩ : ∃ wt, wt = wr := ⟨_, rfl⟩
      have HQt := Lib.hid (show QuS wt (gx + 1) gq g b n cnt d L by rw [hwt]; exact HQ.out)
      have HXt := Lib.hid (show XQ wt gx (gx + 1) n cnt d (.slice a' N.length c') N by rw [hwt]; exact HX.out)
      have HBt := Lib.hid (show Below w.heap.size w wt by rw [hwt]; exact HBW.out)
      have HALt := HAL
      rw [← hwt]
      clear hwt HQ HX HBW HAL
      skip
      have hz11 := zero_11
      have hxt := HXt.out
      obtain ⟨ln, hln⟩ : ∃ ln, N.length = ln := ⟨_, rfl⟩
      rw [hln] at hxt
      have hl16 : ln ≤ 16 := by have h1 := HQt.out.ring.le.1; have h2 := HALt.out.1; omega
      have HN := Lib.hid hln
      have c0 : wt.cell? ⟨gx, 0, none⟩ = some (.slice a' ln c') := cell_of_row _ _ 0 _ _ _ hxt.head
      have HA := Lib.hid (show RdQ wt a' N from ⟨own_rdQ (show wt.ownsRow (gx + 1) 57 5 (.slice a' ln c') ln (ql N) by have := hxt.own; rw [hln] at this; exact this) hln, by omega⟩)
      have HOA := Lib.hid (show ∀ r ∈ N, RqOk wt 0 r from fun r hr => (hxt.data r hr).low)
      clear hxt hln HXt hza
      go_wp2_with fail
      go_loopw [17, 124] (fun kv iv wr => ∃ j : Nat, j ≤ ln ∧ iv = .int .i64 (j : Nat) ∧ kv = .int .i64 ((hasQ p v (N.take j) : Nat) : Int) ∧ Below wt.heap.size wt wr) (fun _ iv _ => ln - (intOf iv).toNat)
      case atStart => exact ⟨0, Nat.zero_le _, rfl, rfl, Below.refl _ _⟩
      case round =>
        obtain ⟨j, hj, rfl, rfl, hbw⟩ := hrel
        have HBj := Lib.hid hbw
        have hsz := hbw.size
        clear hbw
        by_cases hlt : j < ln
        · have hiL : j < N.length := by rw [HN.out]; exact hlt
          obtain ⟨ba, oa, rfl, _, ra⟩ := (HA.out.below HBj.out).at hiL
          have hsc := hasQ_succ p v N hiL
          have hax := HOA.out _ (getD_memQ N hiL)
          obtain ⟨x, hx⟩ : ∃ x, x = N.getD j rq0 := ⟨_, rfl⟩
          rw [← hx] at ra hsc hax
          clear hx
          obtain ⟨kk, hkk⟩ : ∃ kk, kk = hasQ p v (N.take j) := ⟨_, rfl⟩
          have hkl : kk ≤ 1000 := by rw [hkk]; exact Nat.le_trans (hasQ_le _ _ _) (by rw [List.length_take]; omega)
          rw [← hkk] at hsc ⊢
          clear hkk hiL
          obtain ⟨s, u, c, t, xa, xn, xc, xd⟩ := x
          have hs1 : s < 256 := hax.hs
          have hu1 : u < 256 := hax.hu
          have HSC := Lib.hid (show hasQ p v (N.take (j + 1)) = kk + (if s = p ∧ u = v then 1 else 0) from hsc)
          clear hax hsc
          have hb5 := (Below.refl wr.heap.size wr).alloc (Nat.le_refl _) (.cells #[.int .u8 ((s : Nat) : Int), .int .u8 ((u : Nat) : Int), .int .u16 ((c : Nat) : Int), .int .u32 ((t : Nat) : Int), .slice xa xn xc] 57)
          have hx5 := heap_alloc_new wr (.cells #[.int .u8 ((s : Nat) : Int), .int .u8 ((u : Nat) : Int), .int .u16 ((c : Nat) : Int), .int .u32 ((t : Nat) : Int), .slice xa xn xc] 57)
          go_upto_region 26 with (first | ((with_reducible show wpList _ _ _ (_ :: _) _ _); refine wpList_load_mid rfl 57 _ rfl _ (oa + j * 5) rfl (Rq.cs ⟨s, u, c, t, xa, xn, xc, xd⟩) _ ra Try.underlying57 rfl size_11 ?_; rw [show (Rq.cs ⟨s, u, c, t, xa, xn, xc, xd⟩).toArray = #[.int .u8 ((s : Nat) : Int), .int .u8 ((u : Nat) : Int), .int .u16 ((c : Nat) : Int), .int .u32 ((t : Nat) : Int), .slice xa xn xc] from rfl]; (try go_simp)) | ((with_reducible show wpList _ _ _ (_ :: _) _ _); refine wpList_store_row rfl 57 _ _ rfl _ _ rfl rfl _ _ (heap_alloc_new _ _) (by exact size_11) (by rfl) (by simp [Value.oneCell']) ?_; rw [World.setRow_alloc_new]))
          obtain ⟨w5, hw5⟩ : ∃ w5, w5 = wr.alloc (.cells #[.int .u8 ((s : Nat) : Int), .int .u8 ((u : Nat) : Int), .int .u16 ((c : Nat) : Int), .int .u32 ((t : Nat) : Int), .slice xa xn xc] 57) := ⟨_, rfl⟩
          obtain ⟨g6, hg6⟩ : ∃ g, g = wr.heap.size := ⟨_, rfl⟩
          rw [← hw5] at hb5 hx5 ⊢
          rw [show (Value.pointer (some ⟨wr.heap.size, 0, none⟩)) = .pointer (some ⟨g6, 0, none⟩) by rw [hg6]]
          rw [← hg6] at hx5
          have HB5 := Lib.hid (HBj.out.trans (hb5.mono hsz))
          have x0 : w5.cell? ⟨g6, 0, none⟩ = some (.int .u8 ((s : Nat) : Int)) := cell_of_row _ _ 0 _ _ _ hx5
          have x1 : w5.cell? ⟨g6, 1, none⟩ = some (.int .u8 ((u : Nat) : Int)) := cell_of_row _ _ 1 _ _ _ hx5
          clear hw5 hg6 hx5 hb5 ra hz11 c0
          simp only [Act.put]
          by_cases e1 : s = p
          · have f1 : ((s : Int) == (p : Int)) = true := by rw [beq_iff_eq]; omega
            by_cases e2 : u = v
            · have f2 : ((u : Int) == (v : Int)) = true := by rw [beq_iff_eq]; omega
              have HR := Lib.hid (show hasQ p v (N.take (j + 1)) = kk + 1 by rw [HSC.out, if_pos ⟨e1, e2⟩])
              clear e1 e2
              go_wp2_with fail
              go_roundw
              case rel => exact ⟨j + 1, by omega, by go_num, by rw [HR.out]; go_num, HB5.out⟩
              case measure => simp [intOf]; omega
            · have f2 : ((u : Int) == (v : Int)) = false := by rw [beq_eq_false_iff_ne]; omega
              have HR := Lib.hid (show hasQ p v (N.take (j + 1)) = kk by rw [HSC.out, if_neg (fun h => e2 h.2), Nat.add_zero])
              clear e1 e2
              go_wp2_with fail
              go_roundw
              case rel => exact ⟨j + 1, by omega, by go_num, by rw [HR.out], HB5.out⟩
              case measure => simp [intOf]; omega
          · have f1 : ((s : Int) == (p : Int)) = false := by rw [beq_eq_false_iff_ne]; omega
            have HR := Lib.hid (show hasQ p v (N.take (j + 1)) = kk by rw [HSC.out, if_neg (fun h => e1 h.1), Nat.add_zero])
            clear e1
            go_wp2_with fail
            go_roundw
            case rel => exact ⟨j + 1, by omega, by go_num, by rw [HR.out], HB5.out⟩
            case measure => simp [intOf]; omega
        · obtain rfl : j = ln := by omega
          have e : N.take j = N := List.take_of_length_le (by rw [HN.out]; exact Nat.le_refl _)
          rw [e]
          obtain ⟨hh, hhh⟩ : ∃ hh, hasQ p v N = hh := ⟨_, rfl⟩
          rw [hhh]
          have HH := Lib.hid hhh
          have HQr := Lib.hid (HQt.out.below HBj.out (Nat.le_refl _))
          have HBr := Lib.hid (HBt.out.trans (HBj.out.mono HBt.out.size))
          clear e hhh c0 HQt HBt
          go_wp2_with fail
          go_at_call 27
          refine (qAll HQr.out).mono ?_
          rintro e wx ⟨vx, Rs, rfl, hA⟩
          obtain ⟨h1, ⟨xa, xc, rfl, h2⟩, h3, h4⟩ := hA.rdq HQr.out.data (by have h1 := HQr.out.ring.le.1; omega)
          have hS := Has_any xa xc p v Rs hp hv h2 h3
          rw [h1, hasQ_alk p v (h4.trans HALt.out), HH.out] at hS
          have HS := Lib.hid hS
          have HBx := Lib.hid (HBr.out.trans (hA.be.mono HBr.out.size))
          clear hS hA h1 h2 h3 h4
          go_wp2_with fail
          go_at_call 28
          refine HS.out.mono ?_
          rintro e wy ⟨rfl, hb⟩
          have HBy := Lib.hid (HBx.out.trans (hb.mono HBx.out.size))
          have hee : (((hh : Nat) : Int) == ((hh : Nat) : Int)) = true := by simp
          clear hb HS
          go_wp2_with fail
          go_ret
          exact ⟨rfl, HBy.out⟩
end Go.Proofs.Ytioclbkgfbjpdaa
