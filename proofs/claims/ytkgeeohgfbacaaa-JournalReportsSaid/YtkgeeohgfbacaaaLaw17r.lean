/- Layer 17: reports. -/
import Derived.Test.YtkgeeohgfbacaaaLaw17
import Derived.Test.YtkgeeohgfbacaaaJrP
import Derived.Test.YtkgeeohgfbacaaaJoE
import Derived.Test.YtkgeeohgfbacaaaLaw05
import Derived.Test.YtkgeeohgfbacaaaFrame
namespace Go.Proofs.Ytkgeeohgfbacaaa.Je
open Go.RowKit Go.Own Go.Shelf
set_option linter.unusedVariables false
set_option linter.unusedSimpArgs false
theorem bytes_jeB {x : En} (h : x.ok) : bytes (jeB x) := by
  unfold jeB
  refine ((bytes.append ?_ (numB_bytes _ _)).append (numB_bytes _ _)).append (numB_bytes _ _)
  intro b hb
  have : b = x.e := by simpa using hb
  have := h.e
  omega
theorem own_loE {w : World} {base n size b i : Nat} {e : TypeId} {v x : Value} {xs : List Value} (h : w.ownsRow base e size v n xs) (hg : b < base) : (w.setCell ⟨b, i, none⟩ x).ownsRow base e size v n xs := by
  obtain ⟨h1, h2 | ⟨g', cap, cur, hv, hb', hr, ho⟩⟩ := h
  · exact ⟨h1, .inl h2⟩
  · exact ⟨h1, .inr ⟨g', cap, cur, hv, hb', (heap_setCell_other w ⟨b, i, none⟩ g' x (by show g' ≠ b; omega)).trans hr, ho⟩⟩
theorem rd_bytes {w : World} {base n : Nat} {a : Option Addr} {c : Nat} {l : List Nat} (h : w.ownsRow base 5 1 (.slice a n c) n (bl l)) (hl : l.length = n) : Rd w.heap.size w a n c (bv l) :=
  rd_of_own (f := bv l) h (fun j hj => bl_at _ (by rw [hl]; exact hj))
set_option maxRecDepth 100000 in
set_option maxHeartbeats 8000000 in
theorem walkR (q t e r d sb : Nat) (a1' : Option Addr) (len1 cap1 : Nat) (l : List Nat) (w : World) (hq : q < 4294967296) (ht : t < 4294967296) (he : e < 256) (hr : r < 256) (hd : d < 4294967296) (hsb : sb < 256) (hl : l.length = len1) (hlb : bytes l) (hrd : Rd w.heap.size w a1' len1 cap1 (bv l)) :
    Calls Try.prog 10 #[.agg #[.int .u32 (q : Nat), .int .u32 (t : Nat), .int .u8 (e : Nat), .int .u8 (r : Nat), .int .u32 (d : Nat)], .int .u8 (sb : Nat), .slice a1' len1 cap1] w fun z w' => z = .returned (.bool true) ∧ Below w.heap.size w w' := by
  have hc1 := hrd.le
  have hc2 := hrd.top
  unfold maxLen at hc2
  have HL := Lib.hid hl
  have HLB := Lib.hid hlb
  have HR := Lib.hid hrd
  have hal : Below w.heap.size w (w.alloc (.cells #[.int .u32 (q : Nat), .int .u32 (t : Nat), .int .u8 (e : Nat), .int .u8 (r : Nat), .int .u32 (d : Nat)] 142)) := (Below.refl _ _).alloc (Nat.le_refl _) _
  have g0 := heap_alloc_new w (.cells #[.int .u32 (q : Nat), .int .u32 (t : Nat), .int .u8 (e : Nat), .int .u8 (r : Nat), .int .u32 (d : Nat)] 142)
  clear hl hlb hrd
  go_enter Try.func10, Try.ntmps10
  go_wp2_with fail
  go_at_call 58
  refine (awake17 _).mono ?_
  rintro z w2 ⟨rfl, hb2⟩
  have g1 := box_below g0 hb2 (box_lt g0)
  have hb := hal.trans (hb2.mono hal.size)
  have HR2 := Lib.hid ((HR.out.below hb).mono hb.size)
  have HB2 := Lib.hid hb
  clear g0 hal hb2 hb HR
  go_wp2_with fail
  go_at_call 26
  refine (Cut_any a1' len1 cap1 l 20 _ HL.out HR2.out (by decide)).mono ?_
  rintro z w3 ⟨v, rfl, hown, hb3⟩
  obtain ⟨ra, rc, rfl⟩ := own_form hown
  have g3 := box_below g1 hb3 (box_lt g1)
  obtain ⟨R, hR⟩ : ∃ R, R = l.take 20 := ⟨_, rfl⟩
  obtain ⟨n, hn⟩ : ∃ n, n = min 20 len1 := ⟨_, rfl⟩
  have hRn : R.length = n := by rw [hR, hn, List.length_take, HL.out]
  have hRb : bytes R := by rw [hR]; exact HLB.out.take 20
  rw [← hR, ← hn] at hown
  rw [← hn]
  have hn20 : n ≤ 20 := by omega
  have HOWN := Lib.hid hown
  have hgw2 : w.heap.size < w2.heap.size := box_lt g1
  have HB3 := Lib.hid (HB2.out.trans (hb3.mono HB2.out.size))
  have HRN := Lib.hid (And.intro hRn hRb)
  have hg3w : w.heap.size < w3.heap.size := box_lt g3
  clear hown hb3 g1 hR hn hRn hRb HR2 HB2 HL HLB
  obtain ⟨g, hg⟩ : ∃ g, g = w.heap.size := ⟨_, rfl⟩
  rw [← hg] at g3 hg3w hgw2 ⊢
  have HG := Lib.hid hg
  clear hg
  have a0 := cell_of_row _ _ 0 _ _ _ g3
  have a1 := cell_of_row _ _ 1 _ _ _ g3
  have a2 := cell_of_row _ _ 2 _ _ _ g3
  have a3 := cell_of_row _ _ 3 _ _ _ g3
  have a4 := cell_of_row _ _ 4 _ _ _ g3
  have f3 := frozen_of_row _ _ 3 _ _ g3
  go_upto_region 5 with fail
  rw [show (r : Int) % 4 = ((r % 4 : Nat) : Int) from by omega]
  obtain ⟨X, hX⟩ : ∃ X : En, X = ⟨q, t, e, r % 4, d⟩ := ⟨_, rfl⟩
  have hXok : X.ok := by rw [hX]; exact ⟨hq, ht, he, by show r % 4 < 255; omega, hd⟩
  have hXg : X.g ≤ 3 := by rw [hX]; show r % 4 ≤ 3; omega
  have g4 : (w3.setCell ⟨g, 3, none⟩ (.int .u8 ((r % 4 : Nat) : Int))).heap[g]? = some (.cells #[.int .u32 (X.q : Nat), .int .u32 (X.t : Nat), .int .u8 (X.e : Nat), .int .u8 (X.g : Nat), .int .u32 (X.d : Nat)] 142 (0, 0)) := by rw [hX]; exact heap_setCell_same w3 g 3 _ _ _ g3
  have HO4 := Lib.hid (own_loE (b := g) (i := 3) (x := .int .u8 ((r % 4 : Nat) : Int)) HOWN.out hgw2)
  have HB4 := Lib.hid (HB3.out.setCell (p := ⟨g, 3, none⟩) (by show _ ≤ g; have := HG.out; omega) (.int .u8 ((r % 4 : Nat) : Int)))
  obtain ⟨w4, hw4⟩ : ∃ w4, w4 = w3.setCell ⟨g, 3, none⟩ (.int .u8 ((r % 4 : Nat) : Int)) := ⟨_, rfl⟩
  rw [← hw4] at g4 HO4 HB4 ⊢
  clear hw4 a0 a1 a2 a3 a4 f3 g3 HB3 HOWN hX
  have a0 := cell_of_row _ _ 0 _ _ _ g4
  have a1 := cell_of_row _ _ 1 _ _ _ g4
  have a2 := cell_of_row _ _ 2 _ _ _ g4
  have a3 := cell_of_row _ _ 3 _ _ _ g4
  have a4 := cell_of_row _ _ 4 _ _ _ g4
  have hal5 : Below w4.heap.size w4 (w4.alloc (.cells #[.int .u32 (X.q : Nat), .int .u32 (X.t : Nat), .int .u8 (X.e : Nat), .int .u8 (X.g : Nat), .int .u32 (X.d : Nat)] 143)) := (Below.refl _ _).alloc (Nat.le_refl _) _
  have e5 := heap_alloc_new w4 (.cells #[.int .u32 (X.q : Nat), .int .u32 (X.t : Nat), .int .u8 (X.e : Nat), .int .u8 (X.g : Nat), .int .u32 (X.d : Nat)] 143)
  have g5 := box_below g4 hal5 (box_lt g4)
  have HO5 := Lib.hid (own_below HO4.out hal5 (Nat.le_refl _))
  have HB5 := Lib.hid (HB4.out.trans (hal5.mono HB4.out.size))
  go_upto_region 6 with fail
  obtain ⟨w5, hw5⟩ : ∃ w5, w5 = w4.alloc (.cells #[.int .u32 (X.q : Nat), .int .u32 (X.t : Nat), .int .u8 (X.e : Nat), .int .u8 (X.g : Nat), .int .u32 (X.d : Nat)] 143) := ⟨_, rfl⟩
  obtain ⟨ge, hge⟩ : ∃ ge, ge = w4.heap.size := ⟨_, rfl⟩
  rw [← hw5] at e5 g5 HO5 HB5 ⊢
  rw [← hge] at e5 ⊢
  clear hw5 hge hal5 HO4 HB4 g4 a0 a1 a2 a3 a4
  have a0 := cell_of_row _ _ 0 _ _ _ e5
  have a1 := cell_of_row _ _ 1 _ _ _ e5
  have a2 := cell_of_row _ _ 2 _ _ _ e5
  have a3 := cell_of_row _ _ 3 _ _ _ e5
  have a4 := cell_of_row _ _ 4 _ _ _ e5
  go_wp2_with fail
  go_at_call 69
  refine (jReport X _ hXok).mono ?_
  rintro z w6 ⟨v, rfl, ho6, hb6⟩
  obtain ⟨pa, pc, rfl⟩ := own_form ho6
  have g6 := box_below g5 hb6 (box_lt g5)
  have e6 := box_below e5 hb6 (box_lt e5)
  have HP6 := Lib.hid (rd_bytes ho6 (jeB_len X))
  have HO6 := Lib.hid (own_below HO5.out hb6 (Nat.le_refl _))
  have HB6 := Lib.hid (HB5.out.trans (hb6.mono HB5.out.size))
  clear ho6 hb6 g5 e5 HO5 HB5 a0 a1 a2 a3 a4
  go_wp2_with fail
  go_at_call 70
  refine (jParse (X.g + 1) pa 13 pc _ (jeB X) _ (by omega) (jeB_len X) (Nat.le_refl _) HP6.out (bytes_jeB hXok) (by decide)).mono ?_
  rintro z w7 ⟨rfl, hb7⟩
  have hpe : jpErr (X.g + 1) 13 = 0 := by unfold jpErr; rw [if_neg (by omega), if_pos rfl]
  have hpo : jpOf (X.g + 1) 13 (jeB X) = X := by unfold jpOf; rw [if_pos hpe]; exact jeP_jeB hXok
  rw [hpe, hpo]
  have g7 := box_below g6 hb7 (box_lt g6)
  have e7 := box_below e6 hb7 (box_lt e6)
  have HP7 := Lib.hid ((HP6.out.below hb7).mono hb7.size)
  have HO7 := Lib.hid (own_below HO6.out hb7 (Nat.le_refl _))
  have HB7 := Lib.hid (HB6.out.trans (hb7.mono HB6.out.size))
  clear hpe hpo hb7 g6 e6 HP6 HO6 HB6
  go_upto_region 8 with fail
  have hal8 : Below w7.heap.size w7 (w7.alloc (.cells #[.int .u32 (X.q : Nat), .int .u32 (X.t : Nat), .int .u8 (X.e : Nat), .int .u8 (X.g : Nat), .int .u32 (X.d : Nat)] 143)) := (Below.refl _ _).alloc (Nat.le_refl _) _
  have y8 := heap_alloc_new w7 (.cells #[.int .u32 (X.q : Nat), .int .u32 (X.t : Nat), .int .u8 (X.e : Nat), .int .u8 (X.g : Nat), .int .u32 (X.d : Nat)] 143)
  have g8 := box_below g7 hal8 (box_lt g7)
  have e8 := box_below e7 hal8 (box_lt e7)
  have HP8 := Lib.hid ((HP7.out.below hal8).mono hal8.size)
  have HO8 := Lib.hid (own_below HO7.out hal8 (Nat.le_refl _))
  have HB8 := Lib.hid (HB7.out.trans (hal8.mono HB7.out.size))
  obtain ⟨w8, hw8⟩ : ∃ w8, w8 = w7.alloc (.cells #[.int .u32 (X.q : Nat), .int .u32 (X.t : Nat), .int .u8 (X.e : Nat), .int .u8 (X.g : Nat), .int .u32 (X.d : Nat)] 143) := ⟨_, rfl⟩
  obtain ⟨gy, hgy⟩ : ∃ gy, gy = w7.heap.size := ⟨_, rfl⟩
  rw [← hw8] at y8 g8 e8 HP8 HO8 HB8 ⊢
  rw [← hgy] at y8 ⊢
  clear hw8 hgy hal8 g7 e7 HP7 HO7 HB7
  go_wp2_with fail
  go_at_call 70
  refine (jParse sb ra n rc _ R _ hsb HRN.out.1 (Nat.le_refl _) (rd_bytes HO8.out HRN.out.1) HRN.out.2 (by omega)).mono ?_
  rintro z w9 ⟨rfl, hb9⟩
  obtain ⟨Z, hZ⟩ : ∃ Z, Z = jpOf sb n R := ⟨_, rfl⟩
  obtain ⟨er, her⟩ : ∃ er, er = jpErr sb n := ⟨_, rfl⟩
  rw [← hZ, ← her]
  have HZ := Lib.hid hZ
  have HER := Lib.hid her
  have g9 := box_below g8 hb9 (box_lt g8)
  have e9 := box_below e8 hb9 (box_lt e8)
  have y9 := box_below y8 hb9 (box_lt y8)
  have HP9 := Lib.hid ((HP8.out.below hb9).mono hb9.size)
  have HO9 := Lib.hid (own_below HO8.out hb9 (Nat.le_refl _))
  have HB9 := Lib.hid (HB8.out.trans (hb9.mono HB8.out.size))
  clear hZ her hb9 g8 e8 y8 HP8 HO8 HB8
  go_upto_region 10 with fail
  have hal10 : Below w9.heap.size w9 (w9.alloc (.cells #[.int .u32 (Z.q : Nat), .int .u32 (Z.t : Nat), .int .u8 (Z.e : Nat), .int .u8 (Z.g : Nat), .int .u32 (Z.d : Nat)] 143)) := (Below.refl _ _).alloc (Nat.le_refl _) _
  have z10 := heap_alloc_new w9 (.cells #[.int .u32 (Z.q : Nat), .int .u32 (Z.t : Nat), .int .u8 (Z.e : Nat), .int .u8 (Z.g : Nat), .int .u32 (Z.d : Nat)] 143)
  have g10 := box_below g9 hal10 (box_lt g9)
  have e10 := box_below e9 hal10 (box_lt e9)
  have y10 := box_below y9 hal10 (box_lt y9)
  have HP10 := Lib.hid ((HP9.out.below hal10).mono hal10.size)
  have HO10 := Lib.hid (own_below HO9.out hal10 (Nat.le_refl _))
  have HB10 := Lib.hid (HB9.out.trans (hal10.mono HB9.out.size))
  obtain ⟨w10, hw10⟩ : ∃ w10, w10 = w9.alloc (.cells #[.int .u32 (Z.q : Nat), .int .u32 (Z.t : Nat), .int .u8 (Z.e : Nat), .int .u8 (Z.g : Nat), .int .u32 (Z.d : Nat)] 143) := ⟨_, rfl⟩
  obtain ⟨gz, hgz⟩ : ∃ gz, gz = w9.heap.size := ⟨_, rfl⟩
  rw [← hw10] at z10 g10 e10 y10 HP10 HO10 HB10 ⊢
  rw [← hgz] at z10 ⊢
  clear hw10 hgz hal10 g9 e9 y9 HP9 HO9 HB9
  have hneq : ∀ w : World, (binOp .neq 143 (.agg #[.int .u32 (X.q : Nat), .int .u32 (X.t : Nat), .int .u8 (X.e : Nat), .int .u8 (X.g : Nat), .int .u32 (X.d : Nat)] ) (.agg #[.int .u32 (X.q : Nat), .int .u32 (X.t : Nat), .int .u8 (X.e : Nat), .int .u8 (X.g : Nat), .int .u32 (X.d : Nat)])).run Try.prog w = .ok (.bool false) w := fun w => by rw [neqEn]; simp
  have heq : ∀ w : World, (binOp .eql 143 (.agg #[.int .u32 (en0.q : Nat), .int .u32 (en0.t : Nat), .int .u8 (en0.e : Nat), .int .u8 (en0.g : Nat), .int .u32 (en0.d : Nat)]) (.agg #[.int .u32 0, .int .u32 0, .int .u8 0, .int .u8 0, .int .u32 0])).run Try.prog w = .ok (.bool true) w := fun w => eqlEn en0 en0 w
  have hXw : IntKind.u8.wrap ((X.g : Int) + 1) = ((X.g + 1 : Nat) : Int) := by rw [IntKind.wrap_u8]; omega
  have a0 := cell_of_row _ _ 0 _ _ _ g10
  have a1 := cell_of_row _ _ 1 _ _ _ g10
  have a2 := cell_of_row _ _ 2 _ _ _ g10
  have a3 := cell_of_row _ _ 3 _ _ _ g10
  have a4 := cell_of_row _ _ 4 _ _ _ g10
  by_cases h1 : sb < 1
  · have her : er = 1 := by rw [HER.out]; unfold jpErr; rw [if_pos (.inl h1)]
    have hze : Z = en0 := by rw [HZ.out]; unfold jpOf; rw [← HER.out, her, if_neg (by decide)]
    subst her hze
    skip
    go_wp2_with fail
    go_at_call 71
    refine (rText X _ hXok).mono ?_
    rintro z w11 ⟨v11, rfl, ho11, hb11⟩
    obtain ⟨ta, tc, rfl⟩ := own_form ho11
    have g11 := box_below g10 hb11 (box_lt g10)
    have e11 := box_below e10 hb11 (box_lt e10)
    have y11 := box_below y10 hb11 (box_lt y10)
    have z11 := box_below z10 hb11 (box_lt z10)
    have HT11 := Lib.hid (rd_bytes ho11 (jeB_len X))
    have HP11 := Lib.hid ((HP10.out.below hb11).mono hb11.size)
    have HO11 := Lib.hid (own_below HO10.out hb11 (Nat.le_refl _))
    have HB11 := Lib.hid (HB10.out.trans (hb11.mono HB10.out.size))
    have hbx := bytes_jeB hXok
    clear ho11 hb11 g10 e10 y10 z10 HP10 HO10 HB10 a0 a1 a2 a3 a4
    go_wp2_with fail
    go_at_call 39
    refine (Same_any pa ta 13 13 pc tc _ _ (jeB X) (jeB X) _ (jeB_len X) (jeB_len X) HP11.out HT11.out hbx hbx).mono ?_
    rintro z w12 ⟨rfl, j12, rfl⟩
    rw [decide_eq_true (rfl : jeB X = jeB X)]
    have hdr : Below w11.heap.size w11 (w11.drewN j12) := ⟨rfl, rfl, rfl, Nat.le_refl _, fun _ _ => rfl⟩
    have e12 := box_below e11 hdr (box_lt e11)
    have y12 := box_below y11 hdr (box_lt y11)
    have z12 := box_below z11 hdr (box_lt z11)
    have HO12 := Lib.hid (own_below HO11.out hdr (Nat.le_refl _))
    have HB12 := Lib.hid (HB11.out.trans (hdr.mono HB11.out.size))
    obtain ⟨w12, hw12⟩ : ∃ w12, w12 = w11.drewN j12 := ⟨_, rfl⟩
    rw [← hw12] at e12 y12 z12 HO12 HB12 ⊢
    clear hw12 hdr g11 e11 y11 z11 HT11 HP11 HO11 HB11 hbx
    have a0 := cell_of_row _ _ 0 _ _ _ e12
    have a1 := cell_of_row _ _ 1 _ _ _ e12
    have a2 := cell_of_row _ _ 2 _ _ _ e12
    have a3 := cell_of_row _ _ 3 _ _ _ e12
    have a4 := cell_of_row _ _ 4 _ _ _ e12
    have b0 := cell_of_row _ _ 0 _ _ _ y12
    have b1 := cell_of_row _ _ 1 _ _ _ y12
    have b2 := cell_of_row _ _ 2 _ _ _ y12
    have b3 := cell_of_row _ _ 3 _ _ _ y12
    have b4 := cell_of_row _ _ 4 _ _ _ y12
    clear e12 y12
    go_upto_region 16 with fail
    clear a0 a1 a2 a3 a4 b0 b1 b2 b3 b4
    skip
    have a0 := cell_of_row _ _ 0 _ _ _ z12
    have a1 := cell_of_row _ _ 1 _ _ _ z12
    have a2 := cell_of_row _ _ 2 _ _ _ z12
    have a3 := cell_of_row _ _ 3 _ _ _ z12
    have a4 := cell_of_row _ _ 4 _ _ _ z12
    clear z12
    go_wp2
    go_ret
    exact ⟨rfl, HB12.out⟩
  by_cases h4 : 4 < sb
  · have her : er = 1 := by rw [HER.out]; unfold jpErr; rw [if_pos (.inr h4)]
    have hze : Z = en0 := by rw [HZ.out]; unfold jpOf; rw [← HER.out, her, if_neg (by decide)]
    subst her hze
    skip
    go_wp2_with fail
    go_at_call 71
    refine (rText X _ hXok).mono ?_
    rintro z w11 ⟨v11, rfl, ho11, hb11⟩
    obtain ⟨ta, tc, rfl⟩ := own_form ho11
    have g11 := box_below g10 hb11 (box_lt g10)
    have e11 := box_below e10 hb11 (box_lt e10)
    have y11 := box_below y10 hb11 (box_lt y10)
    have z11 := box_below z10 hb11 (box_lt z10)
    have HT11 := Lib.hid (rd_bytes ho11 (jeB_len X))
    have HP11 := Lib.hid ((HP10.out.below hb11).mono hb11.size)
    have HO11 := Lib.hid (own_below HO10.out hb11 (Nat.le_refl _))
    have HB11 := Lib.hid (HB10.out.trans (hb11.mono HB10.out.size))
    have hbx := bytes_jeB hXok
    clear ho11 hb11 g10 e10 y10 z10 HP10 HO10 HB10 a0 a1 a2 a3 a4
    go_wp2_with fail
    go_at_call 39
    refine (Same_any pa ta 13 13 pc tc _ _ (jeB X) (jeB X) _ (jeB_len X) (jeB_len X) HP11.out HT11.out hbx hbx).mono ?_
    rintro z w12 ⟨rfl, j12, rfl⟩
    rw [decide_eq_true (rfl : jeB X = jeB X)]
    have hdr : Below w11.heap.size w11 (w11.drewN j12) := ⟨rfl, rfl, rfl, Nat.le_refl _, fun _ _ => rfl⟩
    have e12 := box_below e11 hdr (box_lt e11)
    have y12 := box_below y11 hdr (box_lt y11)
    have z12 := box_below z11 hdr (box_lt z11)
    have HO12 := Lib.hid (own_below HO11.out hdr (Nat.le_refl _))
    have HB12 := Lib.hid (HB11.out.trans (hdr.mono HB11.out.size))
    obtain ⟨w12, hw12⟩ : ∃ w12, w12 = w11.drewN j12 := ⟨_, rfl⟩
    rw [← hw12] at e12 y12 z12 HO12 HB12 ⊢
    clear hw12 hdr g11 e11 y11 z11 HT11 HP11 HO11 HB11 hbx
    have a0 := cell_of_row _ _ 0 _ _ _ e12
    have a1 := cell_of_row _ _ 1 _ _ _ e12
    have a2 := cell_of_row _ _ 2 _ _ _ e12
    have a3 := cell_of_row _ _ 3 _ _ _ e12
    have a4 := cell_of_row _ _ 4 _ _ _ e12
    have b0 := cell_of_row _ _ 0 _ _ _ y12
    have b1 := cell_of_row _ _ 1 _ _ _ y12
    have b2 := cell_of_row _ _ 2 _ _ _ y12
    have b3 := cell_of_row _ _ 3 _ _ _ y12
    have b4 := cell_of_row _ _ 4 _ _ _ y12
    clear e12 y12
    go_upto_region 16 with fail
    clear a0 a1 a2 a3 a4 b0 b1 b2 b3 b4
    skip
    have a0 := cell_of_row _ _ 0 _ _ _ z12
    have a1 := cell_of_row _ _ 1 _ _ _ z12
    have a2 := cell_of_row _ _ 2 _ _ _ z12
    have a3 := cell_of_row _ _ 3 _ _ _ z12
    have a4 := cell_of_row _ _ 4 _ _ _ z12
    clear z12
    go_wp2
    go_ret
    exact ⟨rfl, HB12.out⟩
  by_cases h13 : n = 13
  · have her : er = 0 := by rw [HER.out]; unfold jpErr; rw [if_neg (by omega), if_pos h13]
    have hze : Z = jeP sb R := by rw [HZ.out]; unfold jpOf; rw [← HER.out, her, if_pos rfl]
    have hzs : Z.g + 1 = sb := by rw [hze]; show sb - 1 + 1 = sb; omega
    have hzo : Z.ok := by rw [hze]; exact jeP_ok (by omega) HRN.out.2
    have hzb : jeB Z = R := by rw [hze]; exact jeB_jeP HRN.out.2 (HRN.out.1.trans h13)
    subst her h13
    have HZB := Lib.hid hzb
    clear hze hzb
    skip
    go_wp2_with fail
    go_at_call 71
    refine (rText X _ hXok).mono ?_
    rintro z w11 ⟨v11, rfl, ho11, hb11⟩
    obtain ⟨ta, tc, rfl⟩ := own_form ho11
    have g11 := box_below g10 hb11 (box_lt g10)
    have e11 := box_below e10 hb11 (box_lt e10)
    have y11 := box_below y10 hb11 (box_lt y10)
    have z11 := box_below z10 hb11 (box_lt z10)
    have HT11 := Lib.hid (rd_bytes ho11 (jeB_len X))
    have HP11 := Lib.hid ((HP10.out.below hb11).mono hb11.size)
    have HO11 := Lib.hid (own_below HO10.out hb11 (Nat.le_refl _))
    have HB11 := Lib.hid (HB10.out.trans (hb11.mono HB10.out.size))
    have hbx := bytes_jeB hXok
    clear ho11 hb11 g10 e10 y10 z10 HP10 HO10 HB10 a0 a1 a2 a3 a4
    go_wp2_with fail
    go_at_call 39
    refine (Same_any pa ta 13 13 pc tc _ _ (jeB X) (jeB X) _ (jeB_len X) (jeB_len X) HP11.out HT11.out hbx hbx).mono ?_
    rintro z w12 ⟨rfl, j12, rfl⟩
    rw [decide_eq_true (rfl : jeB X = jeB X)]
    have hdr : Below w11.heap.size w11 (w11.drewN j12) := ⟨rfl, rfl, rfl, Nat.le_refl _, fun _ _ => rfl⟩
    have e12 := box_below e11 hdr (box_lt e11)
    have y12 := box_below y11 hdr (box_lt y11)
    have z12 := box_below z11 hdr (box_lt z11)
    have HO12 := Lib.hid (own_below HO11.out hdr (Nat.le_refl _))
    have HB12 := Lib.hid (HB11.out.trans (hdr.mono HB11.out.size))
    obtain ⟨w12, hw12⟩ : ∃ w12, w12 = w11.drewN j12 := ⟨_, rfl⟩
    rw [← hw12] at e12 y12 z12 HO12 HB12 ⊢
    clear hw12 hdr g11 e11 y11 z11 HT11 HP11 HO11 HB11 hbx
    have a0 := cell_of_row _ _ 0 _ _ _ e12
    have a1 := cell_of_row _ _ 1 _ _ _ e12
    have a2 := cell_of_row _ _ 2 _ _ _ e12
    have a3 := cell_of_row _ _ 3 _ _ _ e12
    have a4 := cell_of_row _ _ 4 _ _ _ e12
    have b0 := cell_of_row _ _ 0 _ _ _ y12
    have b1 := cell_of_row _ _ 1 _ _ _ y12
    have b2 := cell_of_row _ _ 2 _ _ _ y12
    have b3 := cell_of_row _ _ 3 _ _ _ y12
    have b4 := cell_of_row _ _ 4 _ _ _ y12
    clear e12 y12
    go_upto_region 16 with fail
    clear a0 a1 a2 a3 a4 b0 b1 b2 b3 b4
    have a0 := cell_of_row _ _ 0 _ _ _ z12
    have a1 := cell_of_row _ _ 1 _ _ _ z12
    have a2 := cell_of_row _ _ 2 _ _ _ z12
    have a3 := cell_of_row _ _ 3 _ _ _ z12
    have a4 := cell_of_row _ _ 4 _ _ _ z12
    clear z12
    go_wp2_with fail
    go_at_call 69
    refine (jReport Z _ hzo).mono ?_
    rintro z w13 ⟨v, rfl, ho13, hb13⟩
    obtain ⟨qa, qc, rfl⟩ := own_form ho13
    rw [hzs]
    have HQ13 := Lib.hid (rd_bytes ho13 (jeB_len Z))
    have HR13 := Lib.hid (rd_bytes (own_below HO12.out hb13 (Nat.le_refl _)) HRN.out.1)
    have HB13 := Lib.hid (HB12.out.trans (hb13.mono HB12.out.size))
    have hbz := bytes_jeB hzo
    clear ho13 hb13 HO12 HB12 a0 a1 a2 a3 a4
    go_wp2_with fail
    go_at_call 39
    refine (Same_any qa ra 13 13 qc rc _ _ (jeB Z) R _ (jeB_len Z) HRN.out.1 HQ13.out HR13.out hbz HRN.out.2).mono ?_
    rintro z w14 ⟨rfl, j14, rfl⟩
    rw [decide_eq_true HZB.out]
    go_wp2
    go_ret
    exact ⟨rfl, HB13.out.trans (show Below _ w13 (w13.drewN j14) from ⟨rfl, rfl, rfl, Nat.le_refl _, fun _ _ => rfl⟩)⟩
  · have her : er = 2 := by rw [HER.out]; unfold jpErr; rw [if_neg (by omega), if_neg h13]
    have hze : Z = en0 := by rw [HZ.out]; unfold jpOf; rw [← HER.out, her, if_neg (by decide)]
    have hni : ((n : Int) == 13) = false := by rw [beq_eq_false_iff_ne]; omega
    subst her hze
    skip
    go_wp2_with fail
    go_at_call 71
    refine (rText X _ hXok).mono ?_
    rintro z w11 ⟨v11, rfl, ho11, hb11⟩
    obtain ⟨ta, tc, rfl⟩ := own_form ho11
    have g11 := box_below g10 hb11 (box_lt g10)
    have e11 := box_below e10 hb11 (box_lt e10)
    have y11 := box_below y10 hb11 (box_lt y10)
    have z11 := box_below z10 hb11 (box_lt z10)
    have HT11 := Lib.hid (rd_bytes ho11 (jeB_len X))
    have HP11 := Lib.hid ((HP10.out.below hb11).mono hb11.size)
    have HO11 := Lib.hid (own_below HO10.out hb11 (Nat.le_refl _))
    have HB11 := Lib.hid (HB10.out.trans (hb11.mono HB10.out.size))
    have hbx := bytes_jeB hXok
    clear ho11 hb11 g10 e10 y10 z10 HP10 HO10 HB10 a0 a1 a2 a3 a4
    go_wp2_with fail
    go_at_call 39
    refine (Same_any pa ta 13 13 pc tc _ _ (jeB X) (jeB X) _ (jeB_len X) (jeB_len X) HP11.out HT11.out hbx hbx).mono ?_
    rintro z w12 ⟨rfl, j12, rfl⟩
    rw [decide_eq_true (rfl : jeB X = jeB X)]
    have hdr : Below w11.heap.size w11 (w11.drewN j12) := ⟨rfl, rfl, rfl, Nat.le_refl _, fun _ _ => rfl⟩
    have e12 := box_below e11 hdr (box_lt e11)
    have y12 := box_below y11 hdr (box_lt y11)
    have z12 := box_below z11 hdr (box_lt z11)
    have HO12 := Lib.hid (own_below HO11.out hdr (Nat.le_refl _))
    have HB12 := Lib.hid (HB11.out.trans (hdr.mono HB11.out.size))
    obtain ⟨w12, hw12⟩ : ∃ w12, w12 = w11.drewN j12 := ⟨_, rfl⟩
    rw [← hw12] at e12 y12 z12 HO12 HB12 ⊢
    clear hw12 hdr g11 e11 y11 z11 HT11 HP11 HO11 HB11 hbx
    have a0 := cell_of_row _ _ 0 _ _ _ e12
    have a1 := cell_of_row _ _ 1 _ _ _ e12
    have a2 := cell_of_row _ _ 2 _ _ _ e12
    have a3 := cell_of_row _ _ 3 _ _ _ e12
    have a4 := cell_of_row _ _ 4 _ _ _ e12
    have b0 := cell_of_row _ _ 0 _ _ _ y12
    have b1 := cell_of_row _ _ 1 _ _ _ y12
    have b2 := cell_of_row _ _ 2 _ _ _ y12
    have b3 := cell_of_row _ _ 3 _ _ _ y12
    have b4 := cell_of_row _ _ 4 _ _ _ y12
    clear e12 y12
    go_upto_region 16 with fail
    clear a0 a1 a2 a3 a4 b0 b1 b2 b3 b4
    skip
    have a0 := cell_of_row _ _ 0 _ _ _ z12
    have a1 := cell_of_row _ _ 1 _ _ _ z12
    have a2 := cell_of_row _ _ 2 _ _ _ z12
    have a3 := cell_of_row _ _ 3 _ _ _ z12
    have a4 := cell_of_row _ _ 4 _ _ _ z12
    clear z12
    go_wp2
    go_ret
    exact ⟨rfl, HB12.out⟩
end Go.Proofs.Ytkgeeohgfbacaaa.Je
namespace Go.Proofs.Ytkgeeohgfbacaaa
open Go.RowKit Go.Own
set_option linter.unusedVariables false
set_option linter.unusedSimpArgs false
theorem walk_JournalReports (n0_0 n0_1 n0_2 n0_3 n0_4 : Int) (a1 : Int) (a2 : Option Addr) (len2 cap2 : Nat) (z2 : List Int) (w : World) (w0_0 : (Lit.int .u32 n0_0).wf = true) (w0_1 : (Lit.int .u32 n0_1).wf = true) (w0_2 : (Lit.int .u8 n0_2).wf = true) (w0_3 : (Lit.int .u8 n0_3).wf = true) (w0_4 : (Lit.int .u32 n0_4).wf = true) (w1 : (Lit.int .u8 a1).wf = true) (w2 : IsRow .u8 w a2 len2 cap2 z2) :
    Calls Try.prog 10 #[.agg #[.int .u32 n0_0, .int .u32 n0_1, .int .u8 n0_2, .int .u8 n0_3, .int .u32 n0_4], .int .u8 a1, .slice a2 len2 cap2] w fun e w' => e = .returned (.bool true) ∧ Below w.heap.size w w' := by
  obtain ⟨p0, q0⟩ := bounds_u32 w0_0
  obtain ⟨p1, q1⟩ := bounds_u32 w0_1
  obtain ⟨p2, q2⟩ := bounds_u8 w0_2
  obtain ⟨p3, q3⟩ := bounds_u8 w0_3
  obtain ⟨p4, q4⟩ := bounds_u32 w0_4
  obtain ⟨p5, q5⟩ := bounds_u8 w1
  obtain ⟨l, h1, h2, h3⟩ := isRow_rd w2
  obtain ⟨q, rfl⟩ : ∃ m : Nat, n0_0 = m := ⟨n0_0.toNat, by omega⟩
  obtain ⟨t, rfl⟩ : ∃ m : Nat, n0_1 = m := ⟨n0_1.toNat, by omega⟩
  obtain ⟨e, rfl⟩ : ∃ m : Nat, n0_2 = m := ⟨n0_2.toNat, by omega⟩
  obtain ⟨r, rfl⟩ : ∃ m : Nat, n0_3 = m := ⟨n0_3.toNat, by omega⟩
  obtain ⟨d, rfl⟩ : ∃ m : Nat, n0_4 = m := ⟨n0_4.toNat, by omega⟩
  obtain ⟨sb, rfl⟩ : ∃ m : Nat, a1 = m := ⟨a1.toNat, by omega⟩
  exact Je.walkR q t e r d sb a2 len2 cap2 l w (by omega) (by omega) (by omega) (by omega) (by omega) (by omega) h1 h2 h3
end Go.Proofs.Ytkgeeohgfbacaaa
