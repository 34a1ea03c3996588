/- Layer 15: forms. -/
import Derived.Test.YtbomkneajmgckaaCk2
import Derived.Test.YtbomkneajmgckaaCk4
import Derived.Test.YtbomkneajmgckaaLaw05
namespace Go.Proofs.Ytbomkneajmgckaa
open Go.RowKit Go.Own
set_option linter.unusedVariables false
set_option linter.unusedSimpArgs false
theorem dfB_bytes {k p : Nat} (lu hu m n : Nat) (hk : k < 256) (hp : p < 256) : bytes (dfB k p lu hu m n) := by
  unfold dfB
  refine (((bytes.append ?_ (numB_bytes _ _)).append (numB_bytes _ _)).append (numB_bytes _ _)).append (numB_bytes _ _)
  intro b hb
  have : b = k ∨ b = p := by simpa using hb
  omega
theorem dParse_any (a : Option Addr) (len cap n : Nat) (q : List Nat) (w : World) (hl : q.length = len) (hn : n ≤ w.heap.size) (hr : Rd n w a len cap (bv q)) (hb : bytes q) (hm : len ≤ 1000000) (k p l h er : Int) (m o : Nat) (hp : dfParse q = (Df.mk k p l h m o, er)) :
    Calls Try.prog 53 #[.slice a len cap] w fun e w' => e = .returned (.tuple #[.agg #[.int .u8 k, .int .i64 p, .int .i32 l, .int .i32 h, .int .u32 ((m : Nat) : Int), .int .u32 ((o : Nat) : Int)], .int .i64 er]) ∧ Below w.heap.size w w' := by
  by_cases h18 : len = 18
  · subst h18
    exact dParse_18 a cap n q w hl hn hr hb k p l h er m o hp
  · rw [dfParse, if_neg (by omega)] at hp
    obtain ⟨h6, h7⟩ := Prod.mk.inj hp
    obtain ⟨rfl, rfl, rfl, rfl, rfl, rfl⟩ := Df.mk.inj h6
    subst h7
    exact dParse_len a len cap n q w hl hn hr hb hm h18
theorem rdParse_any (a : Option Addr) (len cap n : Nat) (q : List Nat) (w : World) (hl : q.length = len) (hn : n ≤ w.heap.size) (hr : Rd n w a len cap (bv q)) (hb : bytes q) (hm : len ≤ 1000000) (k p l h er : Int) (m o : Nat) (hp : dfParse q = (Df.mk k p l h m o, er)) :
    Calls Try.prog 54 #[.slice a len cap] w fun e w' => e = .returned (.tuple #[.agg #[.int .u8 k, .int .i64 p, .int .i32 l, .int .i32 h, .int .u32 ((m : Nat) : Int), .int .u32 ((o : Nat) : Int)], .int .i64 er]) ∧ Below w.heap.size w w' := by
  by_cases h18 : len = 18
  · subst h18
    exact rdParse_18 a cap n q w hl hn hr hb k p l h er m o hp
  · rw [dfParse, if_neg (by omega)] at hp
    obtain ⟨h6, h7⟩ := Prod.mk.inj hp
    obtain ⟨rfl, rfl, rfl, rfl, rfl, rfl⟩ := Df.mk.inj h6
    subst h7
    exact rdParse_len a len cap w hr.le hr.top h18
/-- Three rows of bytes. -/
structure Tri (w : World) (A : Nat → Option Addr) (L C : Nat → Nat) (Q : Nat → List Nat) : Prop where
  rd : ∀ i, i < 3 → Rd w.heap.size w (A i) (L i) (C i) (bv (Q i))
  len : ∀ i, i < 3 → (Q i).length = L i
  by_ : ∀ i, i < 3 → bytes (Q i)
  mx : ∀ i, i < 3 → L i ≤ 1000000
def t3 {α : Type} (a b c : α) : Nat → α := fun i => if i = 0 then a else if i = 1 then b else c
theorem al3 {p : Nat → Prop} (h0 : p 0) (h1 : p 1) (h2 : p 2) : ∀ i, i < 3 → p i := fun i hi => by
  have : i = 0 ∨ i = 1 ∨ i = 2 := by omega
  rcases this with rfl | rfl | rfl
  · exact h0
  · exact h1
  · exact h2
/- the loop over the three: HT: Tri at wz, HBZ: Below to wz -/
set_option maxRecDepth 100000 in
set_option maxHeartbeats 8000000 in
theorem walk_CheckForms (n0_0 n0_1 n0_2 n0_3 n0_4 n0_5 : Int) (a1 : Option Addr) (len1 cap1 : Nat) (z1 : List Int) (x2 x3 : Int) (w : World) (w0_0 : (Lit.int .u8 n0_0).wf = true) (w0_1 : (Lit.int .i64 n0_1).wf = true) (w0_2 : (Lit.int .i32 n0_2).wf = true) (w0_3 : (Lit.int .i32 n0_3).wf = true) (w0_4 : (Lit.int .u32 n0_4).wf = true) (w0_5 : (Lit.int .u32 n0_5).wf = true)
    (w1 : IsRow .u8 w a1 len1 cap1 z1) (w2 : (Lit.int .u8 x2).wf = true) (w3 : (Lit.int .u8 x3).wf = true) :
    Calls Try.prog 8 #[.agg #[.int .u8 n0_0, .int .i64 n0_1, .int .i32 n0_2, .int .i32 n0_3, .int .u32 n0_4, .int .u32 n0_5], .slice a1 len1 cap1, .int .u8 x2, .int .u8 x3] w fun e w' => e = .returned (.bool true) ∧ Below w.heap.size w w' := by
  have b0 := bounds_u8 w0_0
  have b1 := bounds_i64 w0_1
  have b2 := bounds_i32 w0_2
  have b3 := bounds_i32 w0_3
  have b4 := bounds_u32 w0_4
  have b5 := bounds_u32 w0_5
  have c2 := bounds_u8 w2
  have c3 := bounds_u8 w3
  obtain ⟨lr, hl0, hbr, hr0⟩ := isRow_rd w1
  have HR0 := Lib.hid hr0
  have HL0 := Lib.hid hl0
  have h1 := hr0.le
  have h2 := hr0.top
  unfold maxLen at h2
  have HBR := Lib.hid (hbr.take 24)
  have HRL := Lib.hid (show (lr.take 24).length = min 24 len1 by rw [List.length_take, hl0])
  clear w0_0 w0_1 w0_2 w0_3 w0_4 w0_5 w1 w2 w3 hr0 hl0 hbr
  obtain ⟨m, rfl⟩ := Int.eq_ofNat_of_zero_le b4.1
  obtain ⟨n, rfl⟩ := Int.eq_ofNat_of_zero_le b5.1
  cases hr : (Df.mk n0_0 n0_1 n0_2 n0_3 m n).right
  · skip
    have HOK := Lib.hid (Df.ok.mk (d := Df.mk n0_0 n0_1 n0_2 n0_3 m n) b0.1 b0.2 b1.1 b1.2 b2.1 b2.2 b3.1 b3.2 (by show m < _; omega) (by show n < _; omega))
    go_enter Try.func8, Try.ntmps8
    go_wp2_with fail
    go_at_call 43
    refine (awake15 _).mono ?_
    rintro e wb ⟨rfl, hb1⟩
    have g0 := box_below (heap_alloc_new w (.cells #[.int .u8 n0_0, .int .i64 n0_1, .int .i32 n0_2, .int .i32 n0_3, .int .u32 ((m : Nat) : Int), .int .u32 ((n : Nat) : Int)] 92)) hb1 (by simp)
    have hb2 := ((Below.refl w.heap.size w).alloc (Nat.le_refl _) (.cells #[.int .u8 n0_0, .int .i64 n0_1, .int .i32 n0_2, .int .i32 n0_3, .int .u32 ((m : Nat) : Int), .int .u32 ((n : Nat) : Int)] 92)).trans (hb1.mono (by simp))
    have hrw := HR0.out.below' hb2 (Nat.le_refl _)
    obtain ⟨g, hg⟩ : ∃ g, g = w.heap.size := ⟨_, rfl⟩
    rw [← hg] at g0 ⊢
    have HG := Lib.hid hg
    clear hg hb1
    go_wp2_with fail
    go_at_call 17
    refine (Cut_any a1 len1 cap1 lr 24 _ HL0.out (hrw.mono hb2.size) (by decide)).mono ?_
    rintro e wc ⟨v, rfl, hown, hbc⟩
    obtain ⟨ra, rc, rfl⟩ := own_form hown
    have g1 := box_below g0 hbc (box_lt g0)
    have HRA := Lib.hid (rd_of_own (f := bv (lr.take 24)) hown (fun j hj => bl_at _ (by rw [List.length_take, HL0.out]; exact hj)))
    have HB2 := Lib.hid (hb2.trans (hbc.mono hb2.size))
    obtain ⟨rl, hrl⟩ : ∃ rl, rl = min 24 len1 := ⟨_, rfl⟩
    rw [← hrl] at HRA HRL
    rw [← hrl]
    have hrl2 : rl ≤ 24 := by omega
    clear hown hbc hb2 g0 hrw hrl
    have a0 := cell_of_row _ _ 0 _ _ _ g1
    have a1 := cell_of_row _ _ 1 _ _ _ g1
    have a2 := cell_of_row _ _ 2 _ _ _ g1
    have a3 := cell_of_row _ _ 3 _ _ _ g1
    have a4 := cell_of_row _ _ 4 _ _ _ g1
    have a5 := cell_of_row _ _ 5 _ _ _ g1
    go_wp2_with fail
    go_at_call 50
    refine (dBytes_no n0_0 n0_1 n0_2 n0_3 m n _ hr).mono ?_
    rintro e wd ⟨rfl, hbd⟩
    have g2 := box_below g1 hbd (box_lt g1)
    have HRA2 := Lib.hid (rd_grow HRA.out hbd)
    have HB3 := Lib.hid (HB2.out.trans (hbd.mono HB2.out.size))
    clear a0 a1 a2 a3 a4 a5 g1 hbd HRA HB2
    have a0 := cell_of_row _ _ 0 _ _ _ g2
    have a1 := cell_of_row _ _ 1 _ _ _ g2
    have a2 := cell_of_row _ _ 2 _ _ _ g2
    have a3 := cell_of_row _ _ 3 _ _ _ g2
    have a4 := cell_of_row _ _ 4 _ _ _ g2
    have a5 := cell_of_row _ _ 5 _ _ _ g2
    go_wp2_with fail
    go_at_call 45
    refine (rRightD n0_0 n0_1 n0_2 n0_3 m n false _ hr).mono ?_
    rintro e we ⟨rfl, hbe⟩
    have HRA3 := Lib.hid (rd_grow HRA2.out hbe)
    have HB4 := Lib.hid (HB3.out.trans (hbe.mono HB3.out.size))
    clear a0 a1 a2 a3 a4 a5 g2 hbe HRA2 HB3
    go_wp2_with fail
    go_at_call 52
    have hb6 : Below we.heap.size we (we.alloc (.cells #[.slice none 0 0] 34)) := (Below.refl _ _).alloc (Nat.le_refl _) _
    refine (Join1 (l := []) (m := 0) (n := 0) rfl (heap_alloc_new _ _) (Rd.none_ _ _ _) (Nat.zero_le _) (by simp)).mono ?_
    rintro e wz ⟨vq, rfl, hown, hb7⟩
    have hb8 := hb6.trans (hb7.mono hb6.size)
    obtain ⟨ja, jc, rfl⟩ := own_form hown
    have HRA4 := Lib.hid (rd_grow HRA3.out hb8)
    have HBZ := Lib.hid (HB4.out.trans (hb8.mono HB4.out.size))
    have HJ := Lib.hid (rd_of_own (f := bv []) hown (fun j hj => bl_at [] hj))
    clear hown hb6 hb7 hb8 HRA3 HB4
    have HT := Lib.hid (show Tri wz (t3 none ja ra) (t3 0 0 rl) (t3 0 jc rc) (t3 [] [] (lr.take 24)) from
      ⟨al3 (Rd.none_ _ _ _) HJ.out HRA4.out, al3 rfl rfl HRL.out, al3 (fun b hb => (by cases hb)) (fun b hb => (by cases hb)) HBR.out, al3 (show 0 ≤ 1000000 by decide) (show 0 ≤ 1000000 by decide) (show rl ≤ 1000000 by omega)⟩)
    clear HJ HRA4 HRL HBR
    skip
    go_wp2_with fail
    skip
    have hgS := heap_alloc_new wz (.cells #[.slice none 0 0, .slice ja 0 jc, .slice ra rl rc] 34)
    have hba : Below wz.heap.size wz (wz.alloc (.cells #[.slice none 0 0, .slice ja 0 jc, .slice ra rl rc] 34)) := (Below.refl _ _).alloc (Nat.le_refl _) _
    have HZ := Lib.hid (HBZ.out.trans (hba.mono HBZ.out.size))
    have HT2 := Lib.hid (Tri.mk (fun i hi => rd_grow (HT.out.rd i hi) hba) HT.out.len HT.out.by_ HT.out.mx)
    obtain ⟨gS, hgs⟩ : ∃ g, g = wz.heap.size := ⟨_, rfl⟩
    obtain ⟨ws, hws⟩ : ∃ ws, ws = (wz.alloc (.cells #[.slice none 0 0, .slice ja 0 jc, .slice ra rl rc] 34)) := ⟨_, rfl⟩
    rw [← hgs, ← hws] at hgS
    rw [← hws] at HZ HT2
    rw [← hws, ← hgs]
    have hS := (show ∀ i, i < 3 → ws.cell? ⟨gS, i, none⟩ = some (.slice (t3 none ja ra i) (t3 0 0 rl i) (t3 0 jc rc i)) from al3 (cell_of_row _ _ 0 _ _ _ hgS) (cell_of_row _ _ 1 _ _ _ hgS) (cell_of_row _ _ 2 _ _ _ hgS))
    obtain ⟨A, hA⟩ : ∃ A : Nat → Option Addr, A = t3 none ja ra := ⟨_, rfl⟩
    obtain ⟨L, hL⟩ : ∃ A : Nat → Nat, A = t3 0 0 rl := ⟨_, rfl⟩
    obtain ⟨C, hC⟩ : ∃ A : Nat → Nat, A = t3 0 jc rc := ⟨_, rfl⟩
    obtain ⟨Q, hQ⟩ : ∃ A : Nat → List Nat, A = t3 [] [] (lr.take 24) := ⟨_, rfl⟩
    rw [← hA, ← hL, ← hC] at hS
    rw [← hA, ← hL, ← hC, ← hQ] at HT2
    have HS := Lib.hid hS
    clear hA hL hC hQ hS
    have hgl := box_lt hgS
    clear hws hgs hba hgS HT HBZ
    go_loopw [60] (fun i wr => ∃ j : Nat, j ≤ 3 ∧ i = .int .i64 (j : Nat) ∧ Below ws.heap.size ws wr) (fun i _ => 3 - (intOf i).toNat)
    case atStart => exact ⟨0, by omega, rfl, Below.refl _ _⟩
    case round =>
      obtain ⟨j, hj, rfl, hB⟩ := hrel
      by_cases hlt : j < 3
      · have hc := (hB.cell (p := ⟨gS, j, none⟩) hgl).trans (HS.out j hlt)
        have hrd0 := HT2.out.rd j hlt
        obtain ⟨qa, hqa⟩ : ∃ a, a = A j := ⟨_, rfl⟩
        obtain ⟨ql, hql⟩ : ∃ a, a = L j := ⟨_, rfl⟩
        obtain ⟨qc, hqc⟩ : ∃ a, a = C j := ⟨_, rfl⟩
        obtain ⟨q, hq⟩ : ∃ a, a = Q j := ⟨_, rfl⟩
        have hlen := HT2.out.len j hlt
        have hby := HT2.out.by_ j hlt
        have hmx := HT2.out.mx j hlt
        rw [← hqa, ← hql, ← hqc] at hc
        rw [← hqa, ← hql, ← hqc, ← hq] at hrd0
        have hrd := hrd0.below hB
        rw [← hq, ← hql] at hlen
        rw [← hq] at hby
        rw [← hql] at hmx
        clear hqa hql hqc hq
        obtain ⟨dk, dp, dl, dh, dm, dn, er, hpar⟩ : ∃ dk dp dl dh dm dn er, dfParse q = (Df.mk dk dp dl dh dm dn, er) := ⟨_, _, _, _, _, _, _, rfl⟩
        have hd1 := dParse_any qa ql qc ws.heap.size q wr hlen hB.size hrd hby hmx dk dp dl dh er dm dn hpar
        have HD1 := Lib.hid hd1
        have HQ := Lib.hid (And.intro hlen (And.intro hby (And.intro hmx hpar)))
        have HRD0 := Lib.hid hrd0
        have HB := Lib.hid hB
        clear hd1 hlen hby hmx hpar hrd hrd0 hB
        go_wp2_with fail
        go_at_call 53
        refine HD1.out.mono ?_
        rintro e w2 ⟨rfl, hb2⟩
        have g2 := heap_alloc_new w2 (.cells #[.int .u8 dk, .int .i64 dp, .int .i32 dl, .int .i32 dh, .int .u32 ((dm : Nat) : Int), .int .u32 ((dn : Nat) : Int)] 92)
        have hba : Below w2.heap.size w2 (w2.alloc (.cells #[.int .u8 dk, .int .i64 dp, .int .i32 dl, .int .i32 dh, .int .u32 ((dm : Nat) : Int), .int .u32 ((dn : Nat) : Int)] 92)) := (Below.refl _ _).alloc (Nat.le_refl _) _
        have hb3 := HB.out.trans ((hb2.trans (hba.mono hb2.size)).mono HB.out.size)
        have HB3 := Lib.hid hb3
        have HRD2 := Lib.hid HRD0.out
        clear HD1 HB HRD0 hb2 hb3 hba hc
        go_wp2_with fail
        obtain ⟨g4, hg4⟩ : ∃ g, g = w2.heap.size := ⟨_, rfl⟩
        obtain ⟨w3, hw3⟩ : ∃ w3, w3 = w2.alloc (.cells #[.int .u8 dk, .int .i64 dp, .int .i32 dl, .int .i32 dh, .int .u32 ((dm : Nat) : Int), .int .u32 ((dn : Nat) : Int)] 92) := ⟨_, rfl⟩
        rw [← hw3, ← hg4] at g2
        rw [← hw3] at HB3
        rw [← hw3, ← hg4]
        clear hw3 hg4
        go_at_call 54
        have hd2 := rdParse_any qa ql qc ws.heap.size q w3 HQ.out.1 HB3.out.size (HRD2.out.below HB3.out) HQ.out.2.1 HQ.out.2.2.1 dk dp dl dh er dm dn HQ.out.2.2.2
        refine hd2.mono ?_
        clear hd2
        rintro e w4 ⟨rfl, hb4⟩
        have g5 := box_below g2 hb4 (box_lt g2)
        have g6 := box_below g5 ((Below.refl w4.heap.size w4).alloc (Nat.le_refl _) (.cells #[.int .u8 dk, .int .i64 dp, .int .i32 dl, .int .i32 dh, .int .u32 ((dm : Nat) : Int), .int .u32 ((dn : Nat) : Int)] 93)) (box_lt g5)
        have hba : Below w4.heap.size w4 (w4.alloc (.cells #[.int .u8 dk, .int .i64 dp, .int .i32 dl, .int .i32 dh, .int .u32 ((dm : Nat) : Int), .int .u32 ((dn : Nat) : Int)] 93)) := (Below.refl _ _).alloc (Nat.le_refl _) _
        have HB5 := Lib.hid (HB3.out.trans ((hb4.trans (hba.mono hb4.size)).mono HB3.out.size))
        have a0 := cell_of_row _ _ 0 _ _ _ g6
        have a1 := cell_of_row _ _ 1 _ _ _ g6
        have a2 := cell_of_row _ _ 2 _ _ _ g6
        have a3 := cell_of_row _ _ 3 _ _ _ g6
        have a4 := cell_of_row _ _ 4 _ _ _ g6
        have a5 := cell_of_row _ _ 5 _ _ _ g6
        clear HB3 HRD2 hb4 hba g2 g5 HQ
        go_wp2_with fail
        skip
        go_roundw
        case rel => exact ⟨j + 1, by omega, by go_num, HB5.out⟩
        case measure => simp [intOf]; omega
      · obtain rfl : j = 3 := by omega
        have HB := Lib.hid hB
        clear hB
        go_wp2
        go_ret
        exact ⟨rfl, HZ.out.trans (HB.out.mono HZ.out.size)⟩
  · have hkp : 0 ≤ n0_1 ∧ n0_1 < 16 ∧ n0_0 ≤ 2 := by
      simp only [Df.right, Bool.and_eq_true, decide_eq_true_eq] at hr
      omega
    obtain ⟨k, rfl⟩ := Int.eq_ofNat_of_zero_le b0.1
    obtain ⟨p, rfl⟩ := Int.eq_ofNat_of_zero_le hkp.1
    have hk : k < 256 := by omega
    have hp : p < 256 := by omega
    have hm : m < 4294967296 := by omega
    have hn : n < 4294967296 := by omega
    have hlu := u32_int n0_2
    have hhu := u32_int n0_3
    obtain ⟨lu, hlu2⟩ : ∃ x, x = u32 n0_2 := ⟨_, rfl⟩
    obtain ⟨hu, hhu2⟩ : ∃ x, x = u32 n0_3 := ⟨_, rfl⟩
    rw [← hlu2] at hlu
    rw [← hhu2] at hhu
    obtain ⟨P, hP⟩ : ∃ P, P = dfB k p lu hu m n := ⟨_, rfl⟩
    have HPL := Lib.hid (show P.length = 18 by rw [hP]; exact dfB_len _ _ _ _ _ _)
    have HPB := Lib.hid (show bytes P by rw [hP]; exact dfB_bytes _ _ _ _ hk hp)
    have HBY1 := Lib.hid (fun w => dBytes_yes k p n0_2 n0_3 lu hu m n w hk hp hlu hhu hm hn hr)
    have HBY2 := Lib.hid (fun w => rdBytes_any k p n0_2 n0_3 lu hu m n w hk hp hlu hhu hm hn)
    rw [← hP] at HBY1 HBY2
    clear hlu hhu hlu2 hhu2 hP hkp hk hp hm hn
    skip
    have HOK := Lib.hid (Df.ok.mk (d := Df.mk (k : Int) (p : Int) n0_2 n0_3 m n) b0.1 b0.2 b1.1 b1.2 b2.1 b2.2 b3.1 b3.2 (by show m < _; omega) (by show n < _; omega))
    go_enter Try.func8, Try.ntmps8
    go_wp2_with fail
    go_at_call 43
    refine (awake15 _).mono ?_
    rintro e wb ⟨rfl, hb1⟩
    have g0 := box_below (heap_alloc_new w (.cells #[.int .u8 (k : Int), .int .i64 (p : Int), .int .i32 n0_2, .int .i32 n0_3, .int .u32 ((m : Nat) : Int), .int .u32 ((n : Nat) : Int)] 92)) hb1 (by simp)
    have hb2 := ((Below.refl w.heap.size w).alloc (Nat.le_refl _) (.cells #[.int .u8 (k : Int), .int .i64 (p : Int), .int .i32 n0_2, .int .i32 n0_3, .int .u32 ((m : Nat) : Int), .int .u32 ((n : Nat) : Int)] 92)).trans (hb1.mono (by simp))
    have hrw := HR0.out.below' hb2 (Nat.le_refl _)
    obtain ⟨g, hg⟩ : ∃ g, g = w.heap.size := ⟨_, rfl⟩
    rw [← hg] at g0 ⊢
    have HG := Lib.hid hg
    clear hg hb1
    go_wp2_with fail
    go_at_call 17
    refine (Cut_any a1 len1 cap1 lr 24 _ HL0.out (hrw.mono hb2.size) (by decide)).mono ?_
    rintro e wc ⟨v, rfl, hown, hbc⟩
    obtain ⟨ra, rc, rfl⟩ := own_form hown
    have g1 := box_below g0 hbc (box_lt g0)
    have HRA := Lib.hid (rd_of_own (f := bv (lr.take 24)) hown (fun j hj => bl_at _ (by rw [List.length_take, HL0.out]; exact hj)))
    have HB2 := Lib.hid (hb2.trans (hbc.mono hb2.size))
    obtain ⟨rl, hrl⟩ : ∃ rl, rl = min 24 len1 := ⟨_, rfl⟩
    rw [← hrl] at HRA HRL
    rw [← hrl]
    have hrl2 : rl ≤ 24 := by omega
    clear hown hbc hb2 g0 hrw hrl
    have a0 := cell_of_row _ _ 0 _ _ _ g1
    have a1 := cell_of_row _ _ 1 _ _ _ g1
    have a2 := cell_of_row _ _ 2 _ _ _ g1
    have a3 := cell_of_row _ _ 3 _ _ _ g1
    have a4 := cell_of_row _ _ 4 _ _ _ g1
    have a5 := cell_of_row _ _ 5 _ _ _ g1
    go_wp2_with fail
    go_at_call 50
    refine (HBY1.out _).mono ?_
    rintro e wd ⟨v, rfl, hown, hbd⟩
    obtain ⟨pa, pc, rfl⟩ := own_form hown
    have g2 := box_below g1 hbd (box_lt g1)
    have HRA2 := Lib.hid (rd_grow HRA.out hbd)
    have HPR := Lib.hid (rd_of_own (f := bv P) hown (fun j hj => bl_at P (by rw [HPL.out]; exact hj)))
    have HB3 := Lib.hid (HB2.out.trans (hbd.mono HB2.out.size))
    clear a0 a1 a2 a3 a4 a5 g1 hbd HRA HB2 hown
    have a0 := cell_of_row _ _ 0 _ _ _ g2
    have a1 := cell_of_row _ _ 1 _ _ _ g2
    have a2 := cell_of_row _ _ 2 _ _ _ g2
    have a3 := cell_of_row _ _ 3 _ _ _ g2
    have a4 := cell_of_row _ _ 4 _ _ _ g2
    have a5 := cell_of_row _ _ 5 _ _ _ g2
    go_wp2_with fail
    go_at_call 45
    refine (rRightD k p n0_2 n0_3 m n true _ hr).mono ?_
    rintro e we ⟨rfl, hbe⟩
    have g3 := box_below g2 hbe (box_lt g2)
    have HRA3 := Lib.hid (rd_grow HRA2.out hbe)
    have HPR3 := Lib.hid (rd_grow HPR.out hbe)
    have HB4 := Lib.hid (HB3.out.trans (hbe.mono HB3.out.size))
    clear a0 a1 a2 a3 a4 a5 g2 hbe HRA2 HB3 HPR
    have a0 := cell_of_row _ _ 0 _ _ _ g3
    have a1 := cell_of_row _ _ 1 _ _ _ g3
    have a2 := cell_of_row _ _ 2 _ _ _ g3
    have a3 := cell_of_row _ _ 3 _ _ _ g3
    have a4 := cell_of_row _ _ 4 _ _ _ g3
    have a5 := cell_of_row _ _ 5 _ _ _ g3
    go_wp2_with fail
    go_at_call 51
    refine (HBY2.out _).mono ?_
    rintro e wf ⟨v, rfl, hown, hbf⟩
    obtain ⟨fa, fc, rfl⟩ := own_form hown
    have HFR := Lib.hid (rd_of_own (f := bv P) hown (fun j hj => bl_at P (by rw [HPL.out]; exact hj)))
    have HRA4 := Lib.hid (rd_grow HRA3.out hbf)
    have HPR4 := Lib.hid (rd_grow HPR3.out hbf)
    have HB5 := Lib.hid (HB4.out.trans (hbf.mono HB4.out.size))
    clear a0 a1 a2 a3 a4 a5 g3 hbf HRA3 HB4 HPR3 hown HBY1 HBY2
    go_wp2_with fail
    go_at_call 30
    refine (Same_any pa fa 18 18 pc fc _ _ P P _ HPL.out HPL.out HPR4.out HFR.out HPB.out HPB.out).mono ?_
    rintro e wg ⟨rfl, j0, rfl⟩
    rw [show decide (P = P) = true by simp]
    have hdr : Below wf.heap.size wf (wf.drewN j0) := ⟨rfl, rfl, rfl, Nat.le_refl _, fun _ _ => rfl⟩
    have HRA5 := Lib.hid (rd_grow HRA4.out hdr)
    have HPR5 := Lib.hid (rd_grow HPR4.out hdr)
    have HB6 := Lib.hid (HB5.out.trans (hdr.mono HB5.out.size))
    clear HRA4 HPR4 HB5 hdr HFR
    obtain ⟨wh, hwh⟩ : ∃ wh, wh = wf.drewN j0 := ⟨_, rfl⟩
    rw [← hwh] at HRA5 HPR5 HB6 ⊢
    clear hwh
    go_wp2_with fail
    go_at_call 52
    have hb6 : Below wh.heap.size wh (wh.alloc (.cells #[.slice pa 18 pc] 34)) := (Below.refl _ _).alloc (Nat.le_refl _) _
    refine (Join1 (l := P) (m := 18) HPL.out (heap_alloc_new _ _) (rd_grow HPR5.out hb6) (Nat.le_refl _) (by rw [HPL.out]; decide)).mono ?_
    rintro e wi ⟨vq, rfl, hown, hb7⟩
    have hb8 := hb6.trans (hb7.mono hb6.size)
    obtain ⟨gj, jc, rfl, hgj, hgjl⟩ := own_some hown (by rw [HPL.out]; decide)
    rw [HPL.out] at hown
    have hgw : wh.heap.size < gj := by simp at hgj; omega
    have HRA6 := Lib.hid (rd_grow HRA5.out hb8)
    have HPR6 := Lib.hid (rd_grow HPR5.out hb8)
    have HB7 := Lib.hid (HB6.out.trans (hb8.mono HB6.out.size))
    have HRW := Lib.hid (rd_grow HRA5.out hb8)
    obtain ⟨at', rfl⟩ := Int.eq_ofNat_of_zero_le c2.1
    obtain ⟨tn, rfl⟩ := Int.eq_ofNat_of_zero_le c3.1
    obtain ⟨i, hi⟩ : ∃ i, i = at' % 18 := ⟨_, rfl⟩
    have him : i < 18 := by omega
    have hcell := hown.cellAt i (by omega)
    have hfr := hown.frozenAt i
    rw [bl_at _ (by rw [HPL.out]; exact him)] at hcell
    unfold bv at hcell
    have hx := HPB.out.at i
    have hset := set_bl P i (P.getD i 0 ^^^ tn)
    obtain ⟨x, hx'⟩ : ∃ x, x = P.getD i 0 := ⟨_, rfl⟩
    rw [← hx'] at hcell hx hset
    have hxor : bits .xor .u8 (x : Int) (tn : Int) = ((x ^^^ tn : Nat) : Int) := xor8 x tn hx (by omega)
    have hxl : x ^^^ tn < 256 := Nat.xor_lt_two_pow (n := 8) hx (by omega)
    have hmod : (at' : Int) % 18 = (i : Int) := by omega
    obtain ⟨y, hy⟩ : ∃ y, y = x ^^^ tn := ⟨_, rfl⟩
    rw [← hy] at hset hxor hxl
    obtain ⟨P2, hP2⟩ : ∃ l2, l2 = P.set i y := ⟨_, rfl⟩
    have HP2B := Lib.hid (show bytes P2 by rw [hP2]; exact set_bytes HPB.out i hxl)
    have HP2L := Lib.hid (show P2.length = 18 by rw [hP2, List.length_set]; exact HPL.out)
    rw [← hP2] at hset
    have HO := Lib.hid hown
    have HSET := Lib.hid hset
    obtain ⟨hown7, hgrow7⟩ := hown.stored i (.int .u8 ((y : Nat) : Int))
    rw [hset] at hown7
    have hbz := hb8.setCell (p := ⟨gj, i, none⟩) (Nat.le_of_lt hgw) (.int .u8 ((y : Nat) : Int))
    obtain ⟨wz, hwz⟩ : ∃ wz, wz = wi.setCell ⟨gj, i, none⟩ (.int .u8 ((y : Nat) : Int)) := ⟨_, rfl⟩
    have HSZ := Lib.hid (show wi.heap.size = wz.heap.size by rw [hwz]; simp)
    have HWZ := Lib.hid hwz
    rw [← hwz] at hown7 hbz
    have hq1 := rd_grow HRA5.out hbz
    have hq2 := rd_grow HPR5.out hbz
    have hq3 := rd_of_own (f := bv P2) hown7 (fun j hj => bl_at P2 (by rw [HP2L.out]; exact hj))
    have HBZ := Lib.hid (HB6.out.trans (hbz.mono HB6.out.size))
    have HT := Lib.hid (show Tri wz (t3 pa (some ⟨gj, 0, none⟩) ra) (t3 18 18 rl) (t3 pc jc rc) (t3 P P2 (lr.take 24)) from
      ⟨al3 hq2 hq3 hq1, al3 HPL.out HP2L.out HRL.out, al3 HPB.out HP2B.out HBR.out, al3 (show 18 ≤ 1000000 by decide) (show 18 ≤ 1000000 by decide) (show rl ≤ 1000000 by omega)⟩)
    clear hown hset hx' hi hb6 hb7 hb8 hgj hP2 hy HRA5 HPR5 HB6 hq1 hq2 hq3 hown7 hgrow7 hbz HP2L HP2B HRA6 HPR6 HB7 HRW hwz
    rw [HPL.out]
    skip
    go_wp2_with fail
    rw [← HWZ.out, HSZ.out]
    clear HWZ HSZ hcell hfr hxor hmod hxl
    have hgS := heap_alloc_new wz (.cells #[.slice pa 18 pc, .slice (some ⟨gj, 0, none⟩) 18 jc, .slice ra rl rc] 34)
    have hba : Below wz.heap.size wz (wz.alloc (.cells #[.slice pa 18 pc, .slice (some ⟨gj, 0, none⟩) 18 jc, .slice ra rl rc] 34)) := (Below.refl _ _).alloc (Nat.le_refl _) _
    have HZ := Lib.hid (HBZ.out.trans (hba.mono HBZ.out.size))
    have HT2 := Lib.hid (Tri.mk (fun i hi => rd_grow (HT.out.rd i hi) hba) HT.out.len HT.out.by_ HT.out.mx)
    obtain ⟨gS, hgs⟩ : ∃ g, g = wz.heap.size := ⟨_, rfl⟩
    obtain ⟨ws, hws⟩ : ∃ ws, ws = (wz.alloc (.cells #[.slice pa 18 pc, .slice (some ⟨gj, 0, none⟩) 18 jc, .slice ra rl rc] 34)) := ⟨_, rfl⟩
    rw [← hgs, ← hws] at hgS
    rw [← hws] at HZ HT2
    rw [← hws, ← hgs]
    have hS := (show ∀ i, i < 3 → ws.cell? ⟨gS, i, none⟩ = some (.slice (t3 pa (some ⟨gj, 0, none⟩) ra i) (t3 18 18 rl i) (t3 pc jc rc i)) from al3 (cell_of_row _ _ 0 _ _ _ hgS) (cell_of_row _ _ 1 _ _ _ hgS) (cell_of_row _ _ 2 _ _ _ hgS))
    obtain ⟨A, hA⟩ : ∃ A : Nat → Option Addr, A = t3 pa (some ⟨gj, 0, none⟩) ra := ⟨_, rfl⟩
    obtain ⟨L, hL⟩ : ∃ A : Nat → Nat, A = t3 18 18 rl := ⟨_, rfl⟩
    obtain ⟨C, hC⟩ : ∃ A : Nat → Nat, A = t3 pc jc rc := ⟨_, rfl⟩
    obtain ⟨Q, hQ⟩ : ∃ A : Nat → List Nat, A = t3 P P2 (lr.take 24) := ⟨_, rfl⟩
    rw [← hA, ← hL, ← hC] at hS
    rw [← hA, ← hL, ← hC, ← hQ] at HT2
    have HS := Lib.hid hS
    clear hA hL hC hQ hS
    have hgl := box_lt hgS
    clear hws hgs hba hgS HT HBZ
    go_loopw [60] (fun i wr => ∃ j : Nat, j ≤ 3 ∧ i = .int .i64 (j : Nat) ∧ Below ws.heap.size ws wr) (fun i _ => 3 - (intOf i).toNat)
    case atStart => exact ⟨0, by omega, rfl, Below.refl _ _⟩
    case round =>
      obtain ⟨j, hj, rfl, hB⟩ := hrel
      by_cases hlt : j < 3
      · have hc := (hB.cell (p := ⟨gS, j, none⟩) hgl).trans (HS.out j hlt)
        have hrd0 := HT2.out.rd j hlt
        obtain ⟨qa, hqa⟩ : ∃ a, a = A j := ⟨_, rfl⟩
        obtain ⟨ql, hql⟩ : ∃ a, a = L j := ⟨_, rfl⟩
        obtain ⟨qc, hqc⟩ : ∃ a, a = C j := ⟨_, rfl⟩
        obtain ⟨q, hq⟩ : ∃ a, a = Q j := ⟨_, rfl⟩
        have hlen := HT2.out.len j hlt
        have hby := HT2.out.by_ j hlt
        have hmx := HT2.out.mx j hlt
        rw [← hqa, ← hql, ← hqc] at hc
        rw [← hqa, ← hql, ← hqc, ← hq] at hrd0
        have hrd := hrd0.below hB
        rw [← hq, ← hql] at hlen
        rw [← hq] at hby
        rw [← hql] at hmx
        clear hqa hql hqc hq
        obtain ⟨dk, dp, dl, dh, dm, dn, er, hpar⟩ : ∃ dk dp dl dh dm dn er, dfParse q = (Df.mk dk dp dl dh dm dn, er) := ⟨_, _, _, _, _, _, _, rfl⟩
        have hd1 := dParse_any qa ql qc ws.heap.size q wr hlen hB.size hrd hby hmx dk dp dl dh er dm dn hpar
        have HD1 := Lib.hid hd1
        have HQ := Lib.hid (And.intro hlen (And.intro hby (And.intro hmx hpar)))
        have HRD0 := Lib.hid hrd0
        have HB := Lib.hid hB
        clear hd1 hlen hby hmx hpar hrd hrd0 hB
        go_wp2_with fail
        go_at_call 53
        refine HD1.out.mono ?_
        rintro e w2 ⟨rfl, hb2⟩
        have g2 := heap_alloc_new w2 (.cells #[.int .u8 dk, .int .i64 dp, .int .i32 dl, .int .i32 dh, .int .u32 ((dm : Nat) : Int), .int .u32 ((dn : Nat) : Int)] 92)
        have hba : Below w2.heap.size w2 (w2.alloc (.cells #[.int .u8 dk, .int .i64 dp, .int .i32 dl, .int .i32 dh, .int .u32 ((dm : Nat) : Int), .int .u32 ((dn : Nat) : Int)] 92)) := (Below.refl _ _).alloc (Nat.le_refl _) _
        have hb3 := HB.out.trans ((hb2.trans (hba.mono hb2.size)).mono HB.out.size)
        have HB3 := Lib.hid hb3
        have HRD2 := Lib.hid HRD0.out
        clear HD1 HB HRD0 hb2 hb3 hba hc
        go_wp2_with fail
        obtain ⟨g4, hg4⟩ : ∃ g, g = w2.heap.size := ⟨_, rfl⟩
        obtain ⟨w3, hw3⟩ : ∃ w3, w3 = w2.alloc (.cells #[.int .u8 dk, .int .i64 dp, .int .i32 dl, .int .i32 dh, .int .u32 ((dm : Nat) : Int), .int .u32 ((dn : Nat) : Int)] 92) := ⟨_, rfl⟩
        rw [← hw3, ← hg4] at g2
        rw [← hw3] at HB3
        rw [← hw3, ← hg4]
        clear hw3 hg4
        go_at_call 54
        have hd2 := rdParse_any qa ql qc ws.heap.size q w3 HQ.out.1 HB3.out.size (HRD2.out.below HB3.out) HQ.out.2.1 HQ.out.2.2.1 dk dp dl dh er dm dn HQ.out.2.2.2
        refine hd2.mono ?_
        clear hd2
        rintro e w4 ⟨rfl, hb4⟩
        have g5 := box_below g2 hb4 (box_lt g2)
        have g6 := box_below g5 ((Below.refl w4.heap.size w4).alloc (Nat.le_refl _) (.cells #[.int .u8 dk, .int .i64 dp, .int .i32 dl, .int .i32 dh, .int .u32 ((dm : Nat) : Int), .int .u32 ((dn : Nat) : Int)] 93)) (box_lt g5)
        have hba : Below w4.heap.size w4 (w4.alloc (.cells #[.int .u8 dk, .int .i64 dp, .int .i32 dl, .int .i32 dh, .int .u32 ((dm : Nat) : Int), .int .u32 ((dn : Nat) : Int)] 93)) := (Below.refl _ _).alloc (Nat.le_refl _) _
        have HB5 := Lib.hid (HB3.out.trans ((hb4.trans (hba.mono hb4.size)).mono HB3.out.size))
        have a0 := cell_of_row _ _ 0 _ _ _ g6
        have a1 := cell_of_row _ _ 1 _ _ _ g6
        have a2 := cell_of_row _ _ 2 _ _ _ g6
        have a3 := cell_of_row _ _ 3 _ _ _ g6
        have a4 := cell_of_row _ _ 4 _ _ _ g6
        have a5 := cell_of_row _ _ 5 _ _ _ g6
        clear HB3 HRD2 hb4 hba g2 g5 HQ
        go_wp2_with fail
        skip
        go_roundw
        case rel => exact ⟨j + 1, by omega, by go_num, HB5.out⟩
        case measure => simp [intOf]; omega
      · obtain rfl : j = 3 := by omega
        have HB := Lib.hid hB
        clear hB
        go_wp2
        go_ret
        exact ⟨rfl, HZ.out.trans (HB.out.mono HZ.out.size)⟩
end Go.Proofs.Ytbomkneajmgckaa
