/- CellVotes: of any cells the newest that can be read is told. -/
import Derived.Test.YtifjnpmkcgbniaaLaw06f
namespace Go.Proofs.Ytifjnpmkcgbniaa
open Go.RowKit Go.Own
set_option linter.unusedVariables false
set_option linter.unusedSimpArgs false

/-- A slice of slices of bytes that came in. -/
def IsRows (w : World) (a : Option Addr) (len cap : Nat) : Prop :=
  ∃ (p : Nat → Option Addr) (c : Nat → Nat) (ls : Nat → List Nat), Rd w.heap.size w a len cap (fun i => .slice (p i) (ls i).length (c i)) ∧ ∀ i, i < len → bytes (ls i) ∧ Rd w.heap.size w (p i) (ls i).length (c i) (bv (ls i))
/-- Numbers of 32 bits that came in. -/
theorem isRow_u32 {w : World} {a : Option Addr} {len cap : Nat} {z : List Int} (h : IsRow .u32 w a len cap z) : ∃ ns : Nat → Nat, (∀ i, ns i < 4294967296) ∧ Rd w.heap.size w a len cap (fun i => .int .u32 ((ns i : Nat) : Int)) := by
  rcases h with ⟨rfl, rfl, rfl, rfl⟩ | ⟨x, rfl, hl, hm, hz, hcell, hwz⟩
  · exact ⟨fun _ => 0, fun _ => (by decide : (0 : Nat) < 4294967296), Rd.none_ _ _ _⟩
  · have hb : ∀ i, 0 ≤ z.getD i 0 ∧ z.getD i 0 ≤ 4294967295 := by
      intro i
      by_cases hi : i < z.length
      · simp only [List.getD, List.getElem?_eq_getElem hi, Option.getD_some]
        exact bounds_u32 (hwz _ (List.getElem_mem hi))
      · simp only [List.getD, List.getElem?_eq_none (Nat.le_of_not_lt hi), Option.getD_none]; omega
    refine ⟨fun i => (z.getD i 0).toNat, fun i => by have := hb i; show (z.getD i 0).toNat < _; omega, (rd_of_row hl hm (by omega) hcell).same fun i hi => ?_⟩
    rw [Int.toNat_of_nonneg (hb i).1]

/-- The cells, of whatever bytes, as they are laid one behind another. -/
def CellsF (B : Nat) (f : Nat → List Nat) (k : Nat) (v : Value) (w : World) : Prop :=
  ∃ (p : Nat → Option Addr) (c : Nat → Nat), w.ownsRow B 23 1 v k ((List.range k).map fun i => .slice (p i) (f i).length (c i)) ∧ ∀ i, i < k → w.ownsRow B 5 1 (.slice (p i) (f i).length (c i)) (f i).length (bl (f i))
theorem CellsF.next {B k : Nat} {f : Nat → List Nat} {l : List Nat} {n : Nat} {w w3 w4 : World} {v v' : Value} {p : Nat → Option Addr} {c : Nat → Nat} {pk : Option Addr} {ck : Nat} {tmp : Obj} (hB : B ≤ w.heap.size) (hn : l.length = n)
    (h2 : w.ownsRow B 23 1 v k ((List.range k).map fun i => .slice (p i) (f i).length (c i)))
    (h3 : ∀ i, i < k → w.ownsRow B 5 1 (.slice (p i) (f i).length (c i)) (f i).length (bl (f i)))
    (hb : Below w.heap.size w w3) {b : Nat} (hBb : B ≤ b) (hk : w3.ownsRow b 5 1 (.slice pk n ck) n (bl l))
    (ho : w4.ownsRow B 23 1 v' (k + 1) (((List.range k).map fun i => .slice (p i) (f i).length (c i)) ++ [.slice pk n ck])) (hg : (w3.alloc tmp).grownBy w4 v.ownBlock) :
    CellsF B (fun i => if i = k then l else f i) (k + 1) v' w4 := by
  subst hn
  have e2 := own_below h2 hb (Nat.le_refl _)
  have keep : ∀ {x : Value} {n : Nat} {l : List Value}, w3.ownsRow B 5 1 x n l → w4.ownsRow B 5 1 x n l := by
    intro x n l hx
    exact (hx.alloc tmp).kept hg (own_apart hx e2 (by decide))
  refine ⟨fun i => if i = k then pk else p i, fun i => if i = k then ck else c i, ?_, fun i hi => ?_⟩
  · rw [List.range_succ, List.map_append]
    have e : (List.range k).map (fun i => Value.slice (if i = k then pk else p i) (if i = k then l else f i).length (if i = k then ck else c i)) = (List.range k).map fun i => .slice (p i) (f i).length (c i) := by
      apply List.map_congr_left
      intro i hi
      have : i ≠ k := by have := List.mem_range.1 hi; omega
      simp [this]
    rw [e]
    simpa using ho
  · by_cases hik : i = k
    · simp only [hik, if_true]
      exact keep (own_base hk hBb)
    · simp only [hik, if_false]
      exact keep (own_below (h3 i (by omega)) hb (Nat.le_refl _))
theorem CellsF.rds {B k : Nat} {f : Nat → List Nat} {v : Value} {w : World} (h : CellsF B f k v w) : ∃ (a : Option Addr) (cap : Nat) (p : Nat → Option Addr) (c : Nat → Nat), v = .slice a k cap ∧ Rd w.heap.size w a k cap (fun i => .slice (p i) (f i).length (c i)) ∧ ∀ i, i < k → Rd w.heap.size w (p i) (f i).length (c i) (bv (f i)) := by
  obtain ⟨p, c, h1, h2⟩ := h
  have hv : ∃ a cap, v = .slice a k cap := by
    rcases h1.2 with ⟨rfl, rfl⟩ | ⟨g, cap, cur, rfl, _⟩
    · exact ⟨none, 0, rfl⟩
    · exact ⟨_, _, rfl⟩
  obtain ⟨a, cap, rfl⟩ := hv
  exact ⟨a, cap, p, c, rfl, rd_of_own h1 (fun i hi => by simp [hi]), fun i hi => rd_of_own (h2 i hi) (fun j hj => bl_at _ hj)⟩
theorem cell_one_at (w : World) (v : Value) (t : TypeId) (n : Nat) (hn : n = w.heap.size) : ∀ j u, [v][j]? = some u → (w.alloc (.cells #[v] t)).cell? ((⟨n, 0, none⟩ : Addr).add j) = some u := by
  subst hn
  exact cell_one_new _ _ _
theorem newer_no {l r : List Nat} (h : perr l ≠ 0) : newer l r = false := by unfold newer; simp [h]
theorem newer_bad {l r : List Nat} (h : perr l = 0) (h' : perr r ≠ 0) : newer l r = true := by unfold newer; simp [h, h']
theorem newer_lt {l r : List Nat} (h : perr l = 0) (h' : perr r = 0) : newer l r = decide (pseq r < pseq l) := by unfold newer; simp [h, h']
/-- What is told, error or not. -/
def pq (l : List Nat) : Nat := if perr l = 0 then pseq l else 0
def pd (l : List Nat) : List Nat := if perr l = 0 then pdat l else []
theorem ParsePost.uni {w w' : World} {l : List Nat} {e : Ending} (h : ParsePost w l e w') : Below w.heap.size w w' ∧ ∃ x c, e = .returned (.tuple #[.int .u32 (pq l : Nat), .slice x (pd l).length c, .int .i64 (perr l : Nat)]) := by
  obtain ⟨hb, h | h⟩ := h
  · obtain ⟨he, x, c, rfl, _⟩ := h
    exact ⟨hb, x, c, by unfold pq pd; rw [if_pos he, if_pos he, he]; rfl⟩
  · obtain ⟨he, rfl⟩ := h
    exact ⟨hb, none, 0, by unfold pq pd; rw [if_neg he, if_neg he]; rfl⟩
def vq (ls : Nat → List Nat) (k : Nat) : Nat := if (vst ls k).1 < 2 then 0 else pseq (ls (vst ls k).2)
def vd (ls : Nat → List Nat) (k : Nat) : List Nat := if (vst ls k).1 < 2 then [] else pdat (ls (vst ls k).2)
def ve (ls : Nat → List Nat) (k : Nat) : Nat := if (vst ls k).1 < 2 then 3 else 0
theorem VotePost.uni {w w' : World} {ls : Nat → List Nat} {k : Nat} {e : Ending} (h : VotePost w ls k e w') : Below w.heap.size w w' ∧ ∃ x c, e = .returned (.tuple #[.int .u32 (vq ls k : Nat), .slice x (vd ls k).length c, .int .i64 (ve ls k : Nat)]) ∧ Rd w'.heap.size w' x (vd ls k).length c (bv (vd ls k)) := by
  obtain ⟨hb, h | h⟩ := h
  · obtain ⟨he, rfl⟩ := h
    unfold vq vd ve
    rw [if_pos he, if_pos he, if_pos he]
    exact ⟨hb, none, 0, rfl, Rd.none_ _ _ _⟩
  · obtain ⟨he, x, c, rfl, hr⟩ := h
    have he' : ¬ (vst ls k).1 < 2 := by omega
    unfold vq vd ve
    rw [if_neg he', if_neg he', if_neg he']
    exact ⟨hb, x, c, rfl, hr⟩
theorem vd_bytes {ls : Nat → List Nat} {k : Nat} (h : ∀ i, i < k → bytes (ls i)) : bytes (vd ls k) := by
  unfold vd
  split
  · intro b hb; cases hb
  · exact pdat_bytes (h _ (vst_lt ls k (by omega)))
set_option maxRecDepth 100000 in
set_option maxHeartbeats 4000000 in
theorem walk_CellVotes (a0 : Option Addr) (len0 cap0 : Nat) (a1 : Option Addr) (len1 cap1 : Nat) (z1 : List Int) (wh sp : Int) (w : World) (w0 : IsRows w a0 len0 cap0) (w1' : IsRow .u32 w a1 len1 cap1 z1) (wa : (Lit.int .u8 wh).wf = true) (wb : (Lit.int .u8 sp).wf = true) :
    Calls Try.prog 4 #[.slice a0 len0 cap0, .slice a1 len1 cap1, .int .u8 wh, .int .u8 sp] w fun e w' => e = .returned (.bool true) ∧ Below w.heap.size w w' := by
  obtain ⟨i0, hi, hz0, hz1, hz2⟩ := info_parts info_row8
  obtain ⟨q0, c0, ls, hr0, hrr0⟩ := w0
  obtain ⟨ns, hns, hr1⟩ := isRow_u32 w1'
  obtain ⟨wa0, wa1⟩ := bounds_u8 wa
  obtain ⟨wb0, wb1⟩ := bounds_u8 wb
  obtain ⟨wh, rfl⟩ := Int.eq_ofNat_of_zero_le wa0
  obtain ⟨sp, rfl⟩ := Int.eq_ofNat_of_zero_le wb0
  have HR0 := Lib.hid hr0
  have HRR0 := Lib.hid hrr0
  have HR1 := Lib.hid hr1
  have HNS := Lib.hid hns
  have h1 := hr0.le
  have h2 := hr0.top
  have h3 := hr1.le
  have h4 := hr1.top
  unfold maxLen at h2 h4
  clear wa wb w1' hr0 hr1 hrr0 hns
  go_enter Try.func4, Try.ntmps4
  go_wp2_with (go_at_call 14; refine (awake06 _).mono ?_; rintro e w1 ⟨rfl, hb1⟩)
  have hs1 : w.heap.size ≤ w1.heap.size := hb1.size
  go_loopw [9, 10] (fun v i wr => ∃ (k : Nat) (f : Nat → List Nat), k ≤ 4 ∧ k ≤ len0 ∧ i = .int .i64 k ∧ (∀ i, i < k → bytes (f i) ∧ (f i).length ≤ 48) ∧ CellsF w.heap.size f k v wr ∧ Below w.heap.size w wr) (fun _ i _ => 4 - (intOf i).toNat)
  case atStart => exact ⟨0, fun _ => [], by omega, by omega, rfl, fun i hi => absurd hi (by omega), ⟨fun _ => none, fun _ => 0, by simpa using World.ownsRow_nil _ _ _ _, fun i hi => absurd hi (by omega)⟩, hb1⟩
  case round =>
    clear hb1
    obtain ⟨k, f, hk, hkl, rfl, hf, hF, hB⟩ := hrel
    have hsr : w.heap.size ≤ wr.heap.size := hB.size
    by_cases hlt : k < 4 ∧ k < len0
    · obtain ⟨hlt4, hltl⟩ := hlt
      obtain ⟨p, c, hout, hin⟩ := hF
      obtain ⟨b, off, rfl, hbk, hc⟩ := (HR0.out.below hB).at hltl
      obtain ⟨hlb, hlr⟩ := HRR0.out k hltl
      obtain ⟨l, hl⟩ : ∃ l, l = ls k := ⟨_, rfl⟩
      obtain ⟨n, hn⟩ : ∃ n, n = (ls k).length := ⟨_, rfl⟩
      rw [← hn] at hc
      rw [← hn, ← hl] at hlr
      rw [← hl] at hlb
      have HLN := Lib.hid (show l.length = n by rw [hl, hn])
      have hn1 := hlr.le
      have hn2 := hlr.top
      unfold maxLen at hn2
      have HLR := Lib.hid (hlr.below hB)
      have HF := Lib.hid hf
      have HO := Lib.hid hout
      have HI := Lib.hid hin
      have HB := Lib.hid hB
      clear hl hn hlr hf hout hin hB
      go_wp2_with fail
      go_at_call 15
      refine (Cut_any (q0 k) n (c0 k) l 40 _ HLN.out (HLR.out.mono hsr) (by omega)).mono ?_
      rintro e w3 ⟨v3, rfl, hown3, hb3⟩
      obtain ⟨P, hP⟩ : ∃ P, P = l.take 40 := ⟨_, rfl⟩
      have hPb : bytes P := by rw [hP]; exact hlb.take 40
      obtain ⟨m, hm⟩ : ∃ m, m = min 40 n := ⟨_, rfl⟩
      have hPm : P.length = m := by rw [hP, hm]; exact bytes_take HLN.out
      have hm2 : m ≤ 40 := by omega
      rw [← hP, ← hm] at hown3
      obtain ⟨pa, pc, rfl⟩ := own_form hown3
      have HPM := Lib.hid hPm
      have HP3 := Lib.hid hown3
      have HB3 := Lib.hid hb3
      have hs3 : wr.heap.size ≤ w3.heap.size := hb3.size
      clear hP hm hown3 hPm hb3 hc
      obtain ⟨d, hd⟩ : ∃ d, d = wh / 2 ^ k := ⟨_, rfl⟩
      obtain ⟨e, he⟩ : ∃ e, e = sp / 2 ^ k := ⟨_, rfl⟩
      have hdI : (wh : Int) / 2 ^ k = (d : Int) := by rw [hd]; simp
      have heI : (sp : Int) / 2 ^ k = (e : Int) := by rw [he]; simp
      clear hd he
      by_cases hd1 : d % 2 = 1
      · have hdt : ((d : Int) % 2 == 1) = true := by simp; omega
        by_cases hk1 : k < len1
        · obtain ⟨b1, off1, rfl, hbk1, hc1⟩ := (HR1.out.below HB.out).at hk1
          have hc1 := (HB3.out.cell (p := ⟨b1, off1 + k, none⟩) (Nat.lt_of_lt_of_le hbk1 hsr)).trans hc1
          have hnk := HNS.out k
          obtain ⟨nk, hnk'⟩ : ∃ nk, nk = ns k := ⟨_, rfl⟩
          rw [← hnk'] at hc1 hnk
          clear hnk'
          go_wp2_with fail
          go_at_call 21
          refine (rMake_any nk pa m pc w3.heap.size P _ (by omega) HPM.out (Nat.le_refl _) (rd_of_own HP3.out (fun i hi => bl_at P (by rw [HPM.out]; exact hi))) hPb (by omega)).mono ?_
          rintro e5 w5 ⟨v5, rfl, hown5, hb5⟩
          obtain ⟨C, hC⟩ : ∃ C, C = mkCell nk P := ⟨_, rfl⟩
          obtain ⟨M, hM⟩ : ∃ M, M = m + 8 := ⟨_, rfl⟩
          have hCl : C.length = M := by rw [hC, mkCell_len, HPM.out, hM]
          have hCb : bytes C := by rw [hC]; exact mkCell_bytes hPb
          rw [← hC, ← hM] at hown5
          obtain ⟨g5, c5, rfl, hg5, hgl5⟩ := own_some hown5 (by omega)
          have hM8 : 8 ≤ M := by omega
          have hM9 : M ≤ 48 := by omega
          have HCL := Lib.hid hCl
          have HC5 := Lib.hid hown5
          have HB5 := Lib.hid (HB3.out.trans (hb5.mono hs3))
          have hs5 : wr.heap.size ≤ w5.heap.size := HB5.out.size
          clear hC hM hCl hown5 hb5 hc1
          by_cases he1 : e % 2 = 1
          · have het : ((e : Int) % 2 == 1) = true := by simp; omega
            obtain ⟨q, hq⟩ : ∃ q, q = M / 2 := ⟨_, rfl⟩
            have hqI : (M : Int) / 2 = (q : Int) := by omega
            have hqM : q < M := by omega
            have hcq := HC5.out.cellAt q (by omega)
            have hfq := HC5.out.frozenAt q
            rw [bl_at _ (by rw [HCL.out]; exact hqM)] at hcq
            unfold bv at hcq
            have hy := hCb.at q
            have hset := set_bl C q (C.getD q 0 ^^^ 1)
            have hxl : C.getD q 0 ^^^ 1 < 256 := Nat.xor_lt_two_pow (n := 8) hy (by omega)
            obtain ⟨y, hy'⟩ : ∃ y, y = C.getD q 0 := ⟨_, rfl⟩
            rw [← hy'] at hcq hy hset hxl
            have hxor : bits .xor .u8 (y : Int) 1 = ((y ^^^ 1 : Nat) : Int) := xor8 y 1 hy (by omega)
            have hDl : (C.set q (y ^^^ 1)).length = M := by rw [List.length_set]; exact HCL.out
            have hDb : bytes (C.set q (y ^^^ 1)) := set_bytes hCb q hxl
            obtain ⟨D, hD⟩ : ∃ D, D = C.set q (y ^^^ 1) := ⟨_, rfl⟩
            rw [← hD] at hset hDl hDb
            have HDL := Lib.hid hDl
            have hs6 : w5.heap.size = (w5.setCell ⟨g5, q, none⟩ (.int .u8 ((y ^^^ 1 : Nat) : Int))).heap.size := by simp
            have HS6 := Lib.hid hs6
            have HD6 := Lib.hid (show (w5.setCell ⟨g5, q, none⟩ (.int .u8 ((y ^^^ 1 : Nat) : Int))).ownsRow w3.heap.size 5 1 (.slice (some ⟨g5, 0, none⟩) M c5) M (bl D) by
              have := (HC5.out.stored q (.int .u8 ((y ^^^ 1 : Nat) : Int))).1
              rw [hset] at this
              exact this)
            have HB6 := Lib.hid (show Below wr.heap.size wr (w5.setCell ⟨g5, q, none⟩ (.int .u8 ((y ^^^ 1 : Nat) : Int))) from HB5.out.setCell (p := ⟨g5, q, none⟩) (Nat.le_trans hs3 hg5) _)
            clear hset hDl hD hy' hq hs6
            go_wp2_with (at_builtin; refine wpList_append_own _ rfl _ _ 31 rfl w.heap.size 23 i0 (.slice none 0 0) 1 24 Try.underlying31 hi hz0 hz1 hz2 rfl (by decide) _ _ _ rfl ((own_below HO.out HB6.out (Nat.le_refl _)).alloc _) ⟨w5.heap.size, 0, none⟩ 1 1 [.slice (some ⟨g5, 0, none⟩) M c5] rfl rfl (cell_one_at _ _ _ _ (by simp)) (by simp [Value.oneCell']) (by unfold maxLen; omega) (by omega) (by simp; omega) ?_)
            intro v' w7 hown7 hgrow7 _
            have hF7 := CellsF.next hsr HDL.out HO.out HI.out HB6.out (by omega) HD6.out hown7 hgrow7
            have hb7 : Below w.heap.size w w7 := (((HB.out.trans (HB6.out.mono hsr)).alloc (by first | omega | (simp; omega)) (.cells #[.slice (some ⟨g5, 0, none⟩) M c5] 23)).grown hgrow7 (by simp; omega) (fun j hj => ((own_below HO.out HB6.out (Nat.le_refl _)).lt j hj).1))
            have HF7 := Lib.hid hF7
            have HB7 := Lib.hid hb7
            clear hgrow7 hown7 hF7 hb7
            go_wp2
            go_roundw
            case rel => exact ⟨k + 1, _, by omega, by omega, by go_num, fun i hi => by
              by_cases hik : i = k
              · simp only [hik, if_true]
                exact ⟨hDb, by rw [HDL.out]; omega⟩
              · simp only [hik, if_false]
                exact HF.out i (by omega), HF7.out, HB7.out⟩
            case measure => simp [intOf]; omega
          · have het : ((e : Int) % 2 == 1) = false := by simp; omega
            go_wp2_with (at_builtin; refine wpList_append_own _ rfl _ _ 31 rfl w.heap.size 23 i0 (.slice none 0 0) 1 24 Try.underlying31 hi hz0 hz1 hz2 rfl (by decide) _ _ _ rfl ((own_below HO.out HB5.out (Nat.le_refl _)).alloc _) ⟨w5.heap.size, 0, none⟩ 1 1 [.slice (some ⟨g5, 0, none⟩) M c5] rfl rfl (cell_one_at _ _ _ _ (by simp)) (by simp [Value.oneCell']) (by unfold maxLen; omega) (by omega) (by simp; omega) ?_)
            intro v' w7 hown7 hgrow7 _
            have hF7 := CellsF.next hsr HCL.out HO.out HI.out HB5.out (by omega) HC5.out hown7 hgrow7
            have hb7 : Below w.heap.size w w7 := (((HB.out.trans (HB5.out.mono hsr)).alloc (by first | omega | (simp; omega)) (.cells #[.slice (some ⟨g5, 0, none⟩) M c5] 23)).grown hgrow7 (by simp; omega) (fun j hj => ((own_below HO.out HB5.out (Nat.le_refl _)).lt j hj).1))
            have HF7 := Lib.hid hF7
            have HB7 := Lib.hid hb7
            clear hgrow7 hown7 hF7 hb7
            go_wp2
            go_roundw
            case rel => exact ⟨k + 1, _, by omega, by omega, by go_num, fun i hi => by
              by_cases hik : i = k
              · simp only [hik, if_true]
                exact ⟨hCb, by rw [HCL.out]; omega⟩
              · simp only [hik, if_false]
                exact HF.out i (by omega), HF7.out, HB7.out⟩
            case measure => simp [intOf]; omega
        · have hdk : decide (k < len1) = false := by simp; omega
          go_wp2_with (at_builtin; refine wpList_append_own _ rfl _ _ 31 rfl w.heap.size 23 i0 (.slice none 0 0) 1 24 Try.underlying31 hi hz0 hz1 hz2 rfl (by decide) _ _ _ rfl ((own_below HO.out HB3.out (Nat.le_refl _)).alloc _) ⟨w3.heap.size, 0, none⟩ 1 1 [.slice pa m pc] rfl rfl (cell_one_at _ _ _ _ (by simp)) (by simp [Value.oneCell']) (by unfold maxLen; omega) (by omega) (by simp; omega) ?_)
          intro v' w7 hown7 hgrow7 _
          have hF7 := CellsF.next hsr HPM.out HO.out HI.out HB3.out (by omega) HP3.out hown7 hgrow7
          have hb7 : Below w.heap.size w w7 := (((HB.out.trans (HB3.out.mono hsr)).alloc (by first | omega | (simp; omega)) (.cells #[.slice pa m pc] 23)).grown hgrow7 (by simp; omega) (fun j hj => ((own_below HO.out HB3.out (Nat.le_refl _)).lt j hj).1))
          have HF7 := Lib.hid hF7
          have HB7 := Lib.hid hb7
          clear hgrow7 hown7 hF7 hb7
          go_wp2
          go_roundw
          case rel => exact ⟨k + 1, _, by omega, by omega, by go_num, fun i hi => by
            by_cases hik : i = k
            · simp only [hik, if_true]
              exact ⟨hPb, by rw [HPM.out]; omega⟩
            · simp only [hik, if_false]
              exact HF.out i (by omega), HF7.out, HB7.out⟩
          case measure => simp [intOf]; omega
      · have hdt : ((d : Int) % 2 == 1) = false := by simp; omega
        go_wp2_with (at_builtin; refine wpList_append_own _ rfl _ _ 31 rfl w.heap.size 23 i0 (.slice none 0 0) 1 24 Try.underlying31 hi hz0 hz1 hz2 rfl (by decide) _ _ _ rfl ((own_below HO.out HB3.out (Nat.le_refl _)).alloc _) ⟨w3.heap.size, 0, none⟩ 1 1 [.slice pa m pc] rfl rfl (cell_one_at _ _ _ _ (by simp)) (by simp [Value.oneCell']) (by unfold maxLen; omega) (by omega) (by simp; omega) ?_)
        intro v' w7 hown7 hgrow7 _
        have hF7 := CellsF.next hsr HPM.out HO.out HI.out HB3.out (by omega) HP3.out hown7 hgrow7
        have hb7 : Below w.heap.size w w7 := (((HB.out.trans (HB3.out.mono hsr)).alloc (by first | omega | (simp; omega)) (.cells #[.slice pa m pc] 23)).grown hgrow7 (by simp; omega) (fun j hj => ((own_below HO.out HB3.out (Nat.le_refl _)).lt j hj).1))
        have HF7 := Lib.hid hF7
        have HB7 := Lib.hid hb7
        clear hgrow7 hown7 hF7 hb7
        go_wp2
        go_roundw
        case rel => exact ⟨k + 1, _, by omega, by omega, by go_num, fun i hi => by
          by_cases hik : i = k
          · simp only [hik, if_true]
            exact ⟨hPb, by rw [HPM.out]; omega⟩
          · simp only [hik, if_false]
            exact HF.out i (by omega), HF7.out, HB7.out⟩
        case measure => simp [intOf]; omega
    · have hway : ¬ k < 4 ∨ (k < 4 ∧ decide (k < len0) = false) := by
        by_cases h4 : k < 4
        · exact .inr ⟨h4, by simp; omega⟩
        · exact .inl h4
      obtain ⟨wf, rfl⟩ : ∃ wf : World, wf = wr := ⟨_, rfl⟩
      obtain ⟨a, cap, p, c, rfl, hr, hrr⟩ := hF.rds
      have hfb : ∀ i, i < k → bytes (f i) := fun i hi => (hf i hi).1
      have hvb := vd_bytes (k := k) hfb
      obtain ⟨Q, hQ⟩ : ∃ Q, Q = vq f k := ⟨_, rfl⟩
      obtain ⟨D, hD⟩ : ∃ D, D = vd f k := ⟨_, rfl⟩
      obtain ⟨m, hm⟩ : ∃ m, m = (vd f k).length := ⟨_, rfl⟩
      obtain ⟨E, hE⟩ : ∃ E, E = ve f k := ⟨_, rfl⟩
      rw [← hD] at hvb
      have HDM := Lib.hid (show D.length = m by rw [hD, hm])
      have HQ := Lib.hid hQ
      have HD := Lib.hid hD
      have HM := Lib.hid hm
      have HE := Lib.hid hE
      have HF := Lib.hid hf
      have HFB := Lib.hid hfb
      have HR := Lib.hid hr
      have HRR := Lib.hid hrr
      have HB := Lib.hid hB
      have hc1 := hr.le
      have hc2 := hr.top
      unfold maxLen at hc2
      clear hQ hD hm hE hf hfb hr hrr hB hlt hF
      rcases hway with h4 | ⟨h4, h4'⟩
      all_goals
        go_wp2_with fail
        go_at_call 22
        refine (cVote_any a k cap wf.heap.size p c f wf (Nat.le_refl _) HR.out HRR.out HFB.out (fun i hi => by have := (HF.out i hi).2; omega)).mono ?_
        intro e w2 hpo
        obtain ⟨hb2, x2, c2, rfl, hr2⟩ := hpo.uni
        rw [← HD.out, HDM.out] at hr2
        rw [← HQ.out, ← HM.out, ← HE.out]
        have HR2 := Lib.hid hr2
        have HB2 := Lib.hid hb2
        have hs2 : wf.heap.size ≤ w2.heap.size := hb2.size
        clear hpo hr2 hb2
        go_wp2_with fail
        go_at_call 23
        refine (rVote_any a k cap wf.heap.size p c f w2 hs2 (HR.out.below HB2.out) (fun i hi => (HRR.out i hi).below HB2.out) HFB.out).mono ?_
        intro e w3 hpo
        obtain ⟨hb3, x3, c3, rfl, hr3⟩ := hpo.uni
        rw [← HD.out, HDM.out] at hr3
        rw [← HQ.out, ← HM.out, ← HE.out]
        have HR3 := Lib.hid hr3
        have HR23 := Lib.hid (rd_grow HR2.out hb3)
        have HB3 := Lib.hid (HB2.out.trans (hb3.mono hs2))
        have hs3 : wf.heap.size ≤ w3.heap.size := HB3.out.size
        clear hpo hr3 hb3 HR2 HB2 hs2
        go_wp2_with fail
        go_at_call 24
        refine (Good_any a k cap wf.heap.size p c f w3 hs3 (by omega) (HR.out.below HB3.out) (fun i hi => (HRR.out i hi).below HB3.out) HFB.out).mono ?_
        rintro e w4 ⟨rfl, hb4⟩
        have HR4 := Lib.hid (rd_grow HR23.out hb4)
        have HR5 := Lib.hid (rd_grow HR3.out hb4)
        have HB4 := Lib.hid (HB3.out.trans (hb4.mono hs3))
        have hs4 : wf.heap.size ≤ w4.heap.size := HB4.out.size
        have hgl := gset_lt f k
        obtain ⟨S, hS⟩ : ∃ S, S = gset f k := ⟨_, rfl⟩
        rw [← hS] at hgl
        rw [← hS]
        have HS := Lib.hid hS
        clear hS hb4 HR23 HR3 HB3 hs3
        go_wp2
        go_loopw [96] (fun i wo => ∃ k2 : Nat, k2 ≤ k ∧ i = .int .i64 k2 ∧ Below w4.heap.size w4 wo) (fun i _ => k - (intOf i).toNat)
        case atStart => exact ⟨0, Nat.zero_le _, rfl, Below.refl _ _⟩
        case round =>
          obtain ⟨wo, rfl⟩ : ∃ wo : World, wo = wr := ⟨_, rfl⟩
          obtain ⟨k2, hk2, rfl, hBo⟩ := hrel
          have hso : wf.heap.size ≤ wo.heap.size := Nat.le_trans hs4 hBo.size
          by_cases hlt2 : k2 < k
          · have HBo := Lib.hid (HB4.out.trans (hBo.mono hs4))
            obtain ⟨b2, off2, ha, hb2, hcl⟩ := (HR.out.below HBo.out).at hlt2
            have hlb := HFB.out k2 hlt2
            have hlr0 := HRR.out k2 hlt2
            have hlr := hlr0.below HBo.out
            have hgh := gset_has f (i := k2) (k := k) (by omega) (by omega)
            have hgd : decide (k2 < k ∧ perr (f k2) = 0) = decide (perr (f k2) = 0) := by simp [hlt2]
            rw [hgd, ← HS.out] at hgh
            obtain ⟨l, hl⟩ : ∃ l, l = f k2 := ⟨_, rfl⟩
            obtain ⟨n, hn⟩ : ∃ n, n = (f k2).length := ⟨_, rfl⟩
            obtain ⟨xa, hxa⟩ : ∃ xa, xa = p k2 := ⟨_, rfl⟩
            obtain ⟨xc, hxc⟩ : ∃ xc, xc = c k2 := ⟨_, rfl⟩
            rw [← hn, ← hxa, ← hxc] at hcl
            rw [← hn, ← hxa, ← hxc, ← hl] at hlr hlr0
            have HLRW := Lib.hid hlr0
            clear hlr0
            rw [← hl] at hlb hgh
            have HLN := Lib.hid (show l.length = n by rw [hl, hn])
            have HLR := Lib.hid hlr
            have HGH := Lib.hid hgh
            have HBO4 := Lib.hid hBo
            subst ha
            clear hl hn hxa hxc hlr hgh hgd hBo
            go_wp2_with fail
            go_at_call 19
            refine (rParse_any xa n xc wf.heap.size l wo HLN.out hso HLR.out hlb).mono ?_
            intro e w6 hpo
            obtain ⟨hb6, x6, c6, rfl⟩ := hpo.uni
            obtain ⟨q6, hq6⟩ : ∃ q6, q6 = pq l := ⟨_, rfl⟩
            obtain ⟨m6, hm6⟩ : ∃ m6, m6 = (pd l).length := ⟨_, rfl⟩
            obtain ⟨e6, he6⟩ : ∃ e6, e6 = perr l := ⟨_, rfl⟩
            rw [← hq6, ← hm6, ← he6]
            have HQ6 := Lib.hid hq6
            have HE6 := Lib.hid he6
            have HB6 := Lib.hid (HBo.out.trans (hb6.mono hso))
            have HB64 := Lib.hid (HBO4.out.trans (hb6.mono HBO4.out.size))
            have hs6 : wf.heap.size ≤ w6.heap.size := HB6.out.size
            clear hpo hb6 hq6 hm6 he6 hcl
            go_wp2_with fail
            go_at_call 25
            refine (Has_any S k2 w6 hgl).mono ?_
            rintro e w7 ⟨rfl, hb7⟩
            rw [HGH.out, ← HE6.out]
            have HB7 := Lib.hid (HB6.out.trans (hb7.mono hs6))
            have HB74 := Lib.hid (HB64.out.trans (hb7.mono HB64.out.size))
            have hs7 : wf.heap.size ≤ w7.heap.size := HB7.out.size
            clear hb7 HB6 HB64 hs6
            have hee : ∃ t : Bool, decide (e6 = 0) = t ∧ ((e6 : Int) == 0) = t := by
              by_cases h : e6 = 0
              · exact ⟨true, by simp [h], by simp [h]⟩
              · exact ⟨false, by simp [h], by rw [beq_eq_false_iff_ne]; omega⟩
            obtain ⟨t6, ht6, ht6'⟩ := hee
            rw [ht6]
            have HT6 := Lib.hid ht6
            clear ht6
            go_wp2
            go_loopw [115] (fun i wi => ∃ j : Nat, j ≤ k ∧ i = .int .i64 j ∧ Below w7.heap.size w7 wi) (fun i _ => k - (intOf i).toNat)
            case atStart => exact ⟨0, Nat.zero_le _, rfl, Below.refl _ _⟩
            case round =>
              obtain ⟨wi, rfl⟩ : ∃ wi : World, wi = wr := ⟨_, rfl⟩
              obtain ⟨j, hj, rfl, hBi⟩ := hrel
              have hsi : wf.heap.size ≤ wi.heap.size := Nat.le_trans hs7 hBi.size
              by_cases hlt3 : j < k
              · have HBi := Lib.hid (HB7.out.trans (hBi.mono hs7))
                have HBI7 := Lib.hid hBi
                obtain ⟨b3, off3, ha, hb3, hcl⟩ := (HR.out.below HBi.out).at hlt3
                injection ha with ha
                injection ha with ha1 ha2
                subst ha1 ha2
                have hlb' := HFB.out j hlt3
                have hlr0 := HRR.out j hlt3
                have hlr := hlr0.below HBi.out
                obtain ⟨l', hl⟩ : ∃ l, l = f j := ⟨_, rfl⟩
                obtain ⟨n', hn⟩ : ∃ n, n = (f j).length := ⟨_, rfl⟩
                obtain ⟨ya, hxa⟩ : ∃ xa, xa = p j := ⟨_, rfl⟩
                obtain ⟨yc, hxc⟩ : ∃ xc, xc = c j := ⟨_, rfl⟩
                rw [← hn, ← hxa, ← hxc] at hcl
                rw [← hn, ← hxa, ← hxc, ← hl] at hlr hlr0
                have HLRW' := Lib.hid hlr0
                clear hlr0
                rw [← hl] at hlb'
                have HLN' := Lib.hid (show l'.length = n' by rw [hl, hn])
                have HLR' := Lib.hid hlr
                clear hl hn hxa hxc hlr hBi
                go_wp2_with fail
                go_at_call 19
                refine (rParse_any ya n' yc wf.heap.size l' wi HLN'.out hsi HLR'.out hlb').mono ?_
                intro e w8 hpo
                obtain ⟨hb8, x8, c8, rfl⟩ := hpo.uni
                obtain ⟨q8, hq8⟩ : ∃ q8, q8 = pq l' := ⟨_, rfl⟩
                obtain ⟨m8, hm8⟩ : ∃ m8, m8 = (pd l').length := ⟨_, rfl⟩
                obtain ⟨e8, he8⟩ : ∃ e8, e8 = perr l' := ⟨_, rfl⟩
                rw [← hq8, ← hm8, ← he8]
                have HQ8 := Lib.hid hq8
                have HE8 := Lib.hid he8
                have HB8 := Lib.hid (HBi.out.trans (hb8.mono hsi))
                have HB87 := Lib.hid (HBI7.out.trans (hb8.mono HBI7.out.size))
                have hs8 : wf.heap.size ≤ w8.heap.size := HB8.out.size
                clear hpo hb8 hq8 hm8 he8 hcl
                go_wp2_with fail
                go_at_call 26
                refine (Newer_any xa ya n n' xc yc wf.heap.size l l' w8 hs8 HLN.out HLN'.out (HLRW.out.below HB8.out) (HLRW'.out.below HB8.out) hlb hlb').mono ?_
                rintro e w9 ⟨rfl, hb9⟩
                have HB9 := Lib.hid (HB87.out.trans (hb9.mono HB87.out.size))
                clear hb9 HB8
                cases t6 with
                | false =>
                  have h0 : perr l ≠ 0 := by rw [← HE6.out]; have := HT6.out; simpa using this
                  rw [newer_no h0]
                  go_wp2
                  go_roundw
                  case rel => exact ⟨j + 1, by omega, by go_num, HB9.out⟩
                  case measure => simp [intOf]; omega
                | true =>
                  have h0 : perr l = 0 := by rw [← HE6.out]; have := HT6.out; simpa using this
                  by_cases h8 : e8 = 0
                  · have h1 : perr l' = 0 := by rw [← HE8.out]; exact h8
                    have e1 : pseq l = q6 := by rw [HQ6.out]; unfold pq; rw [if_pos h0]
                    have e2 : pseq l' = q8 := by rw [HQ8.out]; unfold pq; rw [if_pos h1]
                    rw [newer_lt h0 h1, e1, e2]
                    have t8 : ((e8 : Int) != 0) = false := by rw [h8]; rfl
                    clear e1 e2 h0 h1 h8
                    by_cases hq : q8 < q6
                    · have hd : decide (q8 < q6) = true := by simp [hq]
                      have hdI : decide ((q8 : Int) < (q6 : Int)) = true := by simp [hq]
                      rw [hd]
                      go_wp2
                      go_roundw
                      case rel => exact ⟨j + 1, by omega, by go_num, HB9.out⟩
                      case measure => simp [intOf]; omega
                    · have hd : decide (q8 < q6) = false := by simp [hq]
                      have hdI : decide ((q8 : Int) < (q6 : Int)) = false := by simp [hq]
                      rw [hd]
                      go_wp2
                      go_roundw
                      case rel => exact ⟨j + 1, by omega, by go_num, HB9.out⟩
                      case measure => simp [intOf]; omega
                  · have h1 : perr l' ≠ 0 := by rw [← HE8.out]; exact h8
                    have t8 : ((e8 : Int) != 0) = true := by simp only [bne_iff_ne]; omega
                    rw [newer_bad h0 h1]
                    clear h0 h1 h8
                    go_wp2
                    go_roundw
                    case rel => exact ⟨j + 1, by omega, by go_num, HB9.out⟩
                    case measure => simp [intOf]; omega
              · obtain rfl : j = k := by omega
                have HBi := Lib.hid (HB74.out.trans (hBi.mono HB74.out.size))
                clear hBi
                go_wp2
                go_roundw
                case rel => exact ⟨k2 + 1, by omega, by go_num, HBi.out⟩
                case measure => simp [intOf]; omega
          · obtain rfl : k2 = k := by omega
            have HBo := Lib.hid (HB4.out.trans (hBo.mono hs4))
            have HR6 := Lib.hid (rd_grow HR4.out hBo)
            have HR7 := Lib.hid (rd_grow HR5.out hBo)
            clear hBo
            go_wp2_with fail
            go_at_call 20
            refine (Same_any x2 x3 m m c2 c3 _ _ D D _ HDM.out HDM.out HR6.out HR7.out hvb hvb).mono ?_
            rintro e wz ⟨rfl, jz, rfl⟩
            simp only [decide_true]
            go_wp2
            go_ret
            exact ⟨rfl, HB.out.trans ((HBo.out.trans (below_drews _ _ jz)).mono hsr)⟩
end Go.Proofs.Ytifjnpmkcgbniaa
