/- PusNumbers, walked. -/
import Derived.Test.YtfolebogfapmaaaPsM
import Derived.Test.YtfolebogfapmaaaLaw10
import Derived.Test.YtfolebogfapmaaaLaw10h
import Derived.Test.YtfolebogfapmaaaKeep
namespace Go.Proofs.Ytfolebogfapmaaa
open Go.RowKit Go.Own
set_option linter.unusedVariables false
set_option linter.unusedSimpArgs false

theorem isRow_rdk {k : IntKind} {w : World} {a : Option Addr} {len cap : Nat} {z : List Int} (h : IsRow k w a len cap z) : Rd w.heap.size w a len cap (fun i => .int k (z.getD i 0)) ∧ ∀ i, i < len → (Lit.int k (z.getD i 0)).wf = true := by
  rcases h with ⟨rfl, rfl, rfl, rfl⟩ | ⟨x, rfl, hl, hm, hz, hcell, hwz⟩
  · exact ⟨Rd.none_ _ _ _, fun i hi => absurd hi (by omega)⟩
  · refine ⟨rd_of_row hl hm (by omega) hcell, fun i hi => ?_⟩
    have hi2 : i < z.length := by omega
    have := hwz (z[i]) (List.getElem_mem hi2)
    simpa [List.getD, hi2] using this
theorem sliceI_upto (a : Option Addr) (len cap k : Nat) (hk : k ≤ cap) (w : World) : (Instr.slice 68 (.slice a len cap) none (some (.int .i64 (k : Nat))) none).run Try.prog w = .ok (.slice a k cap) w := by
  rw [run_slice_h w 68 a len cap (by kernel_rfl) .i64 _ (by omega) (by omega)]
  have hz : (sizeOf (Try.prog.elem 68)).run Try.prog w = .ok 1 w := by kernel_rfl
  rw [hz]
  simp [sliced, Result.andThen]
  cases a <;> simp [Addr.add]
theorem info_int : (Try.prog.info? 3).map (fun i => (i.zero, i.size, i.bytes)) = some (some (.int .i64 0), 1, 8) := by kernel_rfl
/-- What is told of numbers, one form. -/
def numOut (s : Nat → Int) (l : List Nat) (n : Nat) : List Nat := if numErr s n l.length = 0 then numsOf s l n else []
theorem NumPost.uni {w w' : World} {s : Nat → Int} {l : List Nat} {n len : Nat} {e : Ending} (hl : l.length = len) (h : NumPost w s l n len e w') : Below w.heap.size w w' ∧ ∃ x q, e = .returned (.tuple #[.slice x (numOut s l n).length q, .int .i64 (numErr s n len : Nat)]) ∧ Rd w'.heap.size w' x (numOut s l n).length q (uv (numOut s l n)) := by
  subst hl
  obtain ⟨hb, ⟨hne, rfl⟩ | ⟨h0, v, rfl, hown⟩⟩ := h
  · refine ⟨hb, ?_⟩
    unfold numOut
    rw [if_neg hne]
    exact ⟨none, 0, rfl, Rd.none_ _ _ _⟩
  · refine ⟨hb, ?_⟩
    unfold numOut
    rw [if_pos h0, numsOf_len]
    obtain ⟨x, q, rfl⟩ := own_form hown
    exact ⟨x, q, by rw [h0]; rfl, rd_of_own hown (fun i hi => ul_at _ (by rw [numsOf_len]; exact hi))⟩
/-- The numbers that the law expects. -/
def wants (s : Nat → Int) (x : Nat → Nat) (n : Nat) : List Nat := (List.range n).flatMap fun i => if isSz (s i) then [x i % 256 ^ (s i).toNat] else []
theorem wants_succ (s : Nat → Int) (x : Nat → Nat) (n : Nat) : wants s x (n + 1) = wants s x n ++ (if isSz (s n) then [x n % 256 ^ (s n).toNat] else []) := by simp [wants, List.range_succ]
theorem wants_le (s : Nat → Int) (x : Nat → Nat) : ∀ n, (wants s x n).length ≤ n
  | 0 => by simp [wants]
  | n + 1 => by
    rw [wants_succ, List.length_append]
    have := wants_le s x n
    split <;> simp <;> omega
theorem wants_all {s : Nat → Int} {x : Nat → Nat} {n : Nat} (h : allSz s n) : wants s x n = numsOf s (flat (fun i => lay1 (s i) (x i)) n) n := by
  have hll : ∀ i, i < n → (lay1 (s i) (x i)).length = (s i).toNat := fun i hi => by
    obtain ⟨q, h1, _, _, h2⟩ := lay1_yes (h i hi) (x i)
    rw [h2, numB_len, h1]; rfl
  have hk : ∀ k, k ≤ n → wants s x k = (List.range k).map fun i => val (seg s (flat (fun i => lay1 (s i) (x i)) n) i) := by
    intro k
    induction k with
    | zero => intro _; rfl
    | succ k ih =>
      intro hk
      rw [wants_succ, ih (by omega), List.range_succ, List.map_append, if_pos (h k (by omega))]
      have := flat_seg (s := s) (ls := fun i => lay1 (s i) (x i)) hll (show k < n by omega)
      obtain ⟨q, h1, _, _, h2⟩ := lay1_yes (h k (by omega)) (x k)
      simp only [List.map_cons, List.map_nil]
      rw [this, h2, val_numB, h1]
      rfl
  exact hk n (Nat.le_refl _)
theorem back_all {s : Nat → Int} {n : Nat} {l : List Nat} (h : allSz s n) (hb : bytes l) (ht : l.length = tot s n) : flat (fun i => lay1 (s i) (nth (fun i => (numsOf s l n).getD i 0) n i)) n = l := by
  have e : ∀ k, k ≤ n → flat (fun i => lay1 (s i) (nth (fun i => (numsOf s l n).getD i 0) n i)) k = flat (seg s l) k := by
    intro k
    induction k with
    | zero => intro _; rfl
    | succ k ih =>
      intro hk
      rw [flat_succ, flat_succ, ih (by omega)]
      congr 1
      obtain ⟨q, h1, _, _, h2⟩ := lay1_yes (h k (by omega)) (nth (fun i => (numsOf s l n).getD i 0) n k)
      rw [h2]
      unfold nth
      rw [if_pos (by omega)]
      show numB ((numsOf s l n).getD k 0) q = seg s l k
      rw [numsOf_at s l (show k < n by omega)]
      have hsl := seg_len s l (show k < n by omega) (by omega)
      rw [h1] at hsl
      have hsl : (seg s l k).length = q := hsl
      rw [← hsl]
      exact numB_val _ ((hb.drop _).take _)
  rw [e n (Nat.le_refl _), seg_flat s l n (by omega), ← ht, List.take_length]
theorem flat_all {s : Nat → Int} {x : Nat → Nat} {n : Nat} (h : allSz s n) : (flat (fun i => lay1 (s i) (x i)) n).length = tot s n :=
  flat_tot (fun i hi => by
    obtain ⟨q, h1, _, _, h2⟩ := lay1_yes (h i hi) (x i)
    rw [h2, numB_len, h1]; rfl) n (Nat.le_refl _)
/-- What the law's loop keeps. -/
def NumSt (w : World) (s : Nat → Int) (x : Nat → Nat) (k : Nat) (vw vn : Value) (A C : Nat) (wr : World) : Prop :=
  wr.ownsRow w.heap.size 5 1 vw A (bl (flat (fun i => lay1 (s i) (x i)) k)) ∧ (flat (fun i => lay1 (s i) (x i)) k).length = A ∧ wr.ownsRow w.heap.size 57 1 vn C (ul (wants s x k)) ∧ (wants s x k).length = C ∧ Below w.heap.size w wr
def okSz (s : Nat → Int) (k : Nat) : Bool := (List.range k).all fun i => isSz (s i)
theorem okSz_succ (s : Nat → Int) (k : Nat) : okSz s (k + 1) = (okSz s k && isSz (s k)) := by simp [okSz, List.range_succ]
set_option maxRecDepth 100000 in
set_option maxHeartbeats 8000000 in
theorem walk_PusNumbers (a0 : Option Addr) (len0 cap0 : Nat) (z0 : List Int) (a1 : Option Addr) (len1 cap1 : Nat) (z1 : List Int) (a2 : Option Addr) (len2 cap2 : Nat) (z2 : List Int) (w : World) (w0 : IsRow .i64 w a0 len0 cap0 z0) (w1' : IsRow .u32 w a1 len1 cap1 z1) (w2' : IsRow .u8 w a2 len2 cap2 z2) :
    Calls Try.prog 6 #[.slice a0 len0 cap0, .slice a1 len1 cap1, .slice a2 len2 cap2] w fun e w' => e = .returned (.bool true) ∧ Below w.heap.size w w' := by
  obtain ⟨i0, hi, hz0, hz1, hz2⟩ := info_parts info_u32
  obtain ⟨i1, hj, hy0, hy1, hy2⟩ := info_parts info_int
  obtain ⟨hr0, _⟩ := isRow_rdk w0
  obtain ⟨hr1, hwf⟩ := isRow_rdk w1'
  obtain ⟨d, hl, hdb, hr2⟩ := isRow_rd w2'
  have h1 := hr0.le
  have h2 := hr0.top
  have h3 := hr1.le
  have h4 := hr1.top
  unfold maxLen at h2 h4
  obtain ⟨v1, hv1⟩ : ∃ v1 : Nat → Nat, v1 = fun i => (z1.getD i 0).toNat := ⟨_, rfl⟩
  have hv32 : ∀ i, i < len1 → v1 i < 4294967296 := fun i hi => by
    have := bounds_u32 (hwf i hi)
    rw [hv1]; show (z1.getD i 0).toNat < _; omega
  have hr1 : Rd w.heap.size w a1 len1 cap1 (fun i => .int .u32 (v1 i : Nat)) := hr1.same (fun i hi => by
    have := bounds_u32 (hwf i hi)
    rw [hv1]
    show Value.int .u32 (z1.getD i 0) = .int .u32 (((z1.getD i 0).toNat : Nat) : Int)
    rw [Int.toNat_of_nonneg this.1])
  obtain ⟨s, hs⟩ : ∃ s : Nat → Int, s = fun i => z0.getD i 0 := ⟨_, rfl⟩
  have hr0 : Rd w.heap.size w a0 len0 cap0 (fun i => .int .i64 (s i)) := by rw [hs]; exact hr0
  obtain ⟨n, hn⟩ : ∃ n, n = min len0 12 := ⟨_, rfl⟩
  have hn12 : n ≤ 12 := by omega
  have hnl : n ≤ len0 := by omega
  have hmin := fun (w : World) => run_minJ (P := Try.prog) #[3, 3] 3 .i64 (len0 : Int) 12 w
  rw [show min (len0 : Int) 12 = (n : Int) by omega] at hmin
  have hup := fun w => sliceI_upto a0 len0 cap0 n (by omega) w
  have HR0 := Lib.hid hr0
  have HR1 := Lib.hid hr1
  have HR2 := Lib.hid hr2
  have HL := Lib.hid hl
  have HV32 := Lib.hid hv32
  clear w0 w1' w2' hr0 hr1 hr2 hl hv32 hwf hv1 hs hn
  go_enter Try.func6, Try.ntmps6
  go_wp2_with fail
  go_at_call 23
  refine (awake10 _).mono ?_
  rintro e w1 ⟨rfl, hb1⟩
  have HB1 := Lib.hid hb1
  have hs1 := hb1.size
  clear hb1
  go_wp2_with (at_builtin; refine wpList_app rfl _ _ 68 rfl w.heap.size 3 i1 (.int .i64 0) 8 Try.underlying68 hj hy0 hy1 hy2 rfl _ _ _ rfl (World.ownsRow_made _ #[] 0 hs1 (by decide) rfl) rfl (((HR0.out.first hnl).below HB1.out).below' ((Below.refl _ _).alloc (Nat.le_refl _) _) hs1) (fun i => rfl) ?c1 ?c2 ?c3 ?_)
  all_goals try (first | omega | (unfold maxLen; omega) | (simp; omega))
  intro v2 w2 hown2 hgrow2
  obtain ⟨sa, sc, rfl⟩ := own_form hown2
  have HS2 := Lib.hid (rd_of_own (f := fun i => .int .i64 (s i)) hown2 (fun i hi => by simp [hi]))
  have HB2 := Lib.hid ((HB1.out.alloc hs1 (.cells #[] 3)).grown hgrow2 (by simp; omega) (fun j hj => by simp [Value.ownBlock] at hj; omega))
  have hs2 : w.heap.size ≤ w2.heap.size := HB2.out.size
  clear hown2 hgrow2 HB1 hs1 hup hmin
  go_wp2_with fail
  go_at_call 19
  refine (Cut_any a2 len2 cap2 d 30 _ HL.out ((HR2.out.below HB2.out).mono hs2) (by decide)).mono ?_
  rintro e w3 ⟨v, rfl, hown, hb3⟩
  obtain ⟨ra, rc, rfl⟩ := own_form hown
  obtain ⟨mr, hm⟩ : ∃ mr, mr = min 30 len2 := ⟨_, rfl⟩
  obtain ⟨R, hRR⟩ : ∃ R, R = d.take 30 := ⟨_, rfl⟩
  have hRb : bytes R := by rw [hRR]; exact hdb.take 30
  have hRl : R.length = mr := by rw [hRR, hm]; exact bytes_take HL.out
  have hmr : mr ≤ 30 := by omega
  rw [← hm, ← hRR] at hown
  rw [← hm]
  have HRL := Lib.hid hRl
  have HRD := Lib.hid (rd_of_own (f := bv R) hown (fun i hi => bl_at R (by rw [HRL.out]; exact hi)))
  have HS3 := Lib.hid (rd_grow HS2.out hb3)
  have HB3 := Lib.hid (HB2.out.trans (hb3.mono hs2))
  have HV3 := Lib.hid ((HR1.out.below HB3.out).mono HB3.out.size)
  have hs3 : w.heap.size ≤ w3.heap.size := HB3.out.size
  clear hm hRR hRl hown hb3 HS2 HB2 HR0 HR2 hdb HL
  obtain ⟨xx, hxx⟩ : ∃ xx : Nat → Nat, xx = nth v1 len1 := ⟨_, rfl⟩
  go_wp2_with fail
  go_loopw [7, 8, 9, 32] (fun vw rt vn i wr => ∃ k A C : Nat, k ≤ n ∧ i = .int .i64 (k : Nat) ∧ rt = .bool (okSz s k) ∧ NumSt w3 s xx k vw vn A C wr) (fun _ _ _ i _ => n - (intOf i).toNat)
  case atStart => exact ⟨0, 0, 0, Nat.zero_le _, rfl, rfl, ⟨by simpa [flat, bl] using World.ownsRow_nil _ _ _ _, rfl, by simpa [wants, ul] using World.ownsRow_nil _ _ _ _, rfl, Below.refl _ _⟩⟩
  case round =>
    obtain ⟨k, A, C, hk, rfl, rfl, hst⟩ := hrel
    obtain ⟨how, hfl, hon, hnq, hB⟩ := hst
    have hl4 := flat_len4 (fun i => lay1 (s i) (xx i)) (fun i => lay1_len _ _) k
    rw [hfl] at hl4
    have hcn := wants_le s xx k
    rw [hnq] at hcn
    obtain ⟨wa, wc, rfl⟩ := own_form how
    have HNL := Lib.hid hnq
    have HON := Lib.hid hon
    have HB := Lib.hid hB
    have hws : w3.heap.size ≤ wr.heap.size := hB.size
    by_cases hlt : k < n
    · have hfs : flat (fun i => lay1 (s i) (xx i)) (k + 1) = flat (fun i => lay1 (s i) (xx i)) k ++ lay1 (s k) (xx k) := flat_succ _ k
      have hwt := wants_succ s xx k
      have hos := okSz_succ s k
      obtain ⟨bb, ob, rfl, hbb, hcb⟩ := (HS3.out.below HB.out).at hlt
      obtain ⟨F, hF⟩ : ∃ F, F = flat (fun i => lay1 (s i) (xx i)) k := ⟨_, rfl⟩
      obtain ⟨z, hz⟩ : ∃ z, z = s k := ⟨_, rfl⟩
      obtain ⟨N, hN⟩ : ∃ N, N = xx k := ⟨_, rfl⟩
      rw [← hF] at hfs how hfl
      rw [← hz, ← hN] at hfs hwt
      rw [← hz] at hos hcb
      have HOW := Lib.hid how
      have HFL := Lib.hid hfl
      have hsel : z = 1 ∨ z = 2 ∨ z = 4 ∨ (z ≠ 1 ∧ z ≠ 2 ∧ z ≠ 4) := by omega
      clear how hfl hon hnq hB hF hz
      by_cases hkm : k < len1
      · have hNv : N = v1 k := by rw [hN, hxx]; unfold nth; rw [if_pos hkm]
        obtain ⟨bc, oc, rfl, hbc, hcc⟩ := (HV3.out.below HB.out).at hkm
        have hN32 : N < 4294967296 := by rw [hNv]; exact HV32.out k hkm
        rw [← hNv] at hcc
        clear hN hNv hxx
        rcases hsel with h | h | h | h
        · subst h
          rw [show lay1 1 N = numB N 1 from rfl] at hfs
          rw [show isSz 1 = true from rfl, if_pos rfl, show (1 : Int).toNat = 1 from rfl, show (256 : Nat) ^ 1 = 256 from rfl] at hwt
          rw [show isSz 1 = true from rfl, Bool.and_true] at hos
          obtain ⟨y, hy⟩ : ∃ y, y = N % 256 := ⟨_, rfl⟩
          have hyI : Int.tmod (N : Int) 256 = (y : Int) := by rw [Int.tmod_eq_emod_of_nonneg (by omega)]; omega
          have hyJ : (N : Int) % 256 = (y : Int) := by omega
          have hy2 : y < 4294967296 := by omega
          have hy3 : N = 0 → y = 0 := by intro e; rw [hy, e]
          rw [← hy] at hwt
          have HFS := Lib.hid hfs
          have HWS := Lib.hid hwt
          have HOS := Lib.hid hos
          have HY3 := Lib.hid hy3
          clear hfs hwt hos hy hy3
          go_wp2_with fail
          go_at_call 38
          refine (Num_z _ N 1 _ (by first | rfl | omega) (by omega) (by decide)).mono ?_
          rintro e w4 ⟨na, nc, rfl, hown, hb3⟩
          obtain ⟨B, hB'⟩ : ∃ B, B = numB N 1 := ⟨_, rfl⟩
          have hBl : B.length = 1 := by rw [hB']; exact numB_len _ _
          rw [← hB'] at hown
          have HB' := Lib.hid hB'
          have HBL := Lib.hid hBl
          have HNR := Lib.hid (rd_of_own (f := bv B) hown (fun i hi => bl_at B (by rw [HBL.out]; exact hi)))
          have how3 := own_keep HOW.out hb3
          have HWR := Lib.hid (rd_of_own (f := bv F) how3 (fun i hi => bl_at F (by rw [HFL.out]; exact hi)))
          have HON3 := Lib.hid (own_keep HON.out hb3)
          have HB4 := Lib.hid (HB.out.trans (hb3.mono hws))
          have hs4 : w3.heap.size ≤ w4.heap.size := HB4.out.size
          clear hB' hBl hown hb3 how3 HOW HON HB
          go_wp2_with fail
          have hal3 : Below w4.heap.size w4 (w4.alloc (.cells #[.slice wa A wc, .slice na 1 nc] 23)) := (Below.refl _ _).alloc (Nat.le_refl _) _
          go_at_call 18
          have hll : (F ++ B).length = A + 1 := by rw [List.length_append, HFL.out, HBL.out]
          refine (Join2 (n := w4.heap.size) (n' := w4.heap.size) HFL.out HBL.out (heap_alloc_new _ _) (HWR.out.below hal3) (HNR.out.below hal3) (by simp) (by simp) (by omega)).mono ?_
          rintro e w5 ⟨v, rfl, hown4, hb4⟩
          rw [hll] at hown4
          obtain ⟨ja, jc, rfl⟩ := own_form hown4
          have hb34 := hal3.trans (hb4.mono (by simp))
          have hown4 := own_base hown4 (show w3.heap.size ≤ (w4.alloc (.cells #[.slice wa A wc, .slice na 1 nc] 23)).heap.size by simp; omega)
          have HW5 := Lib.hid hown4
          have HN5 := Lib.hid (own_keep HON3.out hb34)
          have HB5 := Lib.hid (HB4.out.trans (hb34.mono hs4))
          have hs5 : w3.heap.size ≤ w5.heap.size := HB5.out.size
          have HLL := Lib.hid hll
          obtain ⟨A2, hA2⟩ : ∃ A2, A2 = A + 1 := ⟨_, rfl⟩
          rw [← hA2] at HW5 HLL ⊢
          have hA2b : A2 ≤ 4 * (k + 1) := by omega
          clear hll hown4 hb4 hal3 hb34 HON3 HB4 HWR HNR hs4 hA2
          go_wp2_with (at_builtin; refine wpList_append_own _ rfl _ _ 69 rfl w3.heap.size 57 i0 (.int .u32 0) 1 4 Try.underlying69 hi hz0 hz1 hz2 rfl (by decide) _ _ _ rfl (HN5.out.alloc _) ⟨w5.heap.size, 0, none⟩ 1 1 [.int .u32 (y : Int)] rfl rfl (by first | exact cell_one_new _ _ _ | (rw [show (y : Int) = 0 by have := HY3.out; omega]; exact cell_one_new _ _ _)) (by simp [Value.oneCell']) (by unfold maxLen; omega) (by omega) (by simp; omega) ?_)
          intro v' w6 hown5 hgrow5 _
          have HW6 := Lib.hid ((HW5.out.alloc _).kept hgrow5 (own_apart HW5.out HN5.out (by decide)))
          have hb5 : Below w3.heap.size w5 w6 := ((Below.refl _ _).alloc hs5 _).grown hgrow5 (by simp; omega) (fun j hj => (HN5.out.lt j hj).1)
          have HST := Lib.hid (show NumSt w3 s xx (k + 1) (.slice ja A2 jc) v' A2 (C + 1) w6 from ⟨by rw [HFS.out, ← HB'.out]; exact HW6.out, by rw [HFS.out, ← HB'.out]; exact HLL.out, by rw [HWS.out]; unfold ul; rw [List.map_append]; exact hown5, by rw [HWS.out, List.length_append, HNL.out]; rfl, HB5.out.trans hb5⟩)
          clear hown5 hgrow5 hb5 HW6 HN5 HW5 HB5
          go_wp2
          go_roundw
          case rel => exact ⟨k + 1, A2, C + 1, by omega, by go_num, by rw [HOS.out], HST.out⟩
          case measure => simp [intOf]; omega
        · subst h
          rw [show lay1 2 N = numB N 2 from rfl] at hfs
          rw [show isSz 2 = true from rfl, if_pos rfl, show (2 : Int).toNat = 2 from rfl, show (256 : Nat) ^ 2 = 65536 from rfl] at hwt
          rw [show isSz 2 = true from rfl, Bool.and_true] at hos
          obtain ⟨y, hy⟩ : ∃ y, y = N % 65536 := ⟨_, rfl⟩
          have hyI : Int.tmod (N : Int) 65536 = (y : Int) := by rw [Int.tmod_eq_emod_of_nonneg (by omega)]; omega
          have hyJ : (N : Int) % 65536 = (y : Int) := by omega
          have hy2 : y < 4294967296 := by omega
          have hy3 : N = 0 → y = 0 := by intro e; rw [hy, e]
          rw [← hy] at hwt
          have HFS := Lib.hid hfs
          have HWS := Lib.hid hwt
          have HOS := Lib.hid hos
          have HY3 := Lib.hid hy3
          clear hfs hwt hos hy hy3
          go_wp2_with fail
          go_at_call 38
          refine (Num_z _ N 2 _ (by first | rfl | omega) (by omega) (by decide)).mono ?_
          rintro e w4 ⟨na, nc, rfl, hown, hb3⟩
          obtain ⟨B, hB'⟩ : ∃ B, B = numB N 2 := ⟨_, rfl⟩
          have hBl : B.length = 2 := by rw [hB']; exact numB_len _ _
          rw [← hB'] at hown
          have HB' := Lib.hid hB'
          have HBL := Lib.hid hBl
          have HNR := Lib.hid (rd_of_own (f := bv B) hown (fun i hi => bl_at B (by rw [HBL.out]; exact hi)))
          have how3 := own_keep HOW.out hb3
          have HWR := Lib.hid (rd_of_own (f := bv F) how3 (fun i hi => bl_at F (by rw [HFL.out]; exact hi)))
          have HON3 := Lib.hid (own_keep HON.out hb3)
          have HB4 := Lib.hid (HB.out.trans (hb3.mono hws))
          have hs4 : w3.heap.size ≤ w4.heap.size := HB4.out.size
          clear hB' hBl hown hb3 how3 HOW HON HB
          go_wp2_with fail
          have hal3 : Below w4.heap.size w4 (w4.alloc (.cells #[.slice wa A wc, .slice na 2 nc] 23)) := (Below.refl _ _).alloc (Nat.le_refl _) _
          go_at_call 18
          have hll : (F ++ B).length = A + 2 := by rw [List.length_append, HFL.out, HBL.out]
          refine (Join2 (n := w4.heap.size) (n' := w4.heap.size) HFL.out HBL.out (heap_alloc_new _ _) (HWR.out.below hal3) (HNR.out.below hal3) (by simp) (by simp) (by omega)).mono ?_
          rintro e w5 ⟨v, rfl, hown4, hb4⟩
          rw [hll] at hown4
          obtain ⟨ja, jc, rfl⟩ := own_form hown4
          have hb34 := hal3.trans (hb4.mono (by simp))
          have hown4 := own_base hown4 (show w3.heap.size ≤ (w4.alloc (.cells #[.slice wa A wc, .slice na 2 nc] 23)).heap.size by simp; omega)
          have HW5 := Lib.hid hown4
          have HN5 := Lib.hid (own_keep HON3.out hb34)
          have HB5 := Lib.hid (HB4.out.trans (hb34.mono hs4))
          have hs5 : w3.heap.size ≤ w5.heap.size := HB5.out.size
          have HLL := Lib.hid hll
          obtain ⟨A2, hA2⟩ : ∃ A2, A2 = A + 2 := ⟨_, rfl⟩
          rw [← hA2] at HW5 HLL ⊢
          have hA2b : A2 ≤ 4 * (k + 1) := by omega
          clear hll hown4 hb4 hal3 hb34 HON3 HB4 HWR HNR hs4 hA2
          go_wp2_with (at_builtin; refine wpList_append_own _ rfl _ _ 69 rfl w3.heap.size 57 i0 (.int .u32 0) 1 4 Try.underlying69 hi hz0 hz1 hz2 rfl (by decide) _ _ _ rfl (HN5.out.alloc _) ⟨w5.heap.size, 0, none⟩ 1 1 [.int .u32 (y : Int)] rfl rfl (by first | exact cell_one_new _ _ _ | (rw [show (y : Int) = 0 by have := HY3.out; omega]; exact cell_one_new _ _ _)) (by simp [Value.oneCell']) (by unfold maxLen; omega) (by omega) (by simp; omega) ?_)
          intro v' w6 hown5 hgrow5 _
          have HW6 := Lib.hid ((HW5.out.alloc _).kept hgrow5 (own_apart HW5.out HN5.out (by decide)))
          have hb5 : Below w3.heap.size w5 w6 := ((Below.refl _ _).alloc hs5 _).grown hgrow5 (by simp; omega) (fun j hj => (HN5.out.lt j hj).1)
          have HST := Lib.hid (show NumSt w3 s xx (k + 1) (.slice ja A2 jc) v' A2 (C + 1) w6 from ⟨by rw [HFS.out, ← HB'.out]; exact HW6.out, by rw [HFS.out, ← HB'.out]; exact HLL.out, by rw [HWS.out]; unfold ul; rw [List.map_append]; exact hown5, by rw [HWS.out, List.length_append, HNL.out]; rfl, HB5.out.trans hb5⟩)
          clear hown5 hgrow5 hb5 HW6 HN5 HW5 HB5
          go_wp2
          go_roundw
          case rel => exact ⟨k + 1, A2, C + 1, by omega, by go_num, by rw [HOS.out], HST.out⟩
          case measure => simp [intOf]; omega
        · subst h
          rw [show lay1 4 N = numB N 4 from rfl] at hfs
          rw [show isSz 4 = true from rfl, if_pos rfl, show (4 : Int).toNat = 4 from rfl, show (256 : Nat) ^ 4 = 4294967296 from rfl] at hwt
          rw [show isSz 4 = true from rfl, Bool.and_true] at hos
          obtain ⟨y, hy⟩ : ∃ y, y = N % 4294967296 := ⟨_, rfl⟩
          have hyI : Int.tmod (N : Int) 4294967296 = (y : Int) := by rw [Int.tmod_eq_emod_of_nonneg (by omega)]; omega
          have hyJ : (N : Int) % 4294967296 = (y : Int) := by omega
          have hy2 : y < 4294967296 := by omega
          have hy3 : N = 0 → y = 0 := by intro e; rw [hy, e]
          rw [← hy] at hwt
          have HFS := Lib.hid hfs
          have HWS := Lib.hid hwt
          have HOS := Lib.hid hos
          have HY3 := Lib.hid hy3
          clear hfs hwt hos hy hy3
          go_wp2_with fail
          go_at_call 38
          refine (Num_z _ N 4 _ (by first | rfl | omega) (by omega) (by decide)).mono ?_
          rintro e w4 ⟨na, nc, rfl, hown, hb3⟩
          obtain ⟨B, hB'⟩ : ∃ B, B = numB N 4 := ⟨_, rfl⟩
          have hBl : B.length = 4 := by rw [hB']; exact numB_len _ _
          rw [← hB'] at hown
          have HB' := Lib.hid hB'
          have HBL := Lib.hid hBl
          have HNR := Lib.hid (rd_of_own (f := bv B) hown (fun i hi => bl_at B (by rw [HBL.out]; exact hi)))
          have how3 := own_keep HOW.out hb3
          have HWR := Lib.hid (rd_of_own (f := bv F) how3 (fun i hi => bl_at F (by rw [HFL.out]; exact hi)))
          have HON3 := Lib.hid (own_keep HON.out hb3)
          have HB4 := Lib.hid (HB.out.trans (hb3.mono hws))
          have hs4 : w3.heap.size ≤ w4.heap.size := HB4.out.size
          clear hB' hBl hown hb3 how3 HOW HON HB
          go_wp2_with fail
          have hal3 : Below w4.heap.size w4 (w4.alloc (.cells #[.slice wa A wc, .slice na 4 nc] 23)) := (Below.refl _ _).alloc (Nat.le_refl _) _
          go_at_call 18
          have hll : (F ++ B).length = A + 4 := by rw [List.length_append, HFL.out, HBL.out]
          refine (Join2 (n := w4.heap.size) (n' := w4.heap.size) HFL.out HBL.out (heap_alloc_new _ _) (HWR.out.below hal3) (HNR.out.below hal3) (by simp) (by simp) (by omega)).mono ?_
          rintro e w5 ⟨v, rfl, hown4, hb4⟩
          rw [hll] at hown4
          obtain ⟨ja, jc, rfl⟩ := own_form hown4
          have hb34 := hal3.trans (hb4.mono (by simp))
          have hown4 := own_base hown4 (show w3.heap.size ≤ (w4.alloc (.cells #[.slice wa A wc, .slice na 4 nc] 23)).heap.size by simp; omega)
          have HW5 := Lib.hid hown4
          have HN5 := Lib.hid (own_keep HON3.out hb34)
          have HB5 := Lib.hid (HB4.out.trans (hb34.mono hs4))
          have hs5 : w3.heap.size ≤ w5.heap.size := HB5.out.size
          have HLL := Lib.hid hll
          obtain ⟨A2, hA2⟩ : ∃ A2, A2 = A + 4 := ⟨_, rfl⟩
          rw [← hA2] at HW5 HLL ⊢
          have hA2b : A2 ≤ 4 * (k + 1) := by omega
          clear hll hown4 hb4 hal3 hb34 HON3 HB4 HWR HNR hs4 hA2
          go_wp2_with (at_builtin; refine wpList_append_own _ rfl _ _ 69 rfl w3.heap.size 57 i0 (.int .u32 0) 1 4 Try.underlying69 hi hz0 hz1 hz2 rfl (by decide) _ _ _ rfl (HN5.out.alloc _) ⟨w5.heap.size, 0, none⟩ 1 1 [.int .u32 (y : Int)] rfl rfl (by first | exact cell_one_new _ _ _ | (rw [show (y : Int) = 0 by have := HY3.out; omega]; exact cell_one_new _ _ _)) (by simp [Value.oneCell']) (by unfold maxLen; omega) (by omega) (by simp; omega) ?_)
          intro v' w6 hown5 hgrow5 _
          have HW6 := Lib.hid ((HW5.out.alloc _).kept hgrow5 (own_apart HW5.out HN5.out (by decide)))
          have hb5 : Below w3.heap.size w5 w6 := ((Below.refl _ _).alloc hs5 _).grown hgrow5 (by simp; omega) (fun j hj => (HN5.out.lt j hj).1)
          have HST := Lib.hid (show NumSt w3 s xx (k + 1) (.slice ja A2 jc) v' A2 (C + 1) w6 from ⟨by rw [HFS.out, ← HB'.out]; exact HW6.out, by rw [HFS.out, ← HB'.out]; exact HLL.out, by rw [HWS.out]; unfold ul; rw [List.map_append]; exact hown5, by rw [HWS.out, List.length_append, HNL.out]; rfl, HB5.out.trans hb5⟩)
          clear hown5 hgrow5 hb5 HW6 HN5 HW5 HB5
          go_wp2
          go_roundw
          case rel => exact ⟨k + 1, A2, C + 1, by omega, by go_num, by rw [HOS.out], HST.out⟩
          case measure => simp [intOf]; omega
        · have hz1' : (z != 1) = true := by simp [bne]; exact h.1
          have hz2' : (z != 2) = true := by simp [bne]; exact h.2.1
          have hz4' : (z != 4) = true := by simp [bne]; exact h.2.2
          have hsz : isSz z = false := by unfold isSz; rw [decide_eq_false_iff_not]; intro e; omega
          rw [hsz, if_neg (by decide), List.append_nil] at hwt
          rw [lay1_no hsz, List.append_nil] at hfs
          rw [hsz, Bool.and_false] at hos
          have HOS := Lib.hid hos
          have HST := Lib.hid (show NumSt w3 s xx (k + 1) (.slice wa A wc) _ A C wr from ⟨by rw [hfs]; exact HOW.out, by rw [hfs]; exact HFL.out, by rw [hwt]; exact HON.out, by rw [hwt]; exact HNL.out, HB.out⟩)
          clear hsz hfs hwt hos h
          go_wp2
          go_roundw
          case rel => exact ⟨k + 1, A, C, by omega, by go_num, by rw [HOS.out], HST.out⟩
          case measure => simp [intOf]; omega
      · have hN0 : N = 0 := by rw [hN, hxx]; unfold nth; rw [if_neg hkm]
        have hN32 : N < 4294967296 := by omega
        clear hN hxx
        rcases hsel with h | h | h | h
        · subst h
          rw [show lay1 1 N = numB N 1 from rfl] at hfs
          rw [show isSz 1 = true from rfl, if_pos rfl, show (1 : Int).toNat = 1 from rfl, show (256 : Nat) ^ 1 = 256 from rfl] at hwt
          rw [show isSz 1 = true from rfl, Bool.and_true] at hos
          obtain ⟨y, hy⟩ : ∃ y, y = N % 256 := ⟨_, rfl⟩
          have hyI : Int.tmod (N : Int) 256 = (y : Int) := by rw [Int.tmod_eq_emod_of_nonneg (by omega)]; omega
          have hyJ : (N : Int) % 256 = (y : Int) := by omega
          have hy2 : y < 4294967296 := by omega
          have hy3 : N = 0 → y = 0 := by intro e; rw [hy, e]
          rw [← hy] at hwt
          have HFS := Lib.hid hfs
          have HWS := Lib.hid hwt
          have HOS := Lib.hid hos
          have HY3 := Lib.hid hy3
          clear hfs hwt hos hy hy3
          go_wp2_with fail
          go_at_call 38
          refine (Num_z _ N 1 _ (by first | rfl | omega) (by omega) (by decide)).mono ?_
          rintro e w4 ⟨na, nc, rfl, hown, hb3⟩
          obtain ⟨B, hB'⟩ : ∃ B, B = numB N 1 := ⟨_, rfl⟩
          have hBl : B.length = 1 := by rw [hB']; exact numB_len _ _
          rw [← hB'] at hown
          have HB' := Lib.hid hB'
          have HBL := Lib.hid hBl
          have HNR := Lib.hid (rd_of_own (f := bv B) hown (fun i hi => bl_at B (by rw [HBL.out]; exact hi)))
          have how3 := own_keep HOW.out hb3
          have HWR := Lib.hid (rd_of_own (f := bv F) how3 (fun i hi => bl_at F (by rw [HFL.out]; exact hi)))
          have HON3 := Lib.hid (own_keep HON.out hb3)
          have HB4 := Lib.hid (HB.out.trans (hb3.mono hws))
          have hs4 : w3.heap.size ≤ w4.heap.size := HB4.out.size
          clear hB' hBl hown hb3 how3 HOW HON HB
          go_wp2_with fail
          have hal3 : Below w4.heap.size w4 (w4.alloc (.cells #[.slice wa A wc, .slice na 1 nc] 23)) := (Below.refl _ _).alloc (Nat.le_refl _) _
          go_at_call 18
          have hll : (F ++ B).length = A + 1 := by rw [List.length_append, HFL.out, HBL.out]
          refine (Join2 (n := w4.heap.size) (n' := w4.heap.size) HFL.out HBL.out (heap_alloc_new _ _) (HWR.out.below hal3) (HNR.out.below hal3) (by simp) (by simp) (by omega)).mono ?_
          rintro e w5 ⟨v, rfl, hown4, hb4⟩
          rw [hll] at hown4
          obtain ⟨ja, jc, rfl⟩ := own_form hown4
          have hb34 := hal3.trans (hb4.mono (by simp))
          have hown4 := own_base hown4 (show w3.heap.size ≤ (w4.alloc (.cells #[.slice wa A wc, .slice na 1 nc] 23)).heap.size by simp; omega)
          have HW5 := Lib.hid hown4
          have HN5 := Lib.hid (own_keep HON3.out hb34)
          have HB5 := Lib.hid (HB4.out.trans (hb34.mono hs4))
          have hs5 : w3.heap.size ≤ w5.heap.size := HB5.out.size
          have HLL := Lib.hid hll
          obtain ⟨A2, hA2⟩ : ∃ A2, A2 = A + 1 := ⟨_, rfl⟩
          rw [← hA2] at HW5 HLL ⊢
          have hA2b : A2 ≤ 4 * (k + 1) := by omega
          clear hll hown4 hb4 hal3 hb34 HON3 HB4 HWR HNR hs4 hA2
          go_wp2_with (at_builtin; refine wpList_append_own _ rfl _ _ 69 rfl w3.heap.size 57 i0 (.int .u32 0) 1 4 Try.underlying69 hi hz0 hz1 hz2 rfl (by decide) _ _ _ rfl (HN5.out.alloc _) ⟨w5.heap.size, 0, none⟩ 1 1 [.int .u32 (y : Int)] rfl rfl (by first | exact cell_one_new _ _ _ | (rw [show (y : Int) = 0 by have := HY3.out; omega]; exact cell_one_new _ _ _)) (by simp [Value.oneCell']) (by unfold maxLen; omega) (by omega) (by simp; omega) ?_)
          intro v' w6 hown5 hgrow5 _
          have HW6 := Lib.hid ((HW5.out.alloc _).kept hgrow5 (own_apart HW5.out HN5.out (by decide)))
          have hb5 : Below w3.heap.size w5 w6 := ((Below.refl _ _).alloc hs5 _).grown hgrow5 (by simp; omega) (fun j hj => (HN5.out.lt j hj).1)
          have HST := Lib.hid (show NumSt w3 s xx (k + 1) (.slice ja A2 jc) v' A2 (C + 1) w6 from ⟨by rw [HFS.out, ← HB'.out]; exact HW6.out, by rw [HFS.out, ← HB'.out]; exact HLL.out, by rw [HWS.out]; unfold ul; rw [List.map_append]; exact hown5, by rw [HWS.out, List.length_append, HNL.out]; rfl, HB5.out.trans hb5⟩)
          clear hown5 hgrow5 hb5 HW6 HN5 HW5 HB5
          go_wp2
          go_roundw
          case rel => exact ⟨k + 1, A2, C + 1, by omega, by go_num, by rw [HOS.out], HST.out⟩
          case measure => simp [intOf]; omega
        · subst h
          rw [show lay1 2 N = numB N 2 from rfl] at hfs
          rw [show isSz 2 = true from rfl, if_pos rfl, show (2 : Int).toNat = 2 from rfl, show (256 : Nat) ^ 2 = 65536 from rfl] at hwt
          rw [show isSz 2 = true from rfl, Bool.and_true] at hos
          obtain ⟨y, hy⟩ : ∃ y, y = N % 65536 := ⟨_, rfl⟩
          have hyI : Int.tmod (N : Int) 65536 = (y : Int) := by rw [Int.tmod_eq_emod_of_nonneg (by omega)]; omega
          have hyJ : (N : Int) % 65536 = (y : Int) := by omega
          have hy2 : y < 4294967296 := by omega
          have hy3 : N = 0 → y = 0 := by intro e; rw [hy, e]
          rw [← hy] at hwt
          have HFS := Lib.hid hfs
          have HWS := Lib.hid hwt
          have HOS := Lib.hid hos
          have HY3 := Lib.hid hy3
          clear hfs hwt hos hy hy3
          go_wp2_with fail
          go_at_call 38
          refine (Num_z _ N 2 _ (by first | rfl | omega) (by omega) (by decide)).mono ?_
          rintro e w4 ⟨na, nc, rfl, hown, hb3⟩
          obtain ⟨B, hB'⟩ : ∃ B, B = numB N 2 := ⟨_, rfl⟩
          have hBl : B.length = 2 := by rw [hB']; exact numB_len _ _
          rw [← hB'] at hown
          have HB' := Lib.hid hB'
          have HBL := Lib.hid hBl
          have HNR := Lib.hid (rd_of_own (f := bv B) hown (fun i hi => bl_at B (by rw [HBL.out]; exact hi)))
          have how3 := own_keep HOW.out hb3
          have HWR := Lib.hid (rd_of_own (f := bv F) how3 (fun i hi => bl_at F (by rw [HFL.out]; exact hi)))
          have HON3 := Lib.hid (own_keep HON.out hb3)
          have HB4 := Lib.hid (HB.out.trans (hb3.mono hws))
          have hs4 : w3.heap.size ≤ w4.heap.size := HB4.out.size
          clear hB' hBl hown hb3 how3 HOW HON HB
          go_wp2_with fail
          have hal3 : Below w4.heap.size w4 (w4.alloc (.cells #[.slice wa A wc, .slice na 2 nc] 23)) := (Below.refl _ _).alloc (Nat.le_refl _) _
          go_at_call 18
          have hll : (F ++ B).length = A + 2 := by rw [List.length_append, HFL.out, HBL.out]
          refine (Join2 (n := w4.heap.size) (n' := w4.heap.size) HFL.out HBL.out (heap_alloc_new _ _) (HWR.out.below hal3) (HNR.out.below hal3) (by simp) (by simp) (by omega)).mono ?_
          rintro e w5 ⟨v, rfl, hown4, hb4⟩
          rw [hll] at hown4
          obtain ⟨ja, jc, rfl⟩ := own_form hown4
          have hb34 := hal3.trans (hb4.mono (by simp))
          have hown4 := own_base hown4 (show w3.heap.size ≤ (w4.alloc (.cells #[.slice wa A wc, .slice na 2 nc] 23)).heap.size by simp; omega)
          have HW5 := Lib.hid hown4
          have HN5 := Lib.hid (own_keep HON3.out hb34)
          have HB5 := Lib.hid (HB4.out.trans (hb34.mono hs4))
          have hs5 : w3.heap.size ≤ w5.heap.size := HB5.out.size
          have HLL := Lib.hid hll
          obtain ⟨A2, hA2⟩ : ∃ A2, A2 = A + 2 := ⟨_, rfl⟩
          rw [← hA2] at HW5 HLL ⊢
          have hA2b : A2 ≤ 4 * (k + 1) := by omega
          clear hll hown4 hb4 hal3 hb34 HON3 HB4 HWR HNR hs4 hA2
          go_wp2_with (at_builtin; refine wpList_append_own _ rfl _ _ 69 rfl w3.heap.size 57 i0 (.int .u32 0) 1 4 Try.underlying69 hi hz0 hz1 hz2 rfl (by decide) _ _ _ rfl (HN5.out.alloc _) ⟨w5.heap.size, 0, none⟩ 1 1 [.int .u32 (y : Int)] rfl rfl (by first | exact cell_one_new _ _ _ | (rw [show (y : Int) = 0 by have := HY3.out; omega]; exact cell_one_new _ _ _)) (by simp [Value.oneCell']) (by unfold maxLen; omega) (by omega) (by simp; omega) ?_)
          intro v' w6 hown5 hgrow5 _
          have HW6 := Lib.hid ((HW5.out.alloc _).kept hgrow5 (own_apart HW5.out HN5.out (by decide)))
          have hb5 : Below w3.heap.size w5 w6 := ((Below.refl _ _).alloc hs5 _).grown hgrow5 (by simp; omega) (fun j hj => (HN5.out.lt j hj).1)
          have HST := Lib.hid (show NumSt w3 s xx (k + 1) (.slice ja A2 jc) v' A2 (C + 1) w6 from ⟨by rw [HFS.out, ← HB'.out]; exact HW6.out, by rw [HFS.out, ← HB'.out]; exact HLL.out, by rw [HWS.out]; unfold ul; rw [List.map_append]; exact hown5, by rw [HWS.out, List.length_append, HNL.out]; rfl, HB5.out.trans hb5⟩)
          clear hown5 hgrow5 hb5 HW6 HN5 HW5 HB5
          go_wp2
          go_roundw
          case rel => exact ⟨k + 1, A2, C + 1, by omega, by go_num, by rw [HOS.out], HST.out⟩
          case measure => simp [intOf]; omega
        · subst h
          rw [show lay1 4 N = numB N 4 from rfl] at hfs
          rw [show isSz 4 = true from rfl, if_pos rfl, show (4 : Int).toNat = 4 from rfl, show (256 : Nat) ^ 4 = 4294967296 from rfl] at hwt
          rw [show isSz 4 = true from rfl, Bool.and_true] at hos
          obtain ⟨y, hy⟩ : ∃ y, y = N % 4294967296 := ⟨_, rfl⟩
          have hyI : Int.tmod (N : Int) 4294967296 = (y : Int) := by rw [Int.tmod_eq_emod_of_nonneg (by omega)]; omega
          have hyJ : (N : Int) % 4294967296 = (y : Int) := by omega
          have hy2 : y < 4294967296 := by omega
          have hy3 : N = 0 → y = 0 := by intro e; rw [hy, e]
          rw [← hy] at hwt
          have HFS := Lib.hid hfs
          have HWS := Lib.hid hwt
          have HOS := Lib.hid hos
          have HY3 := Lib.hid hy3
          clear hfs hwt hos hy hy3
          go_wp2_with fail
          go_at_call 38
          refine (Num_z _ N 4 _ (by first | rfl | omega) (by omega) (by decide)).mono ?_
          rintro e w4 ⟨na, nc, rfl, hown, hb3⟩
          obtain ⟨B, hB'⟩ : ∃ B, B = numB N 4 := ⟨_, rfl⟩
          have hBl : B.length = 4 := by rw [hB']; exact numB_len _ _
          rw [← hB'] at hown
          have HB' := Lib.hid hB'
          have HBL := Lib.hid hBl
          have HNR := Lib.hid (rd_of_own (f := bv B) hown (fun i hi => bl_at B (by rw [HBL.out]; exact hi)))
          have how3 := own_keep HOW.out hb3
          have HWR := Lib.hid (rd_of_own (f := bv F) how3 (fun i hi => bl_at F (by rw [HFL.out]; exact hi)))
          have HON3 := Lib.hid (own_keep HON.out hb3)
          have HB4 := Lib.hid (HB.out.trans (hb3.mono hws))
          have hs4 : w3.heap.size ≤ w4.heap.size := HB4.out.size
          clear hB' hBl hown hb3 how3 HOW HON HB
          go_wp2_with fail
          have hal3 : Below w4.heap.size w4 (w4.alloc (.cells #[.slice wa A wc, .slice na 4 nc] 23)) := (Below.refl _ _).alloc (Nat.le_refl _) _
          go_at_call 18
          have hll : (F ++ B).length = A + 4 := by rw [List.length_append, HFL.out, HBL.out]
          refine (Join2 (n := w4.heap.size) (n' := w4.heap.size) HFL.out HBL.out (heap_alloc_new _ _) (HWR.out.below hal3) (HNR.out.below hal3) (by simp) (by simp) (by omega)).mono ?_
          rintro e w5 ⟨v, rfl, hown4, hb4⟩
          rw [hll] at hown4
          obtain ⟨ja, jc, rfl⟩ := own_form hown4
          have hb34 := hal3.trans (hb4.mono (by simp))
          have hown4 := own_base hown4 (show w3.heap.size ≤ (w4.alloc (.cells #[.slice wa A wc, .slice na 4 nc] 23)).heap.size by simp; omega)
          have HW5 := Lib.hid hown4
          have HN5 := Lib.hid (own_keep HON3.out hb34)
          have HB5 := Lib.hid (HB4.out.trans (hb34.mono hs4))
          have hs5 : w3.heap.size ≤ w5.heap.size := HB5.out.size
          have HLL := Lib.hid hll
          obtain ⟨A2, hA2⟩ : ∃ A2, A2 = A + 4 := ⟨_, rfl⟩
          rw [← hA2] at HW5 HLL ⊢
          have hA2b : A2 ≤ 4 * (k + 1) := by omega
          clear hll hown4 hb4 hal3 hb34 HON3 HB4 HWR HNR hs4 hA2
          go_wp2_with (at_builtin; refine wpList_append_own _ rfl _ _ 69 rfl w3.heap.size 57 i0 (.int .u32 0) 1 4 Try.underlying69 hi hz0 hz1 hz2 rfl (by decide) _ _ _ rfl (HN5.out.alloc _) ⟨w5.heap.size, 0, none⟩ 1 1 [.int .u32 (y : Int)] rfl rfl (by first | exact cell_one_new _ _ _ | (rw [show (y : Int) = 0 by have := HY3.out; omega]; exact cell_one_new _ _ _)) (by simp [Value.oneCell']) (by unfold maxLen; omega) (by omega) (by simp; omega) ?_)
          intro v' w6 hown5 hgrow5 _
          have HW6 := Lib.hid ((HW5.out.alloc _).kept hgrow5 (own_apart HW5.out HN5.out (by decide)))
          have hb5 : Below w3.heap.size w5 w6 := ((Below.refl _ _).alloc hs5 _).grown hgrow5 (by simp; omega) (fun j hj => (HN5.out.lt j hj).1)
          have HST := Lib.hid (show NumSt w3 s xx (k + 1) (.slice ja A2 jc) v' A2 (C + 1) w6 from ⟨by rw [HFS.out, ← HB'.out]; exact HW6.out, by rw [HFS.out, ← HB'.out]; exact HLL.out, by rw [HWS.out]; unfold ul; rw [List.map_append]; exact hown5, by rw [HWS.out, List.length_append, HNL.out]; rfl, HB5.out.trans hb5⟩)
          clear hown5 hgrow5 hb5 HW6 HN5 HW5 HB5
          go_wp2
          go_roundw
          case rel => exact ⟨k + 1, A2, C + 1, by omega, by go_num, by rw [HOS.out], HST.out⟩
          case measure => simp [intOf]; omega
        · have hz1' : (z != 1) = true := by simp [bne]; exact h.1
          have hz2' : (z != 2) = true := by simp [bne]; exact h.2.1
          have hz4' : (z != 4) = true := by simp [bne]; exact h.2.2
          have hsz : isSz z = false := by unfold isSz; rw [decide_eq_false_iff_not]; intro e; omega
          rw [hsz, if_neg (by decide), List.append_nil] at hwt
          rw [lay1_no hsz, List.append_nil] at hfs
          rw [hsz, Bool.and_false] at hos
          have HOS := Lib.hid hos
          have HST := Lib.hid (show NumSt w3 s xx (k + 1) (.slice wa A wc) _ A C wr from ⟨by rw [hfs]; exact HOW.out, by rw [hfs]; exact HFL.out, by rw [hwt]; exact HON.out, by rw [hwt]; exact HNL.out, HB.out⟩)
          clear hsz hfs hwt hos h
          go_wp2
          go_roundw
          case rel => exact ⟨k + 1, A, C, by omega, by go_num, by rw [HOS.out], HST.out⟩
          case measure => simp [intOf]; omega
    · obtain rfl : k = n := by omega
      obtain ⟨F, hF⟩ : ∃ F, F = flat (fun i => lay1 (s i) (xx i)) k := ⟨_, rfl⟩
      obtain ⟨Ns, hNs⟩ : ∃ Ns, Ns = wants s xx k := ⟨_, rfl⟩
      have hwa : allSz s k → Ns = numsOf s F k := fun h => by rw [hNs, hF]; exact wants_all h
      have hta : allSz s k → A = tot s k := fun h => by rw [← hfl]; exact flat_all h
      have hFb : bytes F := by
        rw [hF]
        intro b hb
        obtain ⟨i, _, hi⟩ := List.mem_flatMap.1 hb
        exact lay1_bytes _ _ b hi
      rw [← hF] at how hfl
      rw [← hNs] at hon hnq HON HNL
      obtain ⟨na, nc, rfl⟩ := own_form hon
      have HFL := Lib.hid hfl
      have HWR := Lib.hid (rd_of_own (f := bv F) how (fun i hi => bl_at F (by rw [HFL.out]; exact hi)))
      have HNR := Lib.hid (rd_of_own (f := uv Ns) hon (fun i hi => ul_at Ns (by rw [HNL.out]; exact hi)))
      have HSr := Lib.hid (HS3.out.below hB)
      have HVr := Lib.hid (HV3.out.below hB)
      have HRr := Lib.hid (HRD.out.below hB)
      have HFx := Lib.hid hF
      have HXX := Lib.hid hxx
      have HWA := Lib.hid hwa
      have HTA := Lib.hid hta
      clear how hfl hon hnq hB hF hNs hxx hwa hta HON HS3 HV3 HRD
      go_wp2_with fail
      go_at_call 39
      refine (Lay_any sa a1 k sc len1 cap1 _ _ s v1 _ HSr.out HVr.out hws hws HV32.out (by omega)).mono ?_
      rintro e w4 ⟨v, rfl, hown, hb4⟩
      rw [← HXX.out, ← HFx.out, HFL.out] at hown
      obtain ⟨pa, pc, rfl⟩ := own_form hown
      have HPR := Lib.hid (rd_of_own (f := bv F) hown (fun i hi => bl_at F (by rw [HFL.out]; exact hi)))
      have hb4' := hb4.mono hws
      have HB4 := Lib.hid (HB.out.trans hb4')
      have HS4 := Lib.hid (HSr.out.below hb4')
      have HR4 := Lib.hid (HRr.out.below hb4')
      have HW4 := Lib.hid (rd_grow HWR.out hb4)
      have HN4 := Lib.hid (rd_grow HNR.out hb4)
      have hs4 : w3.heap.size ≤ w4.heap.size := HB4.out.size
      clear hown hb4 hb4' HB HSr HVr HRr HWR HNR hws
      go_wp2_with fail
      go_at_call 40
      refine (Numbers_any pa sa A pc k sc _ _ F s _ HFL.out HPR.out HS4.out (Nat.le_refl _) hs4 hFb (by omega) (by omega)).mono ?_
      intro e w5 hpost
      obtain ⟨hb5, xg, qg, rfl, hrg⟩ := NumPost.uni HFL.out hpost
      clear hpost
      obtain ⟨E1, hE1⟩ : ∃ E1, E1 = numErr s k A := ⟨_, rfl⟩
      obtain ⟨O1, hO1⟩ : ∃ O1, O1 = numOut s F k := ⟨_, rfl⟩
      obtain ⟨o1, ho1⟩ : ∃ o1, o1 = O1.length := ⟨_, rfl⟩
      rw [← hO1, ← ho1] at hrg
      rw [← hE1, ← hO1, ← ho1]
      have HE1 := Lib.hid hE1
      have HO1 := Lib.hid hO1
      have Ho1 := Lib.hid ho1
      have HG5 := Lib.hid hrg
      have hb5' := hb5.mono hs4
      have HB5 := Lib.hid (HB4.out.trans hb5')
      have HS5 := Lib.hid (HS4.out.below hb5')
      have HR5 := Lib.hid (HR4.out.below hb5')
      have HP5 := Lib.hid (rd_grow HPR.out hb5)
      have HW5 := Lib.hid (rd_grow HW4.out hb5)
      have HN5 := Lib.hid (rd_grow HN4.out hb5)
      have hs5 : w3.heap.size ≤ w5.heap.size := HB5.out.size
      clear hE1 hO1 ho1 hrg hb5 hb5' HB4 HS4 HR4 HPR HW4 HN4 hs4
      go_wp2_with fail
      go_at_call 40
      refine (Numbers_any ra sa mr rc k sc _ _ R s _ HRL.out HR5.out HS5.out hs5 hs5 hRb (by omega) (by omega)).mono ?_
      intro e w6 hpost
      obtain ⟨hb6, xo, qo, rfl, hro⟩ := NumPost.uni HRL.out hpost
      clear hpost
      obtain ⟨E2, hE2⟩ : ∃ E2, E2 = numErr s k mr := ⟨_, rfl⟩
      obtain ⟨O2, hO2⟩ : ∃ O2, O2 = numOut s R k := ⟨_, rfl⟩
      obtain ⟨o2, ho2⟩ : ∃ o2, o2 = O2.length := ⟨_, rfl⟩
      rw [← hO2, ← ho2] at hro
      rw [← hE2, ← hO2, ← ho2]
      have HE2 := Lib.hid hE2
      have HO2 := Lib.hid hO2
      have Ho2 := Lib.hid ho2
      have hb6' := hb6.mono hs5
      have HB6 := Lib.hid (HB5.out.trans hb6')
      have HS6 := Lib.hid (HS5.out.below hb6')
      have HR6 := Lib.hid (HR5.out.below hb6')
      have HG6 := Lib.hid (rd_grow HG5.out hb6)
      have HP6 := Lib.hid (rd_grow HP5.out hb6)
      have HW6 := Lib.hid (rd_grow HW5.out hb6)
      have HN6 := Lib.hid (rd_grow HN5.out hb6)
      have HO6 := Lib.hid hro
      have hs6 : w3.heap.size ≤ w6.heap.size := HB6.out.size
      clear hE2 hO2 ho2 hro hb6 hb6' HB5 HS5 HR5 HG5 HP5 HW5 HN5 hs5
      go_wp2_with fail
      go_at_call 21
      refine (Same_any pa wa A A pc wc _ _ F F _ HFL.out HFL.out HP6.out HW6.out hFb hFb).mono ?_
      rintro e w7 ⟨rfl, j7, hw7⟩
      simp only [decide_true]
      have hb7 : Below w6.heap.size w6 w7 := by rw [hw7]; exact below_drews _ _ _
      have HB7 := Lib.hid (HB3.out.trans ((HB6.out.trans (hb7.mono hs6)).mono hs3))
      have HS7 := Lib.hid (HS6.out.below (hb7.mono hs6))
      have HR7 := Lib.hid (HR6.out.below (hb7.mono hs6))
      have HGR := Lib.hid (rd_grow HG6.out hb7)
      have HNR7 := Lib.hid (rd_grow HN6.out hb7)
      have HO7 := Lib.hid (rd_grow HO6.out hb7)
      have hs7 : w3.heap.size ≤ w7.heap.size := Nat.le_trans hs6 hb7.size
      clear hw7 hb7 HB6 HS6 HR6 HG6 HP6 HW6 HN6 HO6 hs6
      cases hok : okSz s k with
      | false =>
        obtain rfl : E1 = 1 := by rw [HE1.out]; unfold numErr; rw [if_neg (by rw [show ((List.range k).all fun i => isSz (s i)) = okSz s k from rfl, hok]; decide)]
        obtain rfl : E2 = 1 := by rw [HE2.out]; unfold numErr; rw [if_neg (by rw [show ((List.range k).all fun i => isSz (s i)) = okSz s k from rfl, hok]; decide)]
        obtain rfl : o1 = 0 := by rw [Ho1.out, HO1.out]; unfold numOut; rw [HFL.out, if_neg (by rw [← HE1.out]; decide)]; rfl
        obtain rfl : o2 = 0 := by rw [Ho2.out, HO2.out]; unfold numOut; rw [HRL.out, if_neg (by rw [← HE2.out]; decide)]; rfl
        clear hok
        go_wp2
        go_ret
        exact ⟨rfl, HB7.out⟩
      | true =>
        have hall := (all_iff s k).1 hok
        have hAt := HTA.out hall
        obtain rfl : E1 = 0 := by rw [HE1.out, numErr_all hall, if_pos hAt]
        have hO1 : O1 = Ns := by rw [HO1.out, HWA.out hall]; unfold numOut; rw [HFL.out, if_pos HE1.out.symm]
        obtain rfl : Ns = O1 := hO1.symm
        have hCk : C = k := by rw [← HNL.out, HO1.out]; unfold numOut; rw [HFL.out, if_pos HE1.out.symm, numsOf_len]
        obtain rfl : k = C := hCk.symm
        obtain rfl : k = o1 := by rw [Ho1.out, HNL.out]
        have HALL := Lib.hid hall
        have HAT := Lib.hid hAt
        clear hok hall hAt
        by_cases hmr : mr = A
        · obtain rfl : E2 = 0 := by rw [HE2.out, numErr_all HALL.out, if_pos (by rw [hmr]; exact HAT.out)]
          have hO2 : O2 = numsOf s R k := by rw [HO2.out]; unfold numOut; rw [HRL.out, if_pos HE2.out.symm]
          obtain rfl : k = o2 := by rw [Ho2.out, hO2, numsOf_len]
          have hback := back_all HALL.out hRb (by rw [HRL.out, hmr]; exact HAT.out)
          have hO32 : ∀ i, i < k → (O2.getD i 0) < 4294967296 := fun i hi => by
            rw [hO2, numsOf_at s R hi]
            have hsl := seg_len s R hi (by rw [HRL.out, hmr]; exact Nat.le_of_eq HAT.out.symm)
            obtain ⟨q, hq, _, hq4⟩ := HALL.out.sz hi
            rw [hq] at hsl
            have hsl : (seg s R i).length = q := hsl
            have hv := val_lt (seg s R i) ((hRb.drop _).take _)
            rw [hsl] at hv
            exact Nat.lt_of_lt_of_le hv (Nat.pow_le_pow_right (n := 256) (by omega) hq4)
          rw [← hO2] at hback
          have HBACK := Lib.hid hback
          have HO32 := Lib.hid hO32
          have hmI : ((mr : Int) == (A : Int)) = true := by rw [beq_iff_eq]; omega
          have HMR := Lib.hid hmr
          clear hO2 hback hO32 hmr
          go_wp2
          go_loopw [141] (fun i wr => ∃ j : Nat, j ≤ k ∧ i = .int .i64 (j : Nat) ∧ ∃ q, wr = w7.drewN q) (fun i _ => k - (intOf i).toNat)
          case atStart => exact ⟨0, Nat.zero_le _, rfl, 0, rfl⟩
          case round =>
            obtain ⟨j, hj', rfl, q, rfl⟩ := hrel
            by_cases hlt : j < k
            · obtain ⟨bg, og, rfl, _, hcg⟩ := HGR.out.at hlt
              obtain ⟨bn, on, rfl, _, hcn⟩ := HNR7.out.at hlt
              unfold uv at hcg hcn
              obtain ⟨y, hy⟩ : ∃ y, y = Ns.getD j 0 := ⟨_, rfl⟩
              rw [← hy] at hcg hcn
              have hyy : ((y : Int) != (y : Int)) = false := by simp
              clear hy
              go_wp2
              go_quiet (fail)
              all_goals
                go_wp2
                go_roundw
                case rel => exact ⟨j + 1, by omega, by go_num, _, rfl⟩
                case measure => simp [intOf]; omega
            · obtain rfl : j = k := by omega
              have HBz := Lib.hid (HB7.out.trans ((below_drews _ w7 q).mono HB7.out.size))
              skip
              have HS8 := Lib.hid (HS7.out.below ((below_drews _ w7 q).mono hs7))
              have HO8 := Lib.hid (HO7.out.below (below_drews _ w7 q))
              go_wp2_with fail
              go_at_call 39
              refine (Lay_any sa xo j sc j qo _ _ s (fun i => O2.getD i 0) _ HS8.out HO8.out (by simpa using hs7) (by simp) HO32.out (by omega)).mono ?_
              rintro e w9 ⟨v, rfl, hown, hb9⟩
              rw [HBACK.out, HRL.out] at hown
              obtain ⟨ya, yc, rfl⟩ := own_form hown
              have HYR := Lib.hid (rd_of_own (f := bv R) hown (fun i hi => bl_at R (by rw [HRL.out]; exact hi)))
              have HB9 := Lib.hid (HBz.out.trans (hb9.mono HBz.out.size))
              have HR9 := Lib.hid ((HR7.out.below ((below_drews _ w7 q).mono hs7)).below (hb9.mono (by simpa using hs7)))
              clear hown hb9
              go_wp2_with fail
              go_at_call 21
              refine (Same_any ya ra mr mr yc rc _ _ R R _ HRL.out HRL.out HYR.out HR9.out hRb hRb).mono ?_
              rintro e w10 ⟨rfl, j10, hw10⟩
              simp only [decide_true]
              have HB10 := Lib.hid (HB9.out.trans (show Below w.heap.size w9 w10 by rw [hw10]; exact (below_drews _ _ _).mono HB9.out.size))
              clear hw10
              go_wp2
              go_ret
              exact ⟨rfl, HB10.out⟩
        · obtain rfl : E2 = 2 := by rw [HE2.out, numErr_all HALL.out, if_neg (by rw [← HAT.out]; exact hmr)]
          obtain rfl : o2 = 0 := by rw [Ho2.out, HO2.out]; unfold numOut; rw [HRL.out, if_neg (by rw [← HE2.out]; decide)]; rfl
          have hmI : ((mr : Int) == (A : Int)) = false := by rw [beq_eq_false_iff_ne]; omega
          clear hmr
          go_wp2
          go_loopw [141] (fun i wr => ∃ j : Nat, j ≤ k ∧ i = .int .i64 (j : Nat) ∧ ∃ q, wr = w7.drewN q) (fun i _ => k - (intOf i).toNat)
          case atStart => exact ⟨0, Nat.zero_le _, rfl, 0, rfl⟩
          case round =>
            obtain ⟨j, hj', rfl, q, rfl⟩ := hrel
            by_cases hlt : j < k
            · obtain ⟨bg, og, rfl, _, hcg⟩ := HGR.out.at hlt
              obtain ⟨bn, on, rfl, _, hcn⟩ := HNR7.out.at hlt
              unfold uv at hcg hcn
              obtain ⟨y, hy⟩ : ∃ y, y = Ns.getD j 0 := ⟨_, rfl⟩
              rw [← hy] at hcg hcn
              have hyy : ((y : Int) != (y : Int)) = false := by simp
              clear hy
              go_wp2
              go_quiet (fail)
              all_goals
                go_wp2
                go_roundw
                case rel => exact ⟨j + 1, by omega, by go_num, _, rfl⟩
                case measure => simp [intOf]; omega
            · obtain rfl : j = k := by omega
              have HBz := Lib.hid (HB7.out.trans ((below_drews _ w7 q).mono HB7.out.size))
              skip
              go_wp2
              go_ret
              exact ⟨rfl, HBz.out⟩
end Go.Proofs.Ytfolebogfapmaaa
