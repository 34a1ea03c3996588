/- Verification: unpack. -/
import Derived.Test.YtmihhapedpalmaaVfI
import Derived.Test.YtmihhapedpalmaaPk4
namespace Go.Proofs.Ytmihhapedpalmaa
open Go.RowKit Go.Own
set_option linter.unusedVariables false
set_option linter.unusedSimpArgs false
/-- The code of a packet as such. -/
def upC (l : List Nat) : Nat := if 208 < l.length then 2 else if pkErr l = 0 then 0 else if pkErr l = 5 then 3 else 2
theorem upC_lt (l : List Nat) : upC l < 7 := by unfold upC; split; · omega
                                                split; · omega
                                                split <;> omega
theorem upC_ok {l : List Nat} (h : upC l = 0) : pkErr l = 0 ∧ l.length ≤ 208 := by
  unfold upC at h
  split at h
  · cases h
  · split at h
    · exact ⟨‹_›, by omega⟩
    · split at h <;> cases h
def PkUni (w : World) (l : List Nat) (er : Value) (ok : Prop) (e : Ending) (w' : World) : Prop :=
  Below w.heap.size w w' ∧ ∃ (kb : Bool) (A C : Nat) (x : Option Addr) (m c : Nat), e = .returned (.tuple #[.agg #[.bool kb, .int .u16 (A : Nat), .int .u16 (C : Nat), .slice x m c], er]) ∧ (ok → kb = pkK l ∧ A = pkA l ∧ C = pkC l ∧ m = (pdat l).length ∧ Rd w'.heap.size w' x m c (bv (pdat l)))
theorem PkParse.uni {w w' : World} {l : List Nat} {e : Ending} (h : PkParse w l e w') : PkUni w l (.int .i64 (pkErr l : Nat)) (pkErr l = 0) e w' := by
  obtain ⟨hb, ⟨h0, x, c, he, hr⟩ | ⟨h0, he⟩⟩ := h
  · exact ⟨hb, _, _, _, _, _, _, by rw [he, h0]; rfl, fun _ => ⟨rfl, rfl, rfl, rfl, hr⟩⟩
  · exact ⟨hb, false, 0, 0, none, 0, 0, he, fun h => absurd h h0⟩
/-- A row of bytes is no packet's block. -/
theorem rd_notPk {w : World} {n g len cap : Nat} {x : Option Addr} {l : List Nat} {t : TypeId} (cs : Array Value) (h : Rd n w x len cap (bv l)) (hg : w.heap[g]? = some (.cells #[.bool false, .int .u16 0, .int .u16 0, .slice none 0 0] t (0, 0))) : Rd n (w.setRow g cs) x len cap (bv l) := by
  refine ⟨h.le, h.top, h.nil_, fun hl => ?_⟩
  obtain ⟨b, off, e, hb, hc⟩ := h.row hl
  refine ⟨b, off, e, hb, fun i hi => ?_⟩
  have hne : b ≠ g := by
    rintro rfl
    have h0 := hc 0 hl
    rw [Nat.add_zero] at h0
    unfold World.cell? at h0
    rw [hg] at h0
    match off, h0 with
    | 0, h0 => simp [bv] at h0
    | 1, h0 => simp [bv] at h0
    | 2, h0 => simp [bv] at h0
    | 3, h0 => simp [bv] at h0
    | k + 4, h0 => simp [bv] at h0
  rw [World.cell?_of_block (w := w) (setRow_other w g b cs hne)]
  exact hc i hi
set_option maxRecDepth 100000 in
set_option maxHeartbeats 4000000 in
theorem vUnpack (a : Option Addr) (len cap n : Nat) (l : List Nat) (w : World) (hl : l.length = len) (hn : n ≤ w.heap.size) (hr : Rd n w a len cap (bv l)) (hb : bytes l) :
    Calls Try.prog 68 #[.slice a len cap] w (PkUni w l (.int .u8 (upC l : Nat)) (upC l = 0)) := by
  have hzc := zero_pk
  have h1 := hr.le
  have h2 := hr.top
  unfold maxLen at h2
  have hb0 : Below w.heap.size w (w.alloc (.cells #[.bool false, .int .u16 0, .int .u16 0, .slice none 0 0] 121)) := (Below.refl _ _).alloc (Nat.le_refl _) _
  have HR := Lib.hid hr
  have HL := Lib.hid hl
  clear hr hl
  by_cases h208 : 208 < len
  · have HE := Lib.hid (show upC l = 2 by unfold upC; rw [if_pos (by rw [HL.out]; exact h208)])
    go_enter Try.func68, Try.ntmps68
    go_wp2_with (refine wpList_store_row rfl 121 _ _ rfl _ _ rfl rfl _ _ (by (first | exact heap_alloc2_new _ _ _ | exact heap_alloc2_old _ _ _ | exact heap_alloc_new _ _ | assumption)) (by exact size_pk) (by rfl) (by simp [Value.oneCell']) ?_; (first | rw [setRow_alloc2_new] | rw [setRow_alloc2_old] | rw [World.setRow_alloc_new] | skip); (try go_simp))
    skip
    refine bodyPost_ret (results_cell_tmp3 rfl _ _ _ _ _ _ rfl (heap_alloc_new _ _) Try.underlying121 rfl size_pk) rfl ?_
    exact ⟨hb0, false, 0, 0, none, 0, 0, by rw [HE.out]; rfl, fun h => by rw [HE.out] at h; cases h⟩
  have HP := Lib.hid (fun w' (hb' : Below w.heap.size w w') => pParse_any a len cap n l w' HL.out (Nat.le_trans hn hb'.size) (HR.out.below' hb' hn) hb (by omega))
  go_enter Try.func68, Try.ntmps68
  go_wp2_with fail
  go_at_call 86
  refine (HP.out _ hb0).mono ?_
  intro e w1 hp
  obtain ⟨hb1, kb, A, C, x, m, c, rfl, hok⟩ := hp.uni
  have hC1 := (hb1.block w.heap.size (by simp)).trans (heap_alloc_new w (.cells #[.bool false, .int .u16 0, .int .u16 0, .slice none 0 0] 121))
  have hs1 : w.heap.size < w1.heap.size := Nat.lt_of_lt_of_le (by simp) hb1.size
  have hB1 := hb0.trans (hb1.mono (by simp))
  have HOK := Lib.hid hok
  have HC1 := Lib.hid hC1
  have HB1 := Lib.hid hB1
  clear hp hb1 hok hC1 hB1 HP hb0
  obtain ⟨er, her⟩ : ∃ er, er = pkErr l := ⟨_, rfl⟩
  rw [← her] at HOK ⊢
  have hel := pkErr_lt l
  rw [← her] at hel
  have hCa : ∀ o : Obj, (w1.alloc o).heap[w.heap.size]? = some (.cells #[.bool false, .int .u16 0, .int .u16 0, .slice none 0 0] 121 (0, 0)) := fun o => ((((Below.refl w1.heap.size w1).alloc (Nat.le_refl _) o).block w.heap.size hs1)).trans HC1.out
  have HCA := Lib.hid hCa
  have hu : upC l = if er = 0 then 0 else if er = 5 then 3 else 2 := by unfold upC; rw [if_neg (by rw [HL.out]; exact h208), ← her]
  have HU := Lib.hid hu
  have h208I : ((208 : Int) < (len : Int)) = False := by simp; omega
  clear her hCa hu
  by_cases h0 : er = 0
  · subst h0
    have HU0 := Lib.hid (HU.out.trans (if_pos rfl))
    go_wp2_with (first | (refine wpList_store_row rfl 121 _ _ rfl _ _ rfl rfl _ _ (by (first | exact heap_alloc2_new _ _ _ | exact heap_alloc2_old _ _ _ | exact heap_alloc_new _ _ | assumption)) (by exact size_pk) (by rfl) (by simp [Value.oneCell']) ?_; (first | rw [setRow_alloc2_new] | rw [setRow_alloc2_old] | rw [World.setRow_alloc_new] | skip); (try go_simp)) | (refine wpList_store_row rfl 121 _ _ rfl _ _ rfl rfl _ _ (HCA.out _) (by exact size_pk) (by rfl) (by simp [Value.oneCell']) ?_; (try go_simp)))
    skip
    refine bodyPost_ret (results_cell_tmp3 rfl _ _ _ _ _ _ rfl (setRow_heap _ _ _ _ _ _ (HCA.out _)) Try.underlying121 rfl size_pk) rfl ?_
    refine ⟨below_setRow (HB1.out.alloc HB1.out.size _) (Nat.le_refl _) _, kb, A, C, x, m, c, by rw [HU0.out]; rfl, fun _ => ?_⟩
    obtain ⟨e1, e2, e3, e4, hr⟩ := HOK.out trivial
    refine ⟨e1, e2, e3, e4, rd_notPk _ ((hr.below ((Below.refl _ _).alloc (Nat.le_refl _) _)).mono ?_) (HCA.out _)⟩
    simp [World.setRow]
  · have h0I : ((er : Int) == 0) = false := by rw [beq_eq_false_iff_ne]; omega
    by_cases h5 : er = 5
    · subst h5
      have HU0 := Lib.hid (HU.out.trans (by rw [if_neg (by omega), if_pos rfl]))
      clear HU HOK h0I
      go_wp2_with (first | (refine wpList_store_row rfl 121 _ _ rfl _ _ rfl rfl _ _ (by (first | exact heap_alloc2_new _ _ _ | exact heap_alloc2_old _ _ _ | exact heap_alloc_new _ _ | assumption)) (by exact size_pk) (by rfl) (by simp [Value.oneCell']) ?_; (first | rw [setRow_alloc2_new] | rw [setRow_alloc2_old] | rw [World.setRow_alloc_new] | skip); (try go_simp)) | (refine wpList_store_row rfl 121 _ _ rfl _ _ rfl rfl _ _ (HCA.out _) (by exact size_pk) (by rfl) (by simp [Value.oneCell']) ?_; (try go_simp)))
      skip
      refine bodyPost_ret (results_cell_tmp3 rfl _ _ _ _ _ _ rfl (setRow_heap _ _ _ _ _ _ (HCA.out _)) Try.underlying121 rfl size_pk) rfl ?_
      exact ⟨below_setRow (HB1.out.alloc HB1.out.size _) (Nat.le_refl _) _, false, 0, 0, none, 0, 0, by rw [HU0.out]; rfl, fun h => by rw [HU0.out] at h; cases h⟩
    · have h5I : ((er : Int) == 5) = false := by rw [beq_eq_false_iff_ne]; omega
      have HU0 := Lib.hid (HU.out.trans (by rw [if_neg h0, if_neg h5]))
      clear HU HOK
      go_wp2_with (first | (refine wpList_store_row rfl 121 _ _ rfl _ _ rfl rfl _ _ (by (first | exact heap_alloc2_new _ _ _ | exact heap_alloc2_old _ _ _ | exact heap_alloc_new _ _ | assumption)) (by exact size_pk) (by rfl) (by simp [Value.oneCell']) ?_; (first | rw [setRow_alloc2_new] | rw [setRow_alloc2_old] | rw [World.setRow_alloc_new] | skip); (try go_simp)) | (refine wpList_store_row rfl 121 _ _ rfl _ _ rfl rfl _ _ (HCA.out _) (by exact size_pk) (by rfl) (by simp [Value.oneCell']) ?_; (try go_simp)))
      skip
      refine bodyPost_ret (results_cell_tmp3 rfl _ _ _ _ _ _ rfl (setRow_heap _ _ _ _ _ _ (HCA.out _)) Try.underlying121 rfl size_pk) rfl ?_
      exact ⟨below_setRow (HB1.out.alloc HB1.out.size _) (Nat.le_refl _) _, false, 0, 0, none, 0, 0, by rw [HU0.out]; rfl, fun h => by rw [HU0.out] at h; cases h⟩
end Go.Proofs.Ytmihhapedpalmaa
