/- Layer 8: what is too long or too short is no context. -/
import Derived.Test.YtpgophkegjeheaaCx5
namespace Go.Proofs.Ytpgophkegjeheaa
open Go.RowKit Go.Own
set_option linter.unusedVariables false
set_option linter.unusedSimpArgs false

theorem cxB_len (f i n : Nat) (c : Cx) : (cxB f i n c).length = 21 := rfl
set_option maxRecDepth 100000 in
set_option maxHeartbeats 2000000 in
theorem cxParse_no (a : Option Addr) (len cap : Nat) (l : List Nat) (w : World) (hl : l.length = len) (h21 : len ≠ 21) (hm : len ≤ 1000000) :
    Calls Try.prog 24 #[.slice a len cap] w (CxParse w l) := by
  have hzc := zero_cx
  have hC0 := heap_alloc_new w (.cells #[.int .u16 cxZero.f, .int .u16 cxZero.i, .int .u8 cxZero.r0, .int .u8 cxZero.r1, .int .u8 cxZero.r2, .int .u8 cxZero.r3, .int .u8 cxZero.r4, .int .u8 cxZero.r5, .int .i8 cxZero.c0, .int .i8 cxZero.c1, .int .i8 cxZero.c2, .int .i8 cxZero.c3, .int .i8 cxZero.c4, .int .i8 cxZero.c5, .int .u8 cxZero.m, .int .u16 cxZero.n, .bool cxZero.x, .int .u8 cxZero.h] 28)
  have hb0 : Below w.heap.size w (w.alloc (.cells #[.int .u16 cxZero.f, .int .u16 cxZero.i, .int .u8 cxZero.r0, .int .u8 cxZero.r1, .int .u8 cxZero.r2, .int .u8 cxZero.r3, .int .u8 cxZero.r4, .int .u8 cxZero.r5, .int .i8 cxZero.c0, .int .i8 cxZero.c1, .int .i8 cxZero.c2, .int .i8 cxZero.c3, .int .i8 cxZero.c4, .int .i8 cxZero.c5, .int .u8 cxZero.m, .int .u16 cxZero.n, .bool cxZero.x, .int .u8 cxZero.h] 28)) := (Below.refl _ _).alloc (Nat.le_refl _) _
  have HB0 := Lib.hid hb0
  have HNG := Lib.hid (show ¬ cxGood l from fun h => h21 (by rw [← hl, ← h.2, cxB_len]))
  have hI : ((len : Int) != 21) = true := by simp [bne]; omega
  clear hb0 h21 hl
  go_enter Try.func24, Try.ntmps24
  go_wp2_with (refine wpList_store_row rfl 28 _ _ rfl _ _ rfl rfl _ _ hC0 size_cx rfl (cxs_one _) ?_; (try go_simp))
  refine bodyPost_ret (results_cell_tmp3 rfl _ _ _ _ _ _ rfl (setRow_heap _ _ _ _ _ _ hC0) Try.underlying28 rfl size_cx) rfl ?_
  exact ⟨below_setRow HB0.out (Nat.le_refl _) _, .inr ⟨HNG.out, rfl⟩⟩
end Go.Proofs.Ytpgophkegjeheaa
