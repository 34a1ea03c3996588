/- Commands and reports: own, like. -/
import Derived.Test.YtfolebogfapmaaaLaw10
import Derived.Test.YtfolebogfapmaaaPs8
namespace Go.Proofs.Ytfolebogfapmaaa
open Go.RowKit Go.Own
set_option linter.unusedVariables false
set_option linter.unusedSimpArgs false

set_option maxHeartbeats 1000000 in
theorem own10 (a s u c len cap : Nat) (x : Option Addr) (w : World) :
    Calls Try.prog 26 #[.agg #[.int .u8 (a : Nat), .int .u8 (s : Nat), .int .u8 (u : Nat), .int .u16 (c : Nat), .slice x len cap]] w fun e w' => e = .returned (.agg #[.int .u8 (a : Nat), .int .u8 (s : Nat), .int .u8 (u : Nat), .int .u16 (c : Nat), .slice x len cap]) ∧ Below w.heap.size w w' := by
  have hzc := zero_rc
  go_enter Try.func26, Try.ntmps26
  go_wp2_with (refine wpList_store_row rfl 45 _ _ rfl _ _ rfl rfl _ _ (by exact heap_alloc2_new _ _ _) (by exact size_rc) (by rfl) (by simp [Value.oneCell']) ?_; rw [pk_alloc2_new]; (try go_simp))
  refine bodyPost_ret (results_cell_row rfl _ _ _ _ _ _ _ rfl (heap_alloc2_new _ _ _) Try.underlying45 rfl size_rc) rfl ?_
  exact ⟨rfl, by repeat' (first | (with_reducible exact Below.refl _ _) | (with_reducible assumption) | (with_reducible refine Below.setCell ?_ ?_ _) | (with_reducible refine Below.alloc ?_ ?_ _) | (with_reducible refine Below.drew ?_) | (with_reducible refine Below.drawsN ?_ _) | go_size)⟩
set_option maxHeartbeats 1000000 in
theorem like10 (a s u c len cap cap' n n' : Nat) (x x' : Option Addr) (d : List Nat) (w : World) (hl : d.length = len) (hn : n ≤ w.heap.size) (hn' : n' ≤ w.heap.size) (hr : Rd n w x len cap (bv d)) (hr' : Rd n' w x' len cap' (bv d)) (hb : bytes d) :
    Calls Try.prog 29 #[.agg #[.int .u8 (a : Nat), .int .u8 (s : Nat), .int .u8 (u : Nat), .int .u16 (c : Nat), .slice x len cap], .agg #[.int .u8 (a : Nat), .int .u8 (s : Nat), .int .u8 (u : Nat), .int .u16 (c : Nat), .slice x' len cap']] w fun e w' => e = .returned (.bool true) ∧ Below w.heap.size w w' := by
  have HR := Lib.hid hr
  have HR' := Lib.hid hr'
  clear hr hr'
  go_enter Try.func29, Try.ntmps29
  go_wp2_with fail
  have hal : Below w.heap.size w ((w.alloc (.cells #[.int .u8 (a : Nat), .int .u8 (s : Nat), .int .u8 (u : Nat), .int .u16 (c : Nat), .slice x len cap] 42)).alloc (.cells #[.int .u8 (a : Nat), .int .u8 (s : Nat), .int .u8 (u : Nat), .int .u16 (c : Nat), .slice x' len cap'] 45)) := by repeat' (first | (with_reducible exact Below.refl _ _) | (with_reducible assumption) | (with_reducible refine Below.setCell ?_ ?_ _) | (with_reducible refine Below.alloc ?_ ?_ _) | (with_reducible refine Below.drew ?_) | (with_reducible refine Below.drawsN ?_ _) | go_size)
  go_at_call 21
  refine (Same_any x x' len len cap cap' n n' d d _ hl hl (HR.out.below' hal hn) (HR'.out.below' hal hn') hb hb).mono ?_
  rintro e w3 ⟨rfl, j, hw⟩
  simp only [decide_true]
  have hb3 : Below w.heap.size w w3 := hal.trans (by rw [hw]; exact (below_drews _ _ _).mono hal.size)
  clear hw hal
  go_wp2
  go_ret
  exact ⟨rfl, hb3⟩
end Go.Proofs.Ytfolebogfapmaaa
