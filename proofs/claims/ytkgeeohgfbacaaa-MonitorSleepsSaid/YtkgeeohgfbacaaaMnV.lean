/- Monitors: Violated. -/
import Derived.Test.YtkgeeohgfbacaaaMnT
namespace Go.Proofs.Ytkgeeohgfbacaaa
open Go.RowKit Go.Own
set_option linter.unusedVariables false
set_option linter.unusedSimpArgs false
def Mn.vi (p : Mn) (i : Nat) : Bool := (p.x i).r.en && vio (p.x i).st
def Mn.vios (p : Mn) : Nat → List Nat
  | 0 => []
  | k + 1 => p.vios k ++ (if p.vi k = true then [k] else [])
theorem Mn.vios_le (p : Mn) : ∀ k, (p.vios k).length ≤ k
  | 0 => Nat.le_refl _
  | k + 1 => by
    have := p.vios_le k
    rw [Mn.vios, List.length_append]
    split <;> simp <;> omega
def nl (l : List Nat) : List Value := l.map fun i => .int .i64 ((i : Nat) : Int)
theorem nl_snoc (l : List Nat) (i : Nat) : nl (l ++ [i]) = nl l ++ [.int .i64 ((i : Nat) : Int)] := by simp [nl]
theorem info_intC : (Try.prog.info? 3).map (fun i => (i.zero, i.size, i.bytes)) = some (some (.int .i64 0), 1, 8) := by kernel_rfl
set_option maxRecDepth 100000 in
set_option maxHeartbeats 8000000 in
theorem mViolated (p : Mn) (w : World) (hn : p.n ≤ 16) :
    Calls Try.prog 57 #[.agg p.cs] w fun e w' => ∃ v, e = .returned v ∧ w'.ownsRow (w.heap.size + 1) 3 1 v (p.vios p.n).length (nl (p.vios p.n)) ∧ Below w.heap.size w w' := by
  obtain ⟨i0, hi, hz0, hz1, hz2⟩ := info_parts info_intC
  have HP0 := MnB.new w p
  have hb0 := (Below.refl w.heap.size w).alloc (Nat.le_refl _) (.cells p.cs 124)
  have c0 : _ = some (Value.int .i64 ((p.n : Nat) : Int)) := HP0.cellC
  go_enter Try.func57, Try.ntmps57
  go_wp2_with fail
  obtain ⟨g, hg⟩ : ∃ g, g = w.heap.size := ⟨_, rfl⟩
  obtain ⟨ws, hws⟩ : ∃ ws, ws = w.alloc (.cells p.cs 124) := ⟨_, rfl⟩
  rw [← hws] at HP0 hb0
  rw [← hg] at HP0
  rw [← hws, ← hg]
  have HG := Lib.hid hg
  have H0 := Lib.hid (And.intro HP0 hb0)
  clear hws hg c0 HP0 hb0
  go_loopw [3, 8] (fun v i wr => ∃ k : Nat, k ≤ p.n ∧ i = .int .i64 (k : Nat) ∧ MnB wr g p ∧ Below w.heap.size w wr ∧ wr.ownsRow (w.heap.size + 1) 3 1 v (p.vios k).length (nl (p.vios k))) (fun _ i _ => p.n - (intOf i).toNat)
  case atStart => exact ⟨0, Nat.zero_le _, rfl, H0.out.1, H0.out.2, rfl, .inl ⟨rfl, rfl⟩⟩
  case round =>
    obtain ⟨k, hk, rfl, hP, hB, hO⟩ := hrel
    clear H0
    by_cases hlt : k < p.n
    · have hk16 : k < 16 := by omega
      obtain ⟨x, hx⟩ : ∃ x, x = p.x k := ⟨_, rfl⟩
      have hrg := hP.range hk16
      rw [← hx] at hrg
      have HX := Lib.hid hx
      have HP := Lib.hid hP
      have HB := Lib.hid hB
      have HO := Lib.hid hO
      clear hx hP hB hO
      go_upto_region 6 with (first | (refine wpList_load_mid rfl 121 _ rfl g (k * 16) rfl x.cs.toList _ hrg Try.underlying121 rfl (size_wt x) ?_; rw [Array.toArray_toList]; go_simp) | (refine wpList_store_row rfl 121 _ _ rfl _ (Wt.cs _) rfl rfl 121 _ (heap_alloc_new wr (.cells (#[.int .u8 0, .int .i64 0, .int .i32 0, .int .i32 0, .int .u32 0, .int .u32 0, .int .u8 0, .int .u8 0, .int .u8 0, .int .i64 0, .bool false, .bool false, .int .i32 0, .int .u8 0, .int .u8 0, .int .u8 0] : Array Value) 121)) (size_wt _) rfl (Wt.one _) ?_; rw [World.setRow_alloc_new]; (try go_simp)))
      have hal : Below wr.heap.size wr (wr.alloc (.cells x.cs 121)) := (Below.refl _ _).alloc (Nat.le_refl _) _
      have g2 := heap_alloc_new wr (.cells x.cs 121)
      have HP2 := Lib.hid (HP.out.alloc (.cells x.cs 121))
      have HB2 := Lib.hid (HB.out.trans (hal.mono HB.out.size))
      have HO2 := Lib.hid (own_keepC HO.out hal)
      obtain ⟨f, hf⟩ : ∃ f, f = wr.heap.size := ⟨_, rfl⟩
      obtain ⟨w2, hw2⟩ : ∃ w2, w2 = wr.alloc (.cells x.cs 121) := ⟨_, rfl⟩
      have hsz := HB.out.size
      have hsz2 : w.heap.size + 1 ≤ w2.heap.size := by rw [hw2]; simp; omega
      rw [← hw2] at g2 HP2 HB2 HO2
      rw [← hf] at g2
      rw [← hw2, ← hf]
      clear hf hw2 hal HP HB HO hrg hsz
      have c10 : w2.cell? ⟨f, 10, none⟩ = some (.bool x.r.en) := cell_of_row _ _ 10 _ _ _ g2
      have c15 : w2.cell? ⟨f, 15, none⟩ = some (.int .u8 x.st) := cell_of_row _ _ 15 _ _ _ g2
      by_cases hv : (x.r.en && vio x.st) = true
      · obtain ⟨h1, h2⟩ : x.r.en = true ∧ vio x.st = true := by simpa using hv
        rw [h1] at c10
        have HC := Lib.hid (show p.vios (k + 1) = p.vios k ++ [k] by rw [Mn.vios, Mn.vi, ← HX.out, if_pos hv])
        have HLE := Lib.hid (p.vios_le k)
        have HV := Lib.hid h2
        clear hv h1 h2
        go_wp2_with (first | (go_at_call 110; refine (Vio_at x.st true _ HV.out).mono ?_; rintro e w' ⟨rfl, rfl⟩) | (at_builtin; refine wpList_append_own _ rfl _ _ 29 rfl (w.heap.size + 1) 3 i0 (.int .i64 0) 1 8 Try.underlying29 hi hz0 hz1 hz2 rfl (by decide) _ _ _ rfl (HO2.out.alloc _) ⟨w2.heap.size, 0, none⟩ 1 1 [.int .i64 (k : Int)] rfl rfl (cell_one_new _ _ _) (by simp [Value.oneCell']) (by unfold maxLen; have := HLE.out; omega) (by have := HLE.out; omega) (by simp; omega) ?_))
        intro v' w8 hown8 hgrow8 _
        have hbb : Below (w.heap.size + 1) w2 w8 := ((Below.refl (w.heap.size + 1) w2).alloc hsz2 _).grown hgrow8 (by simp; omega) (fun j hj => (HO2.out.lt j hj).1)
        have HP3 := Lib.hid (show MnB w8 g p from box_below HP2.out hbb (by have := HG.out; omega))
        have HB3 := Lib.hid (HB2.out.trans (hbb.mono (by omega)))
        have HO3 := Lib.hid (show w8.ownsRow (w.heap.size + 1) 3 1 v' (p.vios (k + 1)).length (nl (p.vios (k + 1))) by rw [HC.out, nl_snoc, List.length_append]; exact hown8)
        clear hown8 hgrow8 hbb hsz2 HP2 HB2 HO2 c10 c15 g2
        go_wp2_with fail
        go_roundw
        case rel => exact ⟨k + 1, by omega, by go_num, HP3.out, HB3.out, HO3.out⟩
        case measure => simp [intOf]; omega
      · have HC := Lib.hid (show p.vios (k + 1) = p.vios k by rw [Mn.vios, Mn.vi, ← HX.out, if_neg hv, List.append_nil])
        cases h1 : x.r.en
        · rw [h1] at c10
          clear hv h1
          go_wp2_with fail
          go_roundw
          case rel => exact ⟨k + 1, by omega, by go_num, HP2.out, HB2.out, by rw [HC.out]; exact HO2.out⟩
          case measure => simp [intOf]; omega
        · rw [h1] at c10 hv
          have HV := Lib.hid (show vio x.st = false by simpa using hv)
          clear hv h1
          go_wp2_with (go_at_call 110; refine (Vio_at x.st false _ HV.out).mono ?_; rintro e w' ⟨rfl, rfl⟩)
          go_roundw
          case rel => exact ⟨k + 1, by omega, by go_num, HP2.out, HB2.out, by rw [HC.out]; exact HO2.out⟩
          case measure => simp [intOf]; omega
    · obtain rfl : k = p.n := by omega
      have HB := Lib.hid hB
      have HO := Lib.hid hO
      clear hP hB hO
      go_wp2
      go_ret
      exact ⟨_, rfl, HO.out, HB.out⟩
end Go.Proofs.Ytkgeeohgfbacaaa
