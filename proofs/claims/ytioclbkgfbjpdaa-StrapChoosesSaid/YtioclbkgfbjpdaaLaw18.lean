/- Layer 18: what comes in. -/
import Derived.Test.YtioclbkgfbjpdaaSw10
import Derived.Test.YtioclbkgfbjpdaaSwR
import Derived.Test.YtioclbkgfbjpdaaSwE
import Derived.Test.YtioclbkgfbjpdaaFrame
namespace Go.Proofs.Ytioclbkgfbjpdaa
open Go.RowKit Go.Own Bs
set_option linter.unusedVariables false
set_option linter.unusedSimpArgs false
theorem isRow_u16S {w : World} {a : Option Addr} {len cap : Nat} {z : List Int} (h : IsRow .u16 w a len cap z) : ∃ l : List Nat, l.length = len ∧ (∀ x ∈ l, x < 65536) ∧ Rd w.heap.size w a len cap (sv l) := by
  rcases h with ⟨rfl, rfl, rfl, rfl⟩ | ⟨x, rfl, hl, hm, hz, hcell, hwz⟩
  · exact ⟨[], rfl, by simp, Rd.none_ _ _ _⟩
  · have hb : ∀ y ∈ z, 0 ≤ y ∧ y ≤ 65535 := fun y hy => bounds_u16 (hwz y hy)
    refine ⟨(z.take len).map Int.toNat, by simp; omega, fun y hy => ?_, (rd_of_row hl hm (by omega) hcell).same fun i hi => ?_⟩
    · obtain ⟨q, hq, rfl⟩ := List.mem_map.1 hy
      have := hb q (List.mem_of_mem_take hq)
      omega
    · have hi2 : i < z.length := by omega
      have h0 := (hb z[i] (List.getElem_mem _)).1
      unfold sv
      simp [List.getD, hi, hi2, Int.toNat_of_nonneg h0]
theorem list16 {l : List Int} (h : l.length = 16) : ∃ f : Nat → Int, (∀ i, i < 16 → f i ∈ l) ∧ l.map (Value.int .u16) = [.int .u16 (f 0), .int .u16 (f 1), .int .u16 (f 2), .int .u16 (f 3), .int .u16 (f 4), .int .u16 (f 5), .int .u16 (f 6), .int .u16 (f 7), .int .u16 (f 8), .int .u16 (f 9), .int .u16 (f 10), .int .u16 (f 11), .int .u16 (f 12), .int .u16 (f 13), .int .u16 (f 14), .int .u16 (f 15)] := by
  match l, h with
  | [a, b, c, d, e, f, g, h, i, j, k, m, n, o, p, q], _ =>
    refine ⟨fun t => [a, b, c, d, e, f, g, h, i, j, k, m, n, o, p, q].getD t 0, fun t ht => ?_, rfl⟩
    simp only [List.getD]
    rw [List.getElem?_eq_getElem (by simpa using ht)]
    exact List.getElem_mem _
theorem lk_of {l : List Int} (h : l.length = 16) (hw : ∀ x ∈ l, (Lit.int .u16 x).wf = true) : ∃ lk : Nat → Nat, (∀ i, lk i < 65536) ∧ (l.map (Value.int .u16)).toArray = #[.int .u16 ((lk 0 : Nat) : Int), .int .u16 ((lk 1 : Nat) : Int), .int .u16 ((lk 2 : Nat) : Int), .int .u16 ((lk 3 : Nat) : Int), .int .u16 ((lk 4 : Nat) : Int), .int .u16 ((lk 5 : Nat) : Int), .int .u16 ((lk 6 : Nat) : Int), .int .u16 ((lk 7 : Nat) : Int), .int .u16 ((lk 8 : Nat) : Int), .int .u16 ((lk 9 : Nat) : Int), .int .u16 ((lk 10 : Nat) : Int), .int .u16 ((lk 11 : Nat) : Int), .int .u16 ((lk 12 : Nat) : Int), .int .u16 ((lk 13 : Nat) : Int), .int .u16 ((lk 14 : Nat) : Int), .int .u16 ((lk 15 : Nat) : Int)] := by
  obtain ⟨f, h1, h2⟩ := list16 h
  refine ⟨fun i => if i < 16 then (f i).toNat else 0, fun i => ?_, ?_⟩
  · show (if i < 16 then (f i).toNat else 0) < 65536
    split
    · rename_i hi
      have := bounds_u16 (hw _ (h1 i hi))
      omega
    · omega
  · have e : ∀ i, i < 16 → ((((if i < 16 then (f i).toNat else 0) : Nat)) : Int) = f i := fun i hi => by
      rw [if_pos hi]
      have := bounds_u16 (hw _ (h1 i hi))
      omega
    rw [h2]
    simp only [e 0 (by omega), e 1 (by omega), e 2 (by omega), e 3 (by omega), e 4 (by omega), e 5 (by omega), e 6 (by omega), e 7 (by omega), e 8 (by omega), e 9 (by omega), e 10 (by omega), e 11 (by omega), e 12 (by omega), e 13 (by omega), e 14 (by omega), e 15 (by omega)]
theorem ch_ofS {z : List Int} (h : z.length = 6) (hw : ∀ x ∈ z, (Lit.int .i8 x).wf = true) : ∃ c : Nat → Int, ChOk c ∧ (z.map (Value.int .i8)).toArray = #[.int .i8 (c 0), .int .i8 (c 1), .int .i8 (c 2), .int .i8 (c 3), .int .i8 (c 4), .int .i8 (c 5)] := by
  match z, h, hw with
  | [a, b, c, d, e, f], _, hw =>
    have k : ∀ x ∈ [a, b, c, d, e, f], -128 ≤ x ∧ x < 128 := fun x hx => by have := bounds_i8 (hw x hx); omega
    refine ⟨fun i => [a, b, c, d, e, f].getD i 0, fun i hi => ?_, rfl⟩
    have hh : i = 0 ∨ i = 1 ∨ i = 2 ∨ i = 3 ∨ i = 4 ∨ i = 5 := by omega
    rcases hh with rfl | rfl | rfl | rfl | rfl | rfl
    · exact k a (by simp)
    · exact k b (by simp)
    · exact k c (by simp)
    · exact k d (by simp)
    · exact k e (by simp)
    · exact k f (by simp)
theorem layS_six {z : List Nat} (hz : ∀ t ∈ z, t < 65536) : (layS (z.take 6)).1.length ≤ 6 ∧ ∀ t ∈ (layS (z.take 6)).1, t < 65536 := by
  refine ⟨?_, (layS_lt _ (fun t h => hz t (List.mem_of_mem_take h))).2⟩
  rw [layS_len, List.length_take]
  omega
end Go.Proofs.Ytioclbkgfbjpdaa
