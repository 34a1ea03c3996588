/- The helpers of layer 5's statements. -/
import Derived.Test.YtioclbkgfbjpdaaCrc2
import Derived.Test.YtioclbkgfbjpdaaFloB
import Derived.Lib.SlBytesConst
namespace Go.Proofs.Ytioclbkgfbjpdaa
open Go.RowKit Go.Own
set_option linter.unusedVariables false
set_option linter.unusedSimpArgs false

theorem isRow_rd {w : World} {a : Option Addr} {len cap : Nat} {z : List Int} (h : IsRow .u8 w a len cap z) : ∃ l : List Nat, l.length = len ∧ bytes l ∧ Rd w.heap.size w a len cap (bv l) := by
  rcases h with ⟨rfl, rfl, rfl, rfl⟩ | ⟨x, rfl, hl, hm, hz, hcell, hwz⟩
  · exact ⟨[], rfl, fun b hb => (by cases hb), Rd.none_ _ _ _⟩
  · have hw : ∀ n ∈ z, 0 ≤ n ∧ n ≤ 255 := fun n hn => bounds_u8 (hwz n hn)
    refine ⟨(z.take len).map Int.toNat, by simp; omega, ?_, ?_⟩
    · intro b hb
      obtain ⟨n, hn, rfl⟩ := List.mem_map.1 hb
      have := hw n (List.mem_of_mem_take hn)
      omega
    · refine (rd_of_row hl hm (by omega) hcell).same fun i hi => ?_
      have hi2 : i < z.length := by omega
      have := hw (z[i]) (List.getElem_mem hi2)
      unfold bv
      simp only [List.getD, List.getElem?_map, List.getElem?_take, hi, if_true, List.getElem?_eq_getElem hi2, Option.map_some, Option.getD_some]
      rw [Int.toNat_of_nonneg this.1]

/-- A block of bytes that was made just now. -/
theorem rd_lit {w : World} {g : Nat} {l : List Nat} {t : TypeId} {fr : Nat × Nat} (h : w.heap[g]? = some (.cells (bl l).toArray t fr)) (hm : l.length ≤ maxLen) : Rd w.heap.size w (some ⟨g, 0, none⟩) l.length l.length (bv l) :=
  ⟨Nat.le_refl _, hm, fun h => (by cases h), fun _ => ⟨g, 0, rfl, lt_of_heap h, fun i hi => by
    rw [Nat.zero_add, cell_of_row w g i _ _ _ h, List.getElem?_toArray, bl_at l hi]⟩⟩
theorem sum_example : Cr.sum ([49, 50, 51, 52, 53] ++ [54, 55, 56, 57]) = 10673 := by decide +kernel

theorem heap3_0 (w : World) (A B C : Obj) : (((w.alloc A).alloc B).alloc C).heap[w.heap.size]? = some A :=
  (Below.heap_alloc _ C _ (by simp; omega)).trans ((Below.heap_alloc _ B _ (by simp)).trans (heap_alloc_new w A))
theorem heap3_1 (w : World) (A B C : Obj) : (((w.alloc A).alloc B).alloc C).heap[w.heap.size + 1]? = some B :=
  (Below.heap_alloc _ C _ (by simp)).trans (heap_alloc2_new w A B)
theorem heap3_2 (w : World) (A B C : Obj) : (((w.alloc A).alloc B).alloc C).heap[w.heap.size + 2]? = some C := by
  have := heap_alloc2_new (w.alloc A) B C
  rw [World.size_alloc] at this
  exact this
theorem convert_next {P : Program} {w : World} {o : Obj} {t e : TypeId} {C : Array Value} {n c : Nat} (h : (convert t t (.slice (some ⟨(w.alloc o).heap.size, 0, none⟩) n c)).run P ((w.alloc o).alloc (.cells C e)) = .ok (.slice (some ⟨(w.alloc o).heap.size, 0, none⟩) n c) ((w.alloc o).alloc (.cells C e (C.size, C.size + 1)))) :
    (convert t t (.slice (some ⟨w.heap.size + 1, 0, none⟩) n c)).run P ((w.alloc o).alloc (.cells C e)) = .ok (.slice (some ⟨w.heap.size + 1, 0, none⟩) n c) ((w.alloc o).alloc (.cells C e (C.size, C.size + 1))) := by
  rw [World.size_alloc] at h
  exact h
theorem tabV_one : tabV.all (·.oneCell') = true := by rw [← rowV_all]; exact rowV_one 256
theorem goes0 (l : List Nat) (h : bytes l) : Cr.sum (whole l) = 0 := Cr.goes l h
theorem set_bl (l : List Nat) (i x : Nat) : (bl l).set i (.int .u8 ((x : Nat) : Int)) = bl (l.set i x) := by
  simp [bl, List.map_set]
theorem set_bytes {l : List Nat} (h : bytes l) (i : Nat) {x : Nat} (hx : x < 256) : bytes (l.set i x) := fun b hb => by
  rcases List.mem_or_eq_of_mem_set hb with hb | rfl
  · exact h b hb
  · exact hx
theorem split_at (l : List Nat) (i : Nat) (h : i < l.length) : l = l.take i ++ l.getD i 0 :: l.drop (i + 1) := by
  have e : l.getD i 0 = l[i] := by simp [List.getD, h]
  rw [e, ← List.drop_eq_getElem_cons h, List.take_append_drop]
theorem set_split (l : List Nat) (i x : Nat) (h : i < l.length) : l.set i x = l.take i ++ x :: l.drop (i + 1) := by
  rw [List.set_eq_take_append_cons_drop, if_pos h]
theorem xor_self_iff (x t : Nat) : x = x ^^^ t ↔ t = 0 := by
  constructor
  · intro h
    have e : x ^^^ (x ^^^ t) = t := by rw [← Nat.xor_assoc, Nat.xor_self, Nat.zero_xor]
    rw [← h, Nat.xor_self] at e
    exact e.symm
  · rintro rfl; simp
theorem one_turn (l : List Nat) (i t : Nat) (hb : bytes l) (h : i < l.length) (ht : t < 256) : Cr.sum l = Cr.sum (l.set i (l.getD i 0 ^^^ t)) ↔ t = 0 := by
  have hx := hb.at i
  have := Cr.one_byte (l.take i) (l.drop (i + 1)) (l.getD i 0) (l.getD i 0 ^^^ t) (hb.take i) (hb.drop _) hx (Nat.xor_lt_two_pow (n := 8) hx ht)
  rw [set_split l i _ h, ← xor_self_iff (l.getD i 0) t]
  conv => lhs; lhs; rw [split_at l i h]
  exact this
theorem bytes_take {l : List Nat} {len n : Nat} (hl : l.length = len) : (l.take n).length = min n len := by rw [List.length_take, hl]

end Go.Proofs.Ytioclbkgfbjpdaa
