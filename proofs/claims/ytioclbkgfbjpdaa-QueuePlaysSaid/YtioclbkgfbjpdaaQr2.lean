/- Layer 11: the document's queue: what is taken. -/
import Derived.Test.YtioclbkgfbjpdaaQr
namespace Go.Proofs.Ytioclbkgfbjpdaa
open Go.RowKit Go.Own
set_option linter.unusedVariables false
set_option linter.unusedSimpArgs false
theorem own_capQ {w : World} {base c : Nat} {a : Option Addr} {L : List Rq} (h : w.ownsRow base 57 5 (.slice a L.length c) L.length (ql L)) : L.length ≤ c ∧ c ≤ maxLen := by
  rcases h.2 with ⟨hv, hx⟩ | ⟨g, cap, cur, hv, hb, hr, hn, hm, _⟩
  · injection hv with h1 h2 h3
    exact ⟨by omega, by unfold maxLen; omega⟩
  · injection hv with h1 h2 h3
    subst h3
    exact ⟨hn, hm⟩
theorem own_keepQ {w w' : World} {base : Nat} {e : TypeId} {size : Nat} {v : Value} {n : Nat} {xs : List Value} (h : w.ownsRow base e size v n xs) (hb : ∀ j, base ≤ j → j < w.heap.size → w'.heap[j]? = w.heap[j]?) : w'.ownsRow base e size v n xs := by
  obtain ⟨h1, h2 | ⟨g, cap, cur, hv, hg, hr, ho⟩⟩ := h
  · exact ⟨h1, .inl h2⟩
  · exact ⟨h1, .inr ⟨g, cap, cur, hv, hg, (hb g hg (box_lt hr)).trans hr, ho⟩⟩
theorem xq_put {w w1 w7 : World} {gx base n cnt d ld c7 : Nat} {v : Value} {a7 : Option Addr} {L L' : List Rq} (H : XQ w gx base n cnt d v L) (HK : Kept gx gx w w1) (hb : Below w1.heap.size w1 w7) (hh : w7.heap[gx]? = some (.cells #[v, .int .i64 ((n : Nat) : Int), .int .i64 ((d : Nat) : Int), .int .u16 ((cnt : Nat) : Int)] 41 (0, 0))) (ho : w7.ownsRow base 57 5 (.slice a7 ld c7) ld (ql L')) (hs : ∀ r ∈ L', r ∈ L) (hl : L'.length = ld) :
    XQ (w7.setCell ⟨gx, 0, none⟩ (.slice a7 ld c7)) gx base n cnt d (.slice a7 L'.length c7) L' ∧ Kept gx gx w (w7.setCell ⟨gx, 0, none⟩ (.slice a7 ld c7)) := by
  have hK := (HK.trans (Kept.of_below (g := gx) (b := gx) hb)).set (a := ⟨gx, 0, none⟩) (.inl rfl) (.slice a7 ld c7)
  refine ⟨⟨?_, ?_, H.lt, fun r hr => (H.data r (hs r hr)).kep (gq := gx) (g := gx) (b := gx) ⟨hK.os, hK.tape, hK.output, hK.size, fun k hk h1 h2 _ => hK.block k hk h1 h2⟩ H.lt H.lt H.lt⟩, hK⟩
  · rw [hl]
    exact heap_setCell_same _ gx 0 _ _ (.slice a7 ld c7) hh
  · rw [hl]
    exact own_keepQ ho (fun j h1 h2 => heap_setCell_other _ _ _ _ (by show j ≠ gx; have := H.lt; omega))
theorem info_rq11 : (Try.prog.info? 57).map (fun i => (i.zero, i.size, i.bytes)) = some (some (.agg #[.int .u8 (rq0.s : Nat), .int .u8 (rq0.u : Nat), .int .u16 (rq0.c : Nat), .int .u32 (rq0.t : Nat), .slice rq0.a rq0.n rq0.cp]), 5, 32) := by kernel_rfl
set_option maxRecDepth 100000 in
set_option maxHeartbeats 2000000 in
theorem Q_take {w : World} {gx base n cnt d c : Nat} {a : Option Addr} {L : List Rq} (k s u t : Nat) (da : Option Addr) (dn dc : Nat) (M : Int) (m : Nat) (h : XQ w gx base n cnt d (.slice a L.length c) L) (hk : k % 4 = 3) (hm : m = min M.toNat L.length) (hL : L.length ≤ 16) (hk2 : k < 256) (hbs : base ≤ w.heap.size) :
    Calls Try.prog 20 #[.pointer (some ⟨gx, 0, none⟩), .agg #[.int .u8 ((k : Nat) : Int), .int .u8 ((s : Nat) : Int), .int .u8 ((u : Nat) : Int), .int .u32 ((t : Nat) : Int), .slice da dn dc, .int .i64 M]] w fun e w' => e = .returned (.tuple #[.bool true, .slice a m c]) ∧ (∃ a' c', XQ w' gx base n cnt d (.slice a' (L.drop m).length c') (L.drop m)) ∧ Kept gx gx w w' := by
  obtain ⟨i0, hi, hz0, hz1, hz2⟩ := info_parts info_rq11
  have hkI : (k : Int) % 4 = 3 := by omega
  obtain ⟨hlc, hcm⟩ := own_capQ h.own
  have hml : m ≤ L.length := by omega
  have hup := run_slice_upQ a L.length c m (by omega) hcm
  have hfr := run_slice_fromQ a L.length c m hml
  obtain ⟨A, hA⟩ : ∃ A, A = (if c = m then a else a.map (·.add (m * 5))) := ⟨_, rfl⟩
  rw [← hA] at hfr
  obtain ⟨ld, hld⟩ : ∃ ld, ld = L.length - m := ⟨_, rfl⟩
  rw [← hld] at hfr
  have hdl : (L.drop m).length = ld := by rw [List.length_drop, hld]
  have hdc : ∀ w1 : World, w1.ownsRow base 57 5 (.slice a L.length c) L.length (ql L) → 0 < ld → ∃ b off, A = some ⟨b, off, none⟩ ∧ ∀ j u, (ql (L.drop m))[j]? = some u → w1.cell? ⟨b, off + j, none⟩ = some u := fun w1 ho => by
    rw [hA, hld]
    exact drop_cells ho hml
  have HDC := Lib.hid hdc
  have HDL := Lib.hid hdl
  have hld2 : ld ≤ 16 := by omega
  have H := Lib.hid h
  unfold maxLen at hcm
  clear hk hA hld hdl hdc
  skip
  have h0 := heap_alloc_new w (.cells #[.int .u8 ((k : Nat) : Int), .int .u8 ((s : Nat) : Int), .int .u8 ((u : Nat) : Int), .int .u32 ((t : Nat) : Int), .slice da dn dc, .int .i64 M] 45)
  have hb0 : Below w.heap.size w (w.alloc (.cells #[.int .u8 ((k : Nat) : Int), .int .u8 ((s : Nat) : Int), .int .u8 ((u : Nat) : Int), .int .u32 ((t : Nat) : Int), .slice da dn dc, .int .i64 M] 45)) := (Below.refl _ _).alloc (Nat.le_refl _) _
  have hgw := box_lt h.head
  go_enter Try.func20, Try.ntmps20
  go_upto_region 1 with fail
  obtain ⟨w1, hw1⟩ : ∃ w1, w1 = w.alloc (.cells #[.int .u8 ((k : Nat) : Int), .int .u8 ((s : Nat) : Int), .int .u8 ((u : Nat) : Int), .int .u32 ((t : Nat) : Int), .slice da dn dc, .int .i64 M] 45) := ⟨_, rfl⟩
  rw [← hw1] at h0 hb0 ⊢
  obtain ⟨g3, hg3⟩ : ∃ g, g = w.heap.size := ⟨_, rfl⟩
  rw [← hg3] at h0
  rw [show (Value.pointer (some ⟨w.heap.size, 0, none⟩)) = .pointer (some ⟨g3, 0, none⟩) by rw [hg3]]
  have HH := Lib.hid (box_below h.head hb0 hgw)
  have HK := Lib.hid (Kept.of_below (g := gx) (b := gx) hb0)
  have HA := Lib.hid h0
  have hgg : gx < g3 := by rw [hg3]; exact hgw
  clear hw1 hg3 hb0 h0 hgw
  have k0 : w1.cell? ⟨g3, 0, none⟩ = some (.int .u8 ((k : Nat) : Int)) := cell_of_row _ _ 0 _ _ _ HA.out
  have c0 : w1.cell? ⟨gx, 0, none⟩ = some (.slice a L.length c) := cell_of_row _ _ 0 _ _ _ HH.out
  have c1 : w1.cell? ⟨gx, 1, none⟩ = some (.int .i64 ((n : Nat) : Int)) := cell_of_row _ _ 1 _ _ _ HH.out
  have c2 : w1.cell? ⟨gx, 2, none⟩ = some (.int .i64 ((d : Nat) : Int)) := cell_of_row _ _ 2 _ _ _ HH.out
  have f2 : w1.frozen? ⟨gx, 2, none⟩ = false := frozen_of_row _ _ 2 _ _ HH.out
  have k5 : w1.cell? ⟨g3, 5, none⟩ = some (.int .i64 M) := cell_of_row _ _ 5 _ _ _ HA.out
  have lgx := box_lt HH.out
  have hbx : base ≤ w1.heap.size := Nat.le_trans hbs HK.out.size
  have HO1 := Lib.hid (own_keepQ H.out.own (fun j h1 h2 => HK.out.block j h2 (by have := H.out.lt; omega) (by have := H.out.lt; omega)))
  obtain ⟨ll, hll⟩ : ∃ ll, ll = L.length := ⟨_, rfl⟩
  have HLL := Lib.hid hll
  rw [← hll] at c0 hup hfr hlc hm hml hL
  by_cases h0 : M < 0
  · obtain rfl : m = 0 := by omega
    clear hm hll
    have hup0 : ∀ w : World, (Instr.slice 38 (.slice a ll c) none (some (.int .i64 0)) none).run Try.prog w = .ok (.slice a 0 c) w := hup
    have hfr0 : ∀ w : World, (Instr.slice 38 (.slice a ll c) (some (.int .i64 0)) none none).run Try.prog w = .ok (.slice A ld c) w := hfr
    clear hup hfr
    go_upto_region 8 with fail
    skip
    go_wp2_with (at_builtin; refine wpList_copyQ rfl base _ _ rfl hi hz0 hz1 hz2 rfl rfl HDL.out (HDC.out _ (own_keepQ HO1.out (fun j h1 h2 => ((Below.refl w1.heap.size w1).alloc (Nat.le_refl _) _).block j h2))) (heap_alloc_new _ _) hbx (by omega) ?_; intro a7 c7 w7 hown7 hb7; have hb8 : Below w1.heap.size w1 w7 := ((Below.refl w1.heap.size w1).alloc (Nat.le_refl _) _).trans (hb7.mono (by simp)); have hh7 := box_below HH.out hb8 lgx; have hg0 : w7.cell? ⟨gx, 0, none⟩ = some (.slice a ll c) := (by rw [HLL.out]; exact cell_of_row _ _ 0 _ _ _ hh7); have hf0 : w7.frozen? ⟨gx, 0, none⟩ = false := frozen_of_row _ _ 0 _ _ hh7; have HH7 := Lib.hid hh7; have HO7 := Lib.hid hown7; have HB8 := Lib.hid hb8; clear hh7 hown7 hb7 hb8 c0)
    skip
    have hend := xq_put H.out HK.out HB8.out HH7.out HO7.out (fun r hr => List.mem_of_mem_drop hr) HDL.out
    exact bodyPost_ret (v := .tuple #[.bool true, .slice a 0 c]) (by simp [results, Try.results20, go_sem]) rfl ⟨rfl, ⟨a7, c7, hend.1⟩, hend.2⟩
  · obtain ⟨M, rfl⟩ := Int.eq_ofNat_of_zero_le (show 0 ≤ M by omega)
    by_cases h1 : ll < M
    · obtain rfl : ll = m := by omega
      clear hm hll h0
      go_upto_region 8 with fail
      skip
      go_wp2_with (at_builtin; refine wpList_copyQ rfl base _ _ rfl hi hz0 hz1 hz2 rfl rfl HDL.out (HDC.out _ (own_keepQ HO1.out (fun j h1 h2 => ((Below.refl w1.heap.size w1).alloc (Nat.le_refl _) _).block j h2))) (heap_alloc_new _ _) hbx (by omega) ?_; intro a7 c7 w7 hown7 hb7; have hb8 : Below w1.heap.size w1 w7 := ((Below.refl w1.heap.size w1).alloc (Nat.le_refl _) _).trans (hb7.mono (by simp)); have hh7 := box_below HH.out hb8 lgx; have hg0 : w7.cell? ⟨gx, 0, none⟩ = some (.slice a ll c) := (by rw [HLL.out]; exact cell_of_row _ _ 0 _ _ _ hh7); have hf0 : w7.frozen? ⟨gx, 0, none⟩ = false := frozen_of_row _ _ 0 _ _ hh7; have HH7 := Lib.hid hh7; have HO7 := Lib.hid hown7; have HB8 := Lib.hid hb8; clear hh7 hown7 hb7 hb8 c0)
      skip
      have hend := xq_put H.out HK.out HB8.out HH7.out HO7.out (fun r hr => List.mem_of_mem_drop hr) HDL.out
      exact bodyPost_ret (v := .tuple #[.bool true, .slice a ll c]) (by simp [results, Try.results20, go_sem]) rfl ⟨rfl, ⟨a7, c7, hend.1⟩, hend.2⟩
    · obtain rfl : m = M := by omega
      clear hm hll h0
      go_upto_region 8 with fail
      skip
      go_wp2_with (at_builtin; refine wpList_copyQ rfl base _ _ rfl hi hz0 hz1 hz2 rfl rfl HDL.out (HDC.out _ (own_keepQ HO1.out (fun j h1 h2 => ((Below.refl w1.heap.size w1).alloc (Nat.le_refl _) _).block j h2))) (heap_alloc_new _ _) hbx (by omega) ?_; intro a7 c7 w7 hown7 hb7; have hb8 : Below w1.heap.size w1 w7 := ((Below.refl w1.heap.size w1).alloc (Nat.le_refl _) _).trans (hb7.mono (by simp)); have hh7 := box_below HH.out hb8 lgx; have hg0 : w7.cell? ⟨gx, 0, none⟩ = some (.slice a ll c) := (by rw [HLL.out]; exact cell_of_row _ _ 0 _ _ _ hh7); have hf0 : w7.frozen? ⟨gx, 0, none⟩ = false := frozen_of_row _ _ 0 _ _ hh7; have HH7 := Lib.hid hh7; have HO7 := Lib.hid hown7; have HB8 := Lib.hid hb8; clear hh7 hown7 hb7 hb8 c0)
      skip
      have hend := xq_put H.out HK.out HB8.out HH7.out HO7.out (fun r hr => List.mem_of_mem_drop hr) HDL.out
      exact bodyPost_ret (v := .tuple #[.bool true, .slice a m c]) (by simp [results, Try.results20, go_sem]) rfl ⟨rfl, ⟨a7, c7, hend.1⟩, hend.2⟩
end Go.Proofs.Ytioclbkgfbjpdaa
