/- Commands and reports: Bytes. -/
import Derived.Test.YtmihhapedpalmaaPs2
import Derived.Test.YtmihhapedpalmaaPk4
namespace Go.Proofs.Ytmihhapedpalmaa
open Go.RowKit Go.Own
set_option linter.unusedVariables false
set_option linter.unusedSimpArgs false

/-- A row that was just laid. -/
theorem rd_arr {w : World} {g n m : Nat} {t : TypeId} {f : Nat → Value} (l : List Value) (h : w.heap[g]? = some (.cells l.toArray t (0, 0))) (hg : g < n) (hm : l.length = m) (hm2 : m ≤ 1000) (hf : ∀ i, i < m → l[i]? = some (f i)) : Rd n w (some ⟨g, 0, none⟩) m m f :=
  ⟨Nat.le_refl _, by unfold maxLen; omega, fun h => (by cases h), fun _ => ⟨g, 0, rfl, hg, fun i hi => by
    rw [Nat.zero_add, cell_of_row _ _ i _ _ _ h, List.getElem?_toArray]
    exact hf i hi⟩⟩
theorem or_32 : ∀ y, y < 16 → 32 ||| y = 32 + y := by decide
theorem bl_range' {d : List Nat} {len : Nat} (h : d.length = len) : (List.range len).map (bv d) = bl d := by
  subst h; exact bl_range d
def cmN (a s u c : Nat) : Nat → Nat := fun i => [32 + a, s, u, c].getD i 0
def rpN (s u c t : Nat) : Nat → Nat := fun i => [32, s, u, c, 0, t].getD i 0
theorem lay_cm {a s u c : Nat} (ha : a < 16) (hs : s < 256) (hu : u < 256) : flat (fun i => lay1 (([1, 1, 1, 2] : List Int).getD i 0) (nth (cmN a s u c) 4 i)) 4 = cmB a s u c [] := by
  simp [flat, List.range_succ, lay1, nth, cmN, cmB, numB]
  omega
theorem lay_rp {s u c t : Nat} (hs : s < 256) (hu : u < 256) : flat (fun i => lay1 (([1, 1, 1, 2, 2, 4] : List Int).getD i 0) (nth (rpN s u c t) 6 i)) 6 = rpB s u c t [] := by
  simp [flat, List.range_succ, lay1, nth, rpN, rpB, numB]
  omega
theorem cmB_app (a s u c : Nat) (d : List Nat) : cmB a s u c [] ++ d = cmB a s u c d := by simp [cmB]
theorem rpB_app (s u c t : Nat) (d : List Nat) : rpB s u c t [] ++ d = rpB s u c t d := by simp [rpB]
def CmBytes (w : World) (a s u c len : Nat) (d : List Nat) (e : Ending) (w' : World) : Prop :=
  Below w.heap.size w w' ∧ ((cmBad a len ≠ 0 ∧ e = .returned (.tuple #[.slice none 0 0, .int .i64 (cmBad a len : Nat)])) ∨
    (cmBad a len = 0 ∧ ∃ v, e = .returned (.tuple #[v, .int .i64 0]) ∧ w'.ownsRow w.heap.size 5 1 v (len + 5) (bl (cmB a s u c d))))
def RpBytes (w : World) (s u c t len : Nat) (d : List Nat) (e : Ending) (w' : World) : Prop :=
  Below w.heap.size w w' ∧ ((rpBad len ≠ 0 ∧ e = .returned (.tuple #[.slice none 0 0, .int .i64 (rpBad len : Nat)])) ∨
    (rpBad len = 0 ∧ ∃ v, e = .returned (.tuple #[v, .int .i64 0]) ∧ w'.ownsRow w.heap.size 5 1 v (len + 11) (bl (rpB s u c t d))))
/-- A row of like things that was just laid. -/
theorem rd_map {α : Type} {w : World} {b n m : Nat} {t : TypeId} (zs : List α) (d : α) (g : α → Value) (h : w.heap[b]? = some (.cells (zs.map g).toArray t (0, 0))) (hg : b < n) (hm : zs.length = m) (hm2 : m ≤ 1000) : Rd n w (some ⟨b, 0, none⟩) m m (fun i => g (zs.getD i d)) :=
  rd_arr _ h hg (by rw [List.length_map]; exact hm) hm2 (fun i hi => by
    have hi2 : i < zs.length := by omega
    simp [List.getD, hi2])
theorem heap3 (w : World) (a b c : Array Value) (t u v : TypeId) : (((w.alloc (.cells a t)).alloc (.cells b u)).alloc (.cells c v)).heap[w.heap.size]? = some (.cells a t (0, 0)) ∧ (((w.alloc (.cells a t)).alloc (.cells b u)).alloc (.cells c v)).heap[w.heap.size + 1]? = some (.cells b u (0, 0)) ∧ (((w.alloc (.cells a t)).alloc (.cells b u)).alloc (.cells c v)).heap[w.heap.size + 1 + 1]? = some (.cells c v (0, 0)) := by
  have hs : (w.alloc (.cells a t)).heap.size = w.heap.size + 1 := by simp
  have h1 := heap_alloc2_old (w.alloc (.cells a t)) (.cells b u) (.cells c v)
  have h2 := heap_alloc2_new (w.alloc (.cells a t)) (.cells b u) (.cells c v)
  rw [hs] at h1 h2
  exact ⟨box_below (heap_alloc_new w (.cells a t)) (((Below.refl _ _).alloc (Nat.le_refl _) _).alloc (by simp) _) (by simp), h1, h2⟩
/- #1 the box, #2 its type, #3 the sizes' row, #4 the numbers' row, #5 how many, #6 sizes, #7 numbers, #8 the head's length -/
set_option maxRecDepth 100000 in
set_option maxHeartbeats 4000000 in
theorem cBytes_any (a s u c : Nat) (x : Option Addr) (len cap n : Nat) (d : List Nat) (w : World) (ha : a < 256) (hs : s < 256) (hu : u < 256) (hc : c < 65536) (hl : d.length = len) (hn : n ≤ w.heap.size) (hr : Rd n w x len cap (bv d)) :
    Calls Try.prog 64 #[.agg #[.int .u8 (a : Nat), .int .u8 (s : Nat), .int .u8 (u : Nat), .int .u16 (c : Nat), .slice x len cap]] w (CmBytes w a s u c len d) := by
  obtain ⟨i0, hi, hz0, hz1, hz2⟩ := info_parts info_u8
  have h1 := hr.le
  have h2 := hr.top
  unfold maxLen at h2
  have HR := Lib.hid hr
  have HL := Lib.hid hl
  clear hr hl
  by_cases hA : 15 < a
  · have HE := Lib.hid (show cmBad a len = 1 by unfold cmBad; rw [if_pos hA])
    go_enter Try.func64, Try.ntmps64
    go_wp2
    go_ret2
    exact ⟨by repeat' (first | (with_reducible exact Below.refl _ _) | (with_reducible assumption) | (with_reducible refine Below.setCell ?_ ?_ _) | (with_reducible refine Below.alloc ?_ ?_ _) | (with_reducible refine Below.drew ?_) | (with_reducible refine Below.drawsN ?_ _) | go_size), .inl ⟨by rw [HE.out]; decide, by rw [HE.out]; rfl⟩⟩
  by_cases hL : 195 < len
  · have HE := Lib.hid (show cmBad a len = 4 by unfold cmBad; rw [if_neg hA, if_pos hL])
    go_enter Try.func64, Try.ntmps64
    go_wp2
    go_ret2
    exact ⟨by repeat' (first | (with_reducible exact Below.refl _ _) | (with_reducible assumption) | (with_reducible refine Below.setCell ?_ ?_ _) | (with_reducible refine Below.alloc ?_ ?_ _) | (with_reducible refine Below.drew ?_) | (with_reducible refine Below.drawsN ?_ _) | go_size), .inl ⟨by rw [HE.out]; decide, by rw [HE.out]; rfl⟩⟩
  have HE := Lib.hid (show cmBad a len = 0 by unfold cmBad; rw [if_neg hA, if_neg hL])
  have ho : bits .or .u8 32 (a : Int) = ((32 + a : Nat) : Int) := by
    have := or8u 32 a (by omega) (by omega)
    rw [or_32 _ (by omega)] at this
    rw [← this]; rfl
  have hlay := lay_cm (a := a) (s := s) (u := u) (c := c) (by omega) hs hu
  have hlen : (cmB a s u c []).length = 5 := cmB_len a s u c []
  have happ := cmB_app a s u c d
  obtain ⟨H, hH⟩ : ∃ H, H = cmB a s u c [] := ⟨_, rfl⟩
  obtain ⟨y, hy⟩ : ∃ y, y = 32 + a := ⟨_, rfl⟩
  rw [← hH] at hlay hlen happ
  rw [← hy] at ho
  have hfn : cmN a s u c = fun i => [y, s, u, c].getD i 0 := by rw [hy]; rfl
  rw [hfn] at hlay
  have HAPP := Lib.hid happ
  have HLAY := Lib.hid hlay
  have HLEN := Lib.hid hlen
  have hy2 : y < 256 := by omega
  have H32 := Lib.hid (show ∀ i, i < 4 → ([y, s, u, c] : List Nat).getD i 0 < 4294967296 from fun i hi => by
    have : i = 0 ∨ i = 1 ∨ i = 2 ∨ i = 3 := by omega
    rcases this with rfl | rfl | rfl | rfl <;> simp <;> omega)
  clear hlay hlen happ hH hy hfn
  go_enter Try.func64, Try.ntmps64
  go_wp2_with fail
  skip
  have hbc : Below w.heap.size w (((w.alloc (.cells #[.int .u8 a, .int .u8 s, .int .u8 u, .int .u16 c, .slice x len cap] 56)).alloc (.cells #[.int .i64 1, .int .i64 1, .int .i64 1, .int .i64 2] 3)).alloc (.cells #[.int .u32 y, .int .u32 s, .int .u32 u, .int .u32 c] 68)) := by repeat' (first | (with_reducible exact Below.refl _ _) | (with_reducible assumption) | (with_reducible refine Below.setCell ?_ ?_ _) | (with_reducible refine Below.alloc ?_ ?_ _) | (with_reducible refine Below.drew ?_) | (with_reducible refine Below.drawsN ?_ _) | go_size)
  obtain ⟨hX, hY, hZ⟩ := heap3 w #[.int .u8 a, .int .u8 s, .int .u8 u, .int .u16 c, .slice x len cap] #[.int .i64 1, .int .i64 1, .int .i64 1, .int .i64 2] #[.int .u32 y, .int .u32 s, .int .u32 u, .int .u32 c] 56 3 68
  obtain ⟨w3, hw3⟩ : ∃ w3, w3 = ((w.alloc (.cells #[.int .u8 a, .int .u8 s, .int .u8 u, .int .u16 c, .slice x len cap] 56)).alloc (.cells #[.int .i64 1, .int .i64 1, .int .i64 1, .int .i64 2] 3)).alloc (.cells #[.int .u32 y, .int .u32 s, .int .u32 u, .int .u32 c] 68) := ⟨_, rfl⟩
  rw [← hw3] at hbc hX hY hZ ⊢
  have r1 := rd_map (n := w3.heap.size) (m := 4) ([1, 1, 1, 2] : List Int) 0 (fun z => Value.int .i64 z) hY (Array.getElem?_eq_some_iff.1 hY).1 rfl (by decide)
  have r2 := rd_map (n := w3.heap.size) (m := 4) ([y, s, u, c] : List Nat) 0 (fun z => Value.int .u32 ((z : Nat) : Int)) hZ (Array.getElem?_eq_some_iff.1 hZ).1 rfl (by decide)
  have hgl := (Array.getElem?_eq_some_iff.1 hX).1
  clear hw3 hY hZ
  go_at_call 83
  refine (Lay_any _ _ 4 4 4 4 _ _ (fun i => ([1, 1, 1, 2] : List Int).getD i 0) (fun i => ([y, s, u, c] : List Nat).getD i 0) w3 r1 r2 (Nat.le_refl _) (Nat.le_refl _) ?_ (by decide)).mono ?_
  · exact H32.out
  rintro e w4 ⟨v, rfl, hown, hb4⟩
  rw [HLAY.out, HLEN.out] at hown
  obtain ⟨va, vc, rfl⟩ := own_form hown
  have hown := own_base hown hbc.size
  have hx4 := (hb4.block w.heap.size hgl).trans hX
  have k4 := cell_of_row w4 w.heap.size 4 _ _ _ hx4
  have hb4 := hbc.trans (hb4.mono hbc.size)
  have HB4 := Lib.hid hb4
  have hs4 : w.heap.size ≤ w4.heap.size := hb4.size
  have HR4 := Lib.hid (HR.out.below' hb4 hn)
  have HO := Lib.hid hown
  clear r1 r2 hX hx4 hbc hb4 hown
  go_wp2_with (at_builtin; refine wpList_app rfl _ _ 54 rfl w.heap.size 5 i0 (.int .u8 0) 1 Try.underlying54 hi hz0 hz1 hz2 rfl _ _ _ rfl HO.out rfl HR4.out (bv_one _) ?c3 ?c4 ?c5 ?_)
  case c3 => unfold maxLen; omega
  case c4 => omega
  case c5 => exact hs4
  intro v' w5 hown5 hgrow5
  have hB5 := HB4.out.grown hgrow5 hs4 (fun j hj => (HO.out.lt j hj).1)
  rw [bl_range' HL.out, ← bl_append, HAPP.out] at hown5
  have HO5 := Lib.hid hown5
  have HB5 := Lib.hid hB5
  clear hown5 hgrow5 hB5
  go_wp2
  go_ret2
  refine ⟨HB5.out, .inr ⟨HE.out, _, rfl, ?_⟩⟩
  rw [Nat.add_comm len 5]
  exact HO5.out
end Go.Proofs.Ytmihhapedpalmaa
