/- Journals: what is selected. -/
import Derived.Test.YtkgeeohgfbacaaaEqO
import Derived.Test.YtkgeeohgfbacaaaEqP
import Derived.BigRegionIn
namespace Go.Proofs.Ytkgeeohgfbacaaa.Je
open Go.RowKit Go.Own Go.Shelf
set_option linter.unusedVariables false
set_option linter.unusedSimpArgs false
attribute [local go_sem] Oper.semAt_some
theorem placed_vals (zs : List En) (k : Nat) (h : k ≤ zs.length) : (placed zs k).map (·.2) = zs.take k := by
  induction k with
  | zero => simp [placed]
  | succ k ih =>
    rw [placed_succ, List.map_append, ih (by omega), List.take_succ_eq_append_getElem (by omega)]
    simp [List.getD, show k < zs.length by omega]
/-- What has been selected. -/
def sel (p : En → Bool) (pre : List (Nat × En)) : List En := (pre.map (·.2)).filter p
theorem sel_yes {p : En → Bool} {pre : List (Nat × En)} {x : Nat × En} (h : p x.2 = true) : sel p (pre ++ [x]) = sel p pre ++ [x.2] := by simp [sel, List.filter_append, h]
theorem sel_no {p : En → Bool} {pre : List (Nat × En)} {x : Nat × En} (h : p x.2 = false) : sel p (pre ++ [x]) = sel p pre := by simp [sel, List.filter_append, h]
theorem own_baseE {w : World} {B B' : Nat} {e : TypeId} {s : Nat} {v : Value} {m : Nat} {xs : List Value} (h : w.ownsRow B' e s v m xs) (hB : B ≤ B') : w.ownsRow B e s v m xs := by
  obtain ⟨h1, h2 | ⟨g, cap, cur, hv, hg, hr⟩⟩ := h
  · exact ⟨h1, .inl h2⟩
  · exact ⟨h1, .inr ⟨g, cap, cur, hv, Nat.le_trans hB hg, hr⟩⟩
theorem own_heapE {w : World} {base e s n : Nat} {v : Value} {xs : List Value} (h : w.ownsRow base e s v n xs) {g : Nat} (hv : v.ownBlock = some g) : ∃ cur, w.heap[g]? = some (.cells cur e (0, 0)) := by
  rcases h.2 with ⟨h1, _⟩ | ⟨g', cap, cur, h1, _, hg, _⟩
  · rw [h1] at hv; simp [Value.ownBlock] at hv
  · rw [h1] at hv
    simp [Value.ownBlock] at hv
    subst hv
    exact ⟨cur, hg⟩
/-- Where a selection stands. -/
structure Sel (w : World) (B0 : Nat) (FV : Value) (p : En → Bool) (pre : List (Nat × En)) (W : World) : Prop where
  bw : W.heap[w.heap.size]? = some (.cells #[FV] 222 (0, 0))
  bo : ∃ v, W.heap[w.heap.size + 1]? = some (.cells #[v] 148 (0, 0)) ∧ W.ownsRow B0 143 5 v (sel p pre).length (ql (sel p pre))
  be : Below w.heap.size w W
  sz : B0 ≤ W.heap.size
theorem Sel.no {w W : World} {B0 : Nat} {FV : Value} {p : En → Bool} {pre : List (Nat × En)} {x : Nat × En} (h : Sel w B0 FV p pre W) (hx : p x.2 = false) : Sel w B0 FV p (pre ++ [x]) W :=
  ⟨h.bw, by rw [sel_no hx]; exact h.bo, h.be, h.sz⟩
theorem Sel.below {w W W' : World} {B0 : Nat} {FV : Value} {p : En → Bool} {pre : List (Nat × En)} (h : Sel w B0 FV p pre W) (hb : Below W.heap.size W W') : Sel w B0 FV p pre W' := by
  obtain ⟨bw, ⟨v, bo, ho⟩, be, sz⟩ := h
  exact ⟨box_below bw hb (box_lt bw), ⟨v, box_below bo hb (box_lt bo), own_below ho hb (Nat.le_refl _)⟩, be.trans (hb.mono be.size), Nat.le_trans sz hb.size⟩
theorem Sel.own {w : World} {B0 : Nat} {FV : Value} {p : En → Bool} (h3 : w.heap.size + 2 ≤ B0) : OwnFrom B0 (fun pre W => Sel w B0 FV p pre W) := by
  rintro pre W W' row ⟨bw, ⟨v, bo, ho⟩, be, sz⟩ hg hr
  have ne : ∀ (k : Nat) cs t, W.heap[k]? = some (.cells cs t (0, 0)) → some k ≠ row := by
    intro k cs t hk e
    obtain ⟨_, o, ho, hc⟩ := hr k e.symm
    rw [hk] at ho
    cases ho
    simp [Obj.isCells] at hc
  refine ⟨box_kept bw hg (ne _ _ _ bw), ⟨v, box_kept bo hg (ne _ _ _ bo), ho.kept hg ?_⟩, be.grown hg be.size (fun k e => by have := (hr k e).1; omega), Nat.le_trans sz hg.size⟩
  cases hv : v.ownBlock with
  | none => exact .inl rfl
  | some g =>
    obtain ⟨cur, hc⟩ := own_heapE ho hv
    exact .inr (ne _ _ _ hc)
/-- A round's writes. -/
theorem Sel.next {w W w4 : World} {B0 lo : Nat} {FV : Value} {p : En → Bool} {pre : List (Nat × En)} {x : Nat × En} {v v' : Value} {tmp : Obj} (h3 : w.heap.size + 2 ≤ lo) (hlo : lo ≤ B0)
    (h : Sel w B0 FV p pre W) (hx : p x.2 = true) (bo : W.heap[w.heap.size + 1]? = some (.cells #[v] 148 (0, 0))) (ho : W.ownsRow B0 143 5 v (sel p pre).length (ql (sel p pre)))
    (ho4 : w4.ownsRow B0 143 5 v' ((sel p pre).length + 1) (ql (sel p pre) ++ x.2.cs)) (hg : (W.alloc tmp).grownBy w4 v.ownBlock) :
    w4.heap[w.heap.size + 1]? = some (.cells #[v] 148 (0, 0)) ∧ Sel w B0 FV p (pre ++ [x]) (w4.setCell ⟨w.heap.size + 1, 0, none⟩ v') ∧ KeepsFrom B0 W (w4.setCell ⟨w.heap.size + 1, 0, none⟩ v') ∧ Mid lo B0 W (w4.setCell ⟨w.heap.size + 1, 0, none⟩ v') := by
  obtain ⟨bw, _, be, sz⟩ := h
  have hvb : ∀ k, v.ownBlock = some k → B0 ≤ k := fun k hk => (ho.lt k hk).1
  have hvb' : ∀ k, v'.ownBlock = some k → B0 ≤ k := fun k hk => (ho4.lt k hk).1
  have step : ∀ (k : Nat) cs t, k < B0 → W.heap[k]? = some (.cells cs t (0, 0)) → w4.heap[k]? = some (.cells cs t (0, 0)) := by
    intro k cs t h1 hk
    exact box_kept (box_kept hk (World.grownBy_alloc _ tmp none) (by simp)) hg (fun e => by have := hvb k e.symm; omega)
  have eo := step _ _ _ (by omega) bo
  have ew := step _ _ _ (by omega) bw
  have gs := grown_set w4 ⟨w.heap.size + 1, 0, none⟩ v'
  have hsz : W.heap.size ≤ w4.heap.size := by have := hg.size; simp at this; omega
  have bel : Below w.heap.size w w4 := (be.alloc be.size tmp).grown hg (by simp; have := be.size; omega) (fun k e => by have := hvb k e; omega)
  refine ⟨eo, ⟨box_kept ew gs (by simp), ⟨v', box_set eo v', ?_⟩, bel.setCell (p := ⟨w.heap.size + 1, 0, none⟩) (by simp) _, by simp; omega⟩, ?_, ?_, ?_⟩
  · rw [sel_yes hx, List.length_append, ql_append, ql_one]
    exact ho4.kept gs (by
      cases hv : v'.ownBlock with
      | none => exact .inl rfl
      | some k => exact .inr (fun e => by have := hvb' k hv; injection e with e; simp at e; omega))
  · have k1 := KeepsOthers.alloc W tmp
    have k2 : KeepsOthers (W.alloc tmp) w4 := KeepsOthers.of_grownBy hg (fun j o hj hjo => by
      obtain ⟨cur, hc⟩ := own_heapE (ho.alloc tmp) hj
      rw [hc] at hjo
      cases hjo
      rfl)
    exact ((k1.trans k2).trans (KeepsOthers.setCell w4 _ _)).from _
  · intro k h1 h2
    have e1 : (w4.setCell ⟨w.heap.size + 1, 0, none⟩ v').heap[k]? = w4.heap[k]? := gs.block k (by omega) (by simp; omega)
    have e2 : w4.heap[k]? = _ := hg.block k (by simp; omega) (fun e => by have := hvb k e.symm; omega)
    rw [e1, e2, heap_alloc_old _ _ _ (by omega)]
  · simp; omega
theorem keeps_below {B : Nat} {W W' : World} (h : Below W.heap.size W W') : KeepsFrom B W W' := ⟨h.size, fun k o _ hk _ => (h.block k (Array.getElem?_eq_some_iff.1 hk).1).trans hk⟩
theorem mid_below {lo hi : Nat} {W W' : World} (h : Below W.heap.size W W') (hh : hi ≤ W.heap.size) : Mid lo hi W W' := ⟨fun k _ h2 => h.block k (by omega), h.size⟩
theorem en_new (w : World) (x : En) : ∀ (i : Nat) (u : Value), x.cs[i]? = some u → (w.alloc (.cells #[.int .u32 (x.q : Nat), .int .u32 (x.t : Nat), .int .u8 (x.e : Nat), .int .u8 (x.g : Nat), .int .u32 (x.d : Nat)] 143)).cell? ((⟨w.heap.size, 0, none⟩ : Addr).add i) = some u := by
  intro i u hu
  rw [Addr.add_mid]
  have := cell_of_row _ _ (0 + i) _ _ _ (heap_alloc_new w (.cells #[.int .u32 (x.q : Nat), .int .u32 (x.t : Nat), .int .u8 (x.e : Nat), .int .u8 (x.g : Nat), .int .u32 (x.d : Nat)] 143))
  rw [this, Nat.zero_add]
  exact (List.getElem?_toArray (xs := x.cs)).trans hu
theorem sel_le (p : En → Bool) (pre : List (Nat × En)) : (sel p pre).length ≤ pre.length := by
  unfold sel
  exact Nat.le_trans (List.length_filter_le _ _) (by simp)
set_option maxRecDepth 100000 in
set_option maxHeartbeats 4000000 in
theorem selP {w : World} (pj pr : Option Addr) {L : List En} (hle : L.length ≤ 4096) (FN : Nat) (lb : Array Value) (p : En → Bool) (eg : ∀ args w, (callFunc FN args).run Try.prog w = .ok (.enter FN args) w)
    (hp : ∀ W x, Below w.heap.size w W → Calls Try.prog FN (#[.agg #[.int .u32 (x.q : Nat), .int .u32 (x.t : Nat), .int .u8 (x.e : Nat), .int .u8 (x.g : Nat), .int .u32 (x.d : Nat)]] ++ lb) W fun e W' => e = .returned (.bool (p x)) ∧ Below W.heap.size W W')
    (hKp : ∀ w1, Below w.heap.size w w1 → Calls Try.prog 113 #[.pointer pj] w1 fun e w2 => e = .returned (.pointer pr) ∧ w1 = w2)
    (hF : ∀ w1, Below w.heap.size w w1 → Calls Try.prog 154 #[.pointer pr] w1 (AllPost w1 L)) :
    Calls Try.prog 115 #[.pointer pj, .func (.func FN) #[] lb] w fun e w' => ∃ v, e = .returned v ∧ w'.ownsRow w.heap.size 143 5 v (L.filter p).length (ql (L.filter p)) ∧ Below w.heap.size w w' := by
  obtain ⟨i0, hi, hz0, hz1, hz2⟩ := info_parts info_en
  refine (callsIn_wide (n := 5)).1 ?_
  refine callsIn_of_wp_marks Try.func115 rfl trivial ?_ rfl
  simp only [Try.ntmps115, List.size_toArray, List.length_cons, List.length_nil, Nat.reduceAdd, Nat.reduceSub, Array.replicate_succ, Array.replicate_zero, List.push_toArray, List.append_toArray, List.nil_append, List.cons_append]
  have hb0 : Below w.heap.size w ((w.alloc (.cells #[.func (.func FN) #[] lb] 222)).alloc (.cells #[.slice none 0 0] 148)) := ((Below.refl _ _).alloc (Nat.le_refl _) _).alloc (by simp) _
  have hK0 := hKp _ hb0
  have hH0 := hF _ hb0
  gi_wp2_with (refine ⟨trivial, ?_⟩; first | (gi_at_call 113; refine (callsIn_wide.2 hK0).mono ?_; rintro e w1 ⟨rfl, rfl⟩) | (gi_at_call 154; refine (callsIn_wide.2 hH0).mono ?_; rintro e w1 ⟨B, a, c, rfl, hcB, hrB, hloB, hB1, hB2, hbB⟩))
  obtain ⟨FV, hFV⟩ : ∃ FV, FV = Value.func (.func FN) #[] lb := ⟨_, rfl⟩
  obtain ⟨B0, hB0⟩ : ∃ B0, B0 = w1.heap.size := ⟨_, rfl⟩
  have hsz2 : ((w.alloc (.cells #[.func (.func FN) #[] lb] 222)).alloc (.cells #[.slice none 0 0] 148)).heap.size = w.heap.size + 2 := by simp
  rw [hsz2] at hloB hB1 hbB
  have hB02 : w.heap.size + 2 ≤ B0 := by have := hbB.size; rw [hsz2] at this; omega
  have ew := heap_alloc_new w (.cells #[.func (.func FN) #[] lb] 222)
  have eo := heap_alloc_new (w.alloc (.cells #[.func (.func FN) #[] lb] 222)) (.cells #[.slice none 0 0] 148)
  simp only [World.size_alloc] at eo
  have ew2 := box_below ew ((Below.refl (w.heap.size + 1) _).alloc (by simp) (.cells #[.slice none 0 0] 148)) (by omega)
  have fw := box_below ew2 hbB (by omega)
  have fo := box_below eo hbB (by omega)
  rw [← hFV] at fw
  have bx0 : Sel w B0 FV p [] w1 := ⟨fw, ⟨_, fo, by simpa [sel, ql] using World.ownsRow_nil _ _ _ _⟩, hb0.trans (hbB.mono (by omega)), by omega⟩
  rw [← hB0] at hrB
  clear ew eo ew2 fw fo hb0 hH0 hK0 hsz2 hKp hF
  refine wpIn_rangeFunc_ownH rfl (by omega) (gf := 166) (lb := #[.pointer (some ⟨B, 0, none⟩)]) rfl trivial (enters_of Try.func166 (by kernel_rfl) rfl)
    (seq_stops Fence.wide (5 - 1) trivial rfl (by omega) B (w.heap.size + 2) B0 a L.length c L (by omega) w1 hB2 (by omega) hcB hrB hloB) (fun h k => h.trans k)
    (fun W l o o' hl ho _ _ => ⟨fun k h1 h2 => (grownBy_putObj' W l o').block k (by have := (Array.getElem?_eq_some_iff.1 ho).1; omega) (fun e => by cases e; omega), (grownBy_putObj' W l o').size⟩) (Below.refl _ _) (fun _ => rfl)
    (fun pre W => Sel w B0 FV p pre W) (fun _ _ _ => False)
    (fun s A B' row hs hg hr => Sel.own hB02 s A B' row hs hg (fun r e => by have := hr r e; rw [hB0]; exact this))
    (fun _ _ _ _ _ hs _ _ => hs) bx0
    (fun x a' W => ∃ g, W.heap[g]? = some (.cells #[.int .u32 (x.2.q : Nat), .int .u32 (x.2.t : Nat), .int .u8 (x.2.e : Nat), .int .u8 (x.2.g : Nat), .int .u32 (x.2.d : Nat)] 143 (0, 0)) ∧ w1.heap.size ≤ g ∧ a' = { tmps := #[.pointer pj, FV, undef, .pointer (some ⟨w.heap.size, 0, none⟩), .slice none 0 0, .pointer (some ⟨w.heap.size + 1, 0, none⟩), undef, .pointer (some ⟨g, 0, none⟩), .pointer pj, .pointer pr, .func (.func 166) #[] #[.pointer (some ⟨B, 0, none⟩)], .int .i64 (x.1 : Nat), .agg #[.int .u32 (x.2.q : Nat), .int .u32 (x.2.t : Nat), .int .u8 (x.2.e : Nat), .int .u8 (x.2.g : Nat), .int .u32 (x.2.d : Nat)], undef, undef, undef, undef, undef, undef, undef, undef], defers := [] }) ?ax ?assign ?body ?done ?stop
  case ax =>
    rintro x a' s A B' row ⟨g, h1, h2, h3⟩ hg hr
    refine ⟨g, box_kept h1 hg (fun e => ?_), h2, h3⟩
    obtain ⟨_, o, ho, hc⟩ := hr g e.symm
    rw [h1] at ho
    cases ho
    simp [Obj.isCells] at hc
  case assign =>
    intro l pre x W K hI hK
    have hal : Below W.heap.size W (W.alloc (.cells #[.int .u32 (x.2.q : Nat), .int .u32 (x.2.t : Nat), .int .u8 (x.2.e : Nat), .int .u8 (x.2.g : Nat), .int .u32 (x.2.d : Nat)] 143)) := (Below.refl _ _).alloc (Nat.le_refl _) _
    gi_wp2
    exact hK _ _ (keeps_below hal) (mid_below hal hI.sz) (hI.below hal) ⟨W.heap.size, heap_alloc_new _ _, hB0 ▸ hI.sz, by rw [hFV]⟩
  case body =>
    rintro l pre x a' W hl hr hI ⟨g, hg, hgB, rfl⟩ hpl
    have kw := box_cell hI.bw
    rw [hFV] at kw
    have q0 := cell_of_row _ _ 0 _ _ _ hg
    have q1 := cell_of_row _ _ 1 _ _ _ hg
    have q2 := cell_of_row _ _ 2 _ _ _ hg
    have q3 := cell_of_row _ _ 3 _ _ _ hg
    have q4 := cell_of_row _ _ 4 _ _ _ hg
    have hpx := hp W x.2 hI.be
    obtain ⟨t, ht⟩ : ∃ t, t = p x.2 := ⟨_, rfl⟩
    rw [← ht] at hpx
    have HT := Lib.hid ht
    have HI := Lib.hid hI
    have HG := Lib.hid hg
    clear ht hI hg hp
    cases t with
    | false =>
      gi_wp2_with (refine ⟨trivial, ?_⟩; gi_at_fn FN; refine (callsIn_wide.2 hpx).mono ?_; rintro e W3 ⟨rfl, hb3⟩)
      exact ⟨keeps_below hb3, mid_below hb3 HI.out.sz, (HI.out.below hb3).no HT.out.symm⟩
    | true =>
      gi_wp2_with (first | (refine ⟨trivial, ?_⟩; gi_at_fn FN; refine (callsIn_wide.2 hpx).mono ?_; rintro e W3 ⟨rfl, hb3⟩; have hse := HI.out.below hb3; obtain ⟨v, bo, ho⟩ := hse.bo; have co := box_cell bo; have fo := box_frozen bo; have hg3 := box_below HG.out hb3 (box_lt HG.out); have q0 := cell_of_row _ _ 0 _ _ _ hg3; have q1 := cell_of_row _ _ 1 _ _ _ hg3; have q2 := cell_of_row _ _ 2 _ _ _ hg3; have q3 := cell_of_row _ _ 3 _ _ _ hg3; have q4 := cell_of_row _ _ 4 _ _ _ hg3; have hs3 := hse.sz; have hlenL := sel_le p pre; obtain ⟨a2, c2, rfl⟩ := own_form ho; have SE := Lib.hid hse; have BO := Lib.hid bo; have HO := Lib.hid ho; clear hse bo ho hg3 ) | (gi_at_builtin; refine wpListIn_append_own _ rfl _ _ 148 rfl B0 143 i0 (.agg #[.int .u32 (en0.q : Nat), .int .u32 (en0.t : Nat), .int .u8 (en0.e : Nat), .int .u8 (en0.g : Nat), .int .u32 (en0.d : Nat)]) 5 16 Try.underlying148 hi hz0 hz1 hz2 rfl (by decide) _ _ _ rfl (HO.out.alloc _) ⟨W3.heap.size, 0, none⟩ 1 1 x.2.cs rfl rfl (en_new _ _) (by simp [En.cs, Value.oneCell']) (by unfold maxLen; omega) (by omega) (by simp; omega) ?_; intro v' w4 hown4 hgrow4 _; obtain ⟨g', cap', rfl⟩ := ownsRow_succ hown4; obtain ⟨eo, sel4, kf, md⟩ := Sel.next (Nat.le_refl _) hB02 SE.out HT.out.symm BO.out HO.out hown4 hgrow4; have co2 := box_cell eo; have fo2 := box_frozen eo; have SEL4 := Lib.hid sel4; have KF := Lib.hid kf; have MD := Lib.hid md; clear sel4 kf md hown4 hgrow4 eo))
      exact ⟨hB0 ▸ (keeps_below hb3).trans KF.out, (mid_below hb3 HI.out.sz).trans MD.out, SEL4.out⟩
  case done =>
    rintro D ys W hD rfl hbx hK
    obtain ⟨v, bo, ho⟩ := hbx.bo
    have co := box_cell bo
    have hys : sel p (placed L L.length) = L.filter p := by rw [sel, placed_vals L _ (Nat.le_refl _), List.take_length]
    rw [hys] at ho
    have HO := Lib.hid ho
    have HBE := Lib.hid hbx.be
    have HKK := Lib.hid hK
    clear ho hbx bo hK
    gi_wp2
    refine ⟨by simp, .inl ⟨_, _, rfl, run_takeDeferred HKK.out, ?_⟩⟩
    refine ⟨v, by simp [results, Try.results115, go_sem], v, rfl, ?_, ?_⟩
    · exact own_baseE (ownsRow_putObj HO.out _ (show W.heap[D]? = _ from HKK.out) rfl) (by omega)
    · exact HBE.out.trans (belowK_b (w := w) (Nat.le_refl _) W D _ _ (by omega) (show W.heap[D]? = _ from HKK.out) rfl rfl)
  case stop => exact fun _ _ _ _ _ _ h => h.elim
end Go.Proofs.Ytkgeeohgfbacaaa.Je
