/- Layer 3: 'all' of the statements: what is in a ring. -/
import Derived.Test.YtnjkpamjjdkmoaaRingA
import Derived.BigRegionIn
namespace Go.Proofs.Ytnjkpamjjdkmoaa
open Go.RowKit Go.Own Go.Shelf
set_option linter.unusedVariables false
set_option linter.unusedSimpArgs false
attribute [local go_sem] Oper.semAt_some

theorem cell_one_atI (w : World) (v : Value) (t : TypeId) (n : Nat) (hn : n = w.heap.size) : ∀ j u, [v][j]? = some u → (w.alloc (.cells #[v] t)).cell? ((⟨n, 0, none⟩ : Addr).add j) = some u := by
  subst hn
  exact cell_one_new _ _ _
theorem own_baseI {w : World} {B B' : Nat} {e : TypeId} {v : Value} {m : Nat} {xs : List Value} (h : w.ownsRow B' e 1 v m xs) (hB : B ≤ B') : w.ownsRow B e 1 v m xs := by
  obtain ⟨h1, h2 | ⟨g, cap, cur, hv, hg, hr⟩⟩ := h
  · exact ⟨h1, .inl h2⟩
  · exact ⟨h1, .inr ⟨g, cap, cur, hv, Nat.le_trans hB hg, hr⟩⟩
/-- Are the places so far right? -/
def okf (pre : List (Nat × Int)) : Bool := decide (pre.map (·.1) = List.range pre.length)
theorem okf_snoc (pre : List (Nat × Int)) (x : Nat × Int) : okf (pre ++ [x]) = (okf pre && decide (x.1 = pre.length)) := by
  unfold okf
  rw [List.map_append, List.length_append, List.length_singleton, List.range_succ, Bool.eq_iff_iff]
  simp only [Bool.and_eq_true, decide_eq_true_eq, List.map_cons, List.map_nil]
  constructor
  · intro h
    have := List.append_inj h (by simp)
    exact ⟨this.1, by simpa using this.2⟩
  · rintro ⟨h1, h2⟩
    rw [h1, h2]
theorem okf_placed (zs : List Int) (k : Nat) : okf (placed zs k) = true := by
  unfold okf
  rw [placed_len]
  simp [placed, Function.comp_def]
theorem placed_vals (zs : List Int) (k : Nat) (h : k ≤ zs.length) : (placed zs k).map (·.2) = zs.take k := by
  induction k with
  | zero => simp [placed]
  | succ k ih => rw [placed_succ, List.map_append, ih (by omega), takeL_succ zs (by omega)]; rfl
/-- What lies in the three boxes. -/
structure Boxes (w : World) (B0 : Nat) (most : Nat) (pre : List (Nat × Int)) (W : World) : Prop where
  bm : W.heap[w.heap.size]? = some (.cells #[.int .i64 (most : Nat)] 3 (0, 0))
  bk : W.heap[w.heap.size + 2]? = some (.cells #[.bool (okf pre)] 4 (0, 0))
  bo : ∃ v, W.heap[w.heap.size + 1]? = some (.cells #[v] 38 (0, 0)) ∧ W.ownsRow B0 3 1 v pre.length (il (pre.map (·.2)))
  be : Below w.heap.size w W
  sz : B0 ≤ W.heap.size
theorem Boxes.own {w : World} {B0 most : Nat} (h3 : w.heap.size + 3 ≤ B0) : OwnFrom B0 (fun pre W => Boxes w B0 most pre W) := by
  rintro pre W W' row ⟨bm, bk, ⟨v, bo, ho⟩, be, sz⟩ hg hr
  have ne : ∀ (k : Nat) cs t, W.heap[k]? = some (.cells cs t (0, 0)) → some k ≠ row := by
    intro k cs t hk e
    obtain ⟨_, o, ho, hc⟩ := hr k e.symm
    rw [hk] at ho
    cases ho
    simp [Obj.isCells] at hc
  refine ⟨box_kept bm hg (ne _ _ _ bm), box_kept bk hg (ne _ _ _ bk), ⟨v, box_kept bo hg (ne _ _ _ bo), ho.kept hg ?_⟩, be.grown hg be.size (fun k e => by have := (hr k e).1; omega), Nat.le_trans sz hg.size⟩
  cases hv : v.ownBlock with
  | none => exact .inl rfl
  | some g =>
    obtain ⟨cur, hc⟩ := own_heap ho hv
    exact .inr (ne _ _ _ hc)
/-- A round's writes. -/
theorem Boxes.next {w W w4 : World} {B0 lo most : Nat} {pre : List (Nat × Int)} {x : Nat × Int} {v v' : Value} {tmp : Obj} (h3 : w.heap.size + 3 ≤ lo) (hlo : lo ≤ B0)
    (h : Boxes w B0 most pre W) (bo : W.heap[w.heap.size + 1]? = some (.cells #[v] 38 (0, 0))) (ho : W.ownsRow B0 3 1 v pre.length (il (pre.map (·.2))))
    (ho4 : w4.ownsRow B0 3 1 v' (pre.length + 1) (il (pre.map (·.2)) ++ [.int .i64 x.2])) (hg : ((W.setCell ⟨w.heap.size + 2, 0, none⟩ (.bool (okf (pre ++ [x])))).alloc tmp).grownBy w4 v.ownBlock) :
    w4.heap[w.heap.size + 1]? = some (.cells #[v] 38 (0, 0)) ∧ w4.heap[w.heap.size]? = some (.cells #[.int .i64 (most : Nat)] 3 (0, 0)) ∧ Boxes w B0 most (pre ++ [x]) (w4.setCell ⟨w.heap.size + 1, 0, none⟩ v') ∧ KeepsFrom B0 W (w4.setCell ⟨w.heap.size + 1, 0, none⟩ v') ∧ Mid lo B0 W (w4.setCell ⟨w.heap.size + 1, 0, none⟩ v') := by
  obtain ⟨bm, bk, _, be, sz⟩ := h
  have hvb : ∀ k, v.ownBlock = some k → B0 ≤ k := fun k hk => (ho.lt k hk).1
  have hvb' : ∀ k, v'.ownBlock = some k → B0 ≤ k := fun k hk => (ho4.lt k hk).1
  have step : ∀ (k : Nat) cs t, k < B0 → k ≠ w.heap.size + 2 → W.heap[k]? = some (.cells cs t (0, 0)) → w4.heap[k]? = some (.cells cs t (0, 0)) := by
    intro k cs t h1 h2 hk
    have e1 := box_kept hk (grown_set W ⟨w.heap.size + 2, 0, none⟩ (.bool (okf (pre ++ [x])))) (by simp; omega)
    exact box_kept (box_kept e1 (World.grownBy_alloc _ tmp none) (by simp)) hg (fun e => by have := hvb k e.symm; omega)
  have ek : w4.heap[w.heap.size + 2]? = some (.cells #[.bool (okf (pre ++ [x]))] 4 (0, 0)) :=
    box_kept (box_kept (box_set bk _) (World.grownBy_alloc _ tmp none) (by simp)) hg (fun e => by have := hvb _ e.symm; omega)
  have eo := step _ _ _ (by omega) (by omega) bo
  have em := step _ _ _ (by omega) (by omega) bm
  have gs := grown_set w4 ⟨w.heap.size + 1, 0, none⟩ v'
  have hsz : W.heap.size ≤ w4.heap.size := by have := hg.size; simp at this; omega
  have bel : Below w.heap.size w w4 := ((be.setCell (p := ⟨w.heap.size + 2, 0, none⟩) (by simp) _).alloc (by simp; exact be.size) tmp).grown hg (by simp; have := be.size; omega) (fun k e => by have := hvb k e; omega)
  refine ⟨eo, em, ⟨box_kept em gs (by simp), box_kept ek gs (by simp), ⟨v', box_set eo v', ?_⟩, bel.setCell (p := ⟨w.heap.size + 1, 0, none⟩) (by simp) _, by simp; omega⟩, ?_, ?_⟩
  · rw [List.length_append, List.map_append, il_append]
    exact ho4.kept gs (by
      cases hv : v'.ownBlock with
      | none => exact .inl rfl
      | some k => exact .inr (fun e => by have := hvb' k hv; injection e with e; simp at e; omega))
  · have k1 := (KeepsOthers.setCell W ⟨w.heap.size + 2, 0, none⟩ (.bool (okf (pre ++ [x])))).trans (KeepsOthers.alloc _ tmp)
    have k2 : KeepsOthers ((W.setCell ⟨w.heap.size + 2, 0, none⟩ (.bool (okf (pre ++ [x])))).alloc tmp) w4 := KeepsOthers.of_grownBy hg (fun j o hj hjo => by
      have ho1 := (ho.kept (grown_set W ⟨w.heap.size + 2, 0, none⟩ (.bool (okf (pre ++ [x])))) (.inr (fun e => by rw [hj] at e; have := hvb j hj; injection e with e; simp at e; omega))).alloc tmp
      obtain ⟨cur, hc⟩ := own_heap ho1 hj
      rw [hc] at hjo
      cases hjo
      rfl)
    exact ((k1.trans k2).trans (KeepsOthers.setCell w4 _ _)).from _
  · intro k h1 h2
    have e1 : (w4.setCell ⟨w.heap.size + 1, 0, none⟩ v').heap[k]? = w4.heap[k]? := gs.block k (by omega) (by simp; omega)
    have e2 : w4.heap[k]? = _ := hg.block k (by simp; omega) (fun e => by have := hvb k e.symm; omega)
    rw [e1, e2, heap_alloc_old _ _ _ (by simp; omega)]
    exact (grown_set W ⟨w.heap.size + 2, 0, none⟩ _).block k (by omega) (by simp; omega)
/-- What All hands back. -/
def AllPost (w : World) (L : List Int) (e : Ending) (w' : World) : Prop := ∃ B a c, e = .returned (.func (.func 141) #[] #[.pointer (some ⟨B, 0, none⟩)]) ∧ w'.cell? ⟨B, 0, none⟩ = some (.slice a L.length c) ∧ Rd w'.heap.size w' a L.length c (iv L) ∧ (∀ x, a = some x → w.heap.size ≤ x.block) ∧ w.heap.size ≤ B ∧ B < w'.heap.size ∧ Below w.heap.size w w'
set_option maxRecDepth 100000 in
set_option maxHeartbeats 4000000 in
theorem rAllP {w : World} (pt : Option Addr) {L : List Int} (hle : L.length ≤ 4096) (most : Nat) (hm1 : 1 ≤ most) (hm2 : most ≤ 1000000) (hF : ∀ w1, Below w.heap.size w w1 → Calls Try.prog 96 #[.pointer pt] w1 (AllPost w1 L)) :
    Calls Try.prog 31 #[.pointer pt, .int .i64 (most : Nat)] w fun e w' => ∃ v, e = .returned (.tuple #[v, .bool true]) ∧ w'.ownsRow w.heap.size 3 1 v (min most L.length) (il (L.take most)) ∧ Below w.heap.size w w' := by
  obtain ⟨i0, hi, hz0, hz1, hz2⟩ := info_parts info_int
  refine (callsIn_wide (n := 5)).1 ?_
  refine callsIn_of_wp_marks Try.func31 rfl trivial ?_ rfl
  simp only [Try.ntmps31, List.size_toArray, List.length_cons, List.length_nil, Nat.reduceAdd, Nat.reduceSub, Array.replicate_succ, Array.replicate_zero, List.push_toArray, List.append_toArray, List.nil_append, List.cons_append]
  have hb0 : Below w.heap.size w (((w.alloc (.cells #[.int .i64 (most : Nat)] 3)).alloc (.cells #[.slice none 0 0] 38)).alloc (.cells #[.bool true] 4)) := (((Below.refl _ _).alloc (Nat.le_refl _) _).alloc (by simp) _).alloc (by simp; omega) _
  have hH0 := hF _ hb0
  gi_wp2_with (refine ⟨trivial, ?_⟩; gi_at_call 96; refine (callsIn_wide.2 hH0).mono ?_; rintro e w1 ⟨B, a, c, rfl, hcB, hrB, hloB, hB1, hB2, hbB⟩)
  obtain ⟨B0, hB0⟩ : ∃ B0, B0 = w1.heap.size := ⟨_, rfl⟩
  have hsz3 : (((w.alloc (.cells #[.int .i64 (most : Nat)] 3)).alloc (.cells #[.slice none 0 0] 38)).alloc (.cells #[.bool true] 4)).heap.size = w.heap.size + 3 := by simp
  rw [hsz3] at hloB hB1 hbB
  have hB03 : w.heap.size + 3 ≤ B0 := by have := hbB.size; rw [hsz3] at this; omega
  have em := heap_alloc_new w (.cells #[.int .i64 (most : Nat)] 3)
  have eo := heap_alloc_new (w.alloc (.cells #[.int .i64 (most : Nat)] 3)) (.cells #[.slice none 0 0] 38)
  have ek := heap_alloc_new ((w.alloc (.cells #[.int .i64 (most : Nat)] 3)).alloc (.cells #[.slice none 0 0] 38)) (.cells #[.bool true] 4)
  simp only [World.size_alloc] at eo ek
  have em2 := box_below em ((Below.refl (w.heap.size + 1) _).alloc (by simp) (.cells #[.slice none 0 0] 38)) (by omega)
  have em3 := box_below em2 ((Below.refl (w.heap.size + 2) _).alloc (by simp) (.cells #[.bool true] 4)) (by omega)
  have eo3 := box_below eo ((Below.refl (w.heap.size + 2) _).alloc (by simp) (.cells #[.bool true] 4)) (by omega)
  have fm := box_below em3 hbB (by omega)
  have fo := box_below eo3 hbB (by omega)
  have fk := box_below ek hbB (by omega)
  have bx0 : Boxes w B0 most [] w1 := ⟨fm, fk, ⟨_, fo, by simpa [il] using World.ownsRow_nil _ _ _ _⟩, hb0.trans (hbB.mono (by omega)), by omega⟩
  rw [← hB0] at hrB
  clear em eo ek em2 em3 eo3 fm fo fk hb0 hH0 hsz3
  refine wpIn_rangeFunc_ownG rfl (by omega) (gf := 141) (lb := #[.pointer (some ⟨B, 0, none⟩)]) rfl trivial (enters_of Try.func141 (by kernel_rfl) rfl)
    (seq_stops Fence.wide (5 - 1) trivial rfl (by omega) B (w.heap.size + 3) B0 a L.length c L (by omega) w1 hB2 (by omega) hcB hrB hloB) (fun h k => h.trans k)
    (fun W l o o' hl ho _ _ => fun k h1 h2 => (grownBy_putObj' W l o').block k (by have := (Array.getElem?_eq_some_iff.1 ho).1; omega) (fun e => by cases e; omega)) (Below.refl _ _) (fun _ => rfl)
    (fun pre W => Boxes w B0 most pre W ∧ pre.length < most) (fun c pre W => c = .exit 0 ∧ Boxes w B0 most pre W ∧ pre.length = most)
    (fun s A B' row hs hg hr => ⟨Boxes.own hB03 s A B' row hs.1 hg (fun r e => by have := hr r e; rw [hB0]; exact this), hs.2⟩)
    (fun c s A B' row hs hg hr => ⟨hs.1, Boxes.own hB03 s A B' row hs.2.1 hg (fun r e => by have := hr r e; rw [hB0]; exact this), hs.2.2⟩)
    ⟨bx0, by simp; omega⟩
    (fun x => { tmps := #[.pointer pt, .int .i64 (most : Nat), undef, .pointer (some ⟨w.heap.size, 0, none⟩), .slice none 0 0, .bool false, .pointer (some ⟨w.heap.size + 1, 0, none⟩), .pointer (some ⟨w.heap.size + 2, 0, none⟩), .int .i64 (x.1 : Nat), .int .i64 x.2, .pointer pt, .func (.func 141) #[] #[.pointer (some ⟨B, 0, none⟩)], .int .i64 (x.1 : Nat), .int .i64 x.2, undef, undef, undef, undef, undef, undef, undef, undef, undef, undef, undef, undef, undef, undef, undef, undef, undef], defers := [] }) ?assign ?body ?done ?stop
  case assign =>
    intro l x W K hK
    gi_wp2
    exact hK
  case body =>
    rintro l pre x W ⟨hbx, hlt⟩ hpl
    obtain ⟨v, bo, ho⟩ := hbx.bo
    obtain ⟨a2, c2, rfl⟩ := own_form ho
    have cm := box_cell hbx.bm
    have ck := box_cell hbx.bk
    have fk := box_frozen hbx.bk
    have co := box_cell bo
    have hsn := okf_snoc pre x
    obtain ⟨p, hp⟩ : ∃ p, p = pre.length := ⟨_, rfl⟩
    obtain ⟨u, hu⟩ : ∃ u, u = okf (pre ++ [x]) := ⟨_, rfl⟩
    have hpm : p ≤ 1000000 := by omega
    have hgs := grown_set W ⟨w.heap.size + 2, 0, none⟩ (.bool u)
    have ho1 := ho.kept hgs (by
      cases hv : (Value.slice a2 pre.length c2).ownBlock with
      | none => exact .inl rfl
      | some k => exact .inr (fun e => by have := (ho.lt k hv).1; injection e with e; simp at e; omega))
    have hnx := fun (w4 : World) (v' : Value) (tmp : Obj) => Boxes.next (w4 := w4) (v' := v') (tmp := tmp) (x := x) (Nat.le_refl _) hB03 hbx bo ho
    rw [← hu] at hsn hnx
    rw [← hp] at hsn hlt ho1 co hnx
    have HNX := Lib.hid hnx
    have HO1 := Lib.hid ho1
    have hWs := hbx.sz
    have HSN := Lib.hid hsn
    have HP := Lib.hid hp
    have hee : ∃ t : Bool, decide (x.1 = p) = t ∧ (((x.1 : Nat) : Int) == (p : Int)) = t := by
      by_cases h : x.1 = p
      · exact ⟨true, by simp [h], by simp [h]⟩
      · exact ⟨false, by simp [h], by rw [beq_eq_false_iff_ne]; omega⟩
    obtain ⟨t, ht, ht'⟩ := hee
    have HT := Lib.hid ht
    have hbb : ∃ q : Bool, decide (p + 1 = most) = q ∧ ((p : Int) + 1 == (most : Int)) = q ∧ (((p + 1 : Nat) : Int) == (most : Int)) = q := by
      by_cases h : p + 1 = most
      · exact ⟨true, by simp [h], by simp; omega, by simp [h]⟩
      · exact ⟨false, by simp [h], by rw [beq_eq_false_iff_ne]; omega, by rw [beq_eq_false_iff_ne]; omega⟩
    obtain ⟨q, hq1, hq2, hq3⟩ := hbb
    have HQ := Lib.hid hq1
    have HU := Lib.hid hu
    clear hnx ho1 hsn hp ht hq1 hgs hbx bo ho hu
    cases hok : okf pre with
    | true =>
      rw [hok] at ck
      have hut : u = t := by rw [HSN.out, hok, HT.out]; rfl
      clear hok
      subst hut
      cases q with
      | true =>
        gi_wp2_with (gi_at_builtin; refine wpListIn_append_own _ rfl _ _ 38 rfl B0 3 i0 (.int .i64 0) 1 8 Try.underlying38 hi hz0 hz1 hz2 rfl (by decide) _ _ _ rfl (HO1.out.alloc _) ⟨W.heap.size, 0, none⟩ 1 1 [.int .i64 x.2] rfl rfl (cell_one_atI _ _ _ _ (by simp)) (by simp [Value.oneCell']) (by unfold maxLen; omega) (by omega) (by simp; omega) ?_; intro v' w4 hown4 hgrow4 _; obtain ⟨g', cap', rfl⟩ := ownsRow_succ hown4; obtain ⟨eo, em, bx4, kf, md⟩ := HNX.out _ _ _ hown4 hgrow4; have hc1 := box_cell eo; have hf1 := box_frozen eo; have hc2 := box_cell em; have BX4 := Lib.hid bx4; have KF := Lib.hid kf; have MD := Lib.hid md; clear bx4 kf md hown4 hgrow4 eo em)
        exact ⟨hB0 ▸ KF.out, rfl, BX4.out, by have := HQ.out; have := HP.out; simp at *; omega⟩
      | false =>
        gi_wp2_with (gi_at_builtin; refine wpListIn_append_own _ rfl _ _ 38 rfl B0 3 i0 (.int .i64 0) 1 8 Try.underlying38 hi hz0 hz1 hz2 rfl (by decide) _ _ _ rfl (HO1.out.alloc _) ⟨W.heap.size, 0, none⟩ 1 1 [.int .i64 x.2] rfl rfl (cell_one_atI _ _ _ _ (by simp)) (by simp [Value.oneCell']) (by unfold maxLen; omega) (by omega) (by simp; omega) ?_; intro v' w4 hown4 hgrow4 _; obtain ⟨g', cap', rfl⟩ := ownsRow_succ hown4; obtain ⟨eo, em, bx4, kf, md⟩ := HNX.out _ _ _ hown4 hgrow4; have hc1 := box_cell eo; have hf1 := box_frozen eo; have hc2 := box_cell em; have BX4 := Lib.hid bx4; have KF := Lib.hid kf; have MD := Lib.hid md; clear bx4 kf md hown4 hgrow4 eo em)
        exact ⟨hB0 ▸ KF.out, MD.out, BX4.out, by have := HQ.out; have := HP.out; simp at *; omega⟩
    | false =>
      rw [hok] at ck
      have hut : u = false := by rw [HSN.out, hok]; rfl
      clear hok ht'
      subst hut
      cases q with
      | true =>
        gi_wp2_with (gi_at_builtin; refine wpListIn_append_own _ rfl _ _ 38 rfl B0 3 i0 (.int .i64 0) 1 8 Try.underlying38 hi hz0 hz1 hz2 rfl (by decide) _ _ _ rfl (HO1.out.alloc _) ⟨W.heap.size, 0, none⟩ 1 1 [.int .i64 x.2] rfl rfl (cell_one_atI _ _ _ _ (by simp)) (by simp [Value.oneCell']) (by unfold maxLen; omega) (by omega) (by simp; omega) ?_; intro v' w4 hown4 hgrow4 _; obtain ⟨g', cap', rfl⟩ := ownsRow_succ hown4; obtain ⟨eo, em, bx4, kf, md⟩ := HNX.out _ _ _ hown4 hgrow4; have hc1 := box_cell eo; have hf1 := box_frozen eo; have hc2 := box_cell em; have BX4 := Lib.hid bx4; have KF := Lib.hid kf; have MD := Lib.hid md; clear bx4 kf md hown4 hgrow4 eo em)
        exact ⟨hB0 ▸ KF.out, rfl, BX4.out, by have := HQ.out; have := HP.out; simp at *; omega⟩
      | false =>
        gi_wp2_with (gi_at_builtin; refine wpListIn_append_own _ rfl _ _ 38 rfl B0 3 i0 (.int .i64 0) 1 8 Try.underlying38 hi hz0 hz1 hz2 rfl (by decide) _ _ _ rfl (HO1.out.alloc _) ⟨W.heap.size, 0, none⟩ 1 1 [.int .i64 x.2] rfl rfl (cell_one_atI _ _ _ _ (by simp)) (by simp [Value.oneCell']) (by unfold maxLen; omega) (by omega) (by simp; omega) ?_; intro v' w4 hown4 hgrow4 _; obtain ⟨g', cap', rfl⟩ := ownsRow_succ hown4; obtain ⟨eo, em, bx4, kf, md⟩ := HNX.out _ _ _ hown4 hgrow4; have hc1 := box_cell eo; have hf1 := box_frozen eo; have hc2 := box_cell em; have BX4 := Lib.hid bx4; have KF := Lib.hid kf; have MD := Lib.hid md; clear bx4 kf md hown4 hgrow4 eo em)
        exact ⟨hB0 ▸ KF.out, MD.out, BX4.out, by have := HQ.out; have := HP.out; simp at *; omega⟩
  case done =>
    rintro D ys W hD rfl ⟨hbx, hlt⟩ hK
    rw [placed_len] at hlt
    obtain ⟨v, bo, ho⟩ := hbx.bo
    have ck := box_cell hbx.bk
    have co := box_cell bo
    rw [okf_placed] at ck
    rw [placed_len, placed_vals L _ (Nat.le_refl _), List.take_length] at ho
    have HO := Lib.hid ho
    have HBE := Lib.hid hbx.be
    have HKK := Lib.hid hK
    clear ho hbx bo hK
    gi_wp2
    gi_region
    gi_wp2
    refine ⟨by simp, .inl ⟨_, _, rfl, run_takeDeferred HKK.out, ?_⟩⟩
    refine ⟨.tuple #[v, .bool true], by simp [results, Try.results31, go_sem], v, rfl, ?_, ?_⟩
    · rw [show min most L.length = L.length by omega, show L.take most = L from List.take_of_length_le (by omega)]
      exact own_baseI (ownsRow_putObj (World.ownsRow.drew HO.out) _ (show W.drew.heap[D]? = _ from HKK.out) rfl) (by omega)
    · exact HBE.out.drew.trans (belowK_b (w := w) (Nat.le_refl _) W.drew D _ _ (by omega) (show W.drew.heap[D]? = _ from HKK.out) rfl rfl)
  case stop =>
    rintro D c pre W hD ⟨k, hk, rfl⟩ ⟨rfl, hbx, hpl⟩ hK
    rw [placed_len] at hpl
    obtain ⟨v, bo, ho⟩ := hbx.bo
    have ck := box_cell hbx.bk
    have co := box_cell bo
    rw [okf_placed] at ck
    rw [placed_len, placed_vals L _ hk] at ho
    have HO := Lib.hid ho
    have HBE := Lib.hid hbx.be
    have HKK := Lib.hid hK
    have HPL := Lib.hid hpl
    clear ho hbx bo hK hpl
    gi_wp2
    gi_region
    gi_wp2
    refine ⟨by simp, .inl ⟨_, _, rfl, run_takeDeferred HKK.out, ?_⟩⟩
    refine ⟨.tuple #[v, .bool true], by simp [results, Try.results31, go_sem], v, rfl, ?_, ?_⟩
    · rw [show min most L.length = k by have := HPL.out; omega, ← HPL.out]
      exact own_baseI (ownsRow_putObj (World.ownsRow.drew HO.out) _ (show W.drew.heap[D]? = _ from HKK.out) rfl) (by omega)
    · exact HBE.out.drew.trans (belowK_b (w := w) (Nat.le_refl _) W.drew D _ _ (by omega) (show W.drew.heap[D]? = _ from HKK.out) rfl rfl)
theorem rAll {w : World} {g b n l d : Nat} {L : List Int} (h : Ring w g b n L l d) (most : Nat) (hm1 : 1 ≤ most) (hm2 : most ≤ 1000000) :
    Calls Try.prog 31 #[.pointer (some ⟨g, 0, none⟩), .int .i64 (most : Nat)] w fun e w' => ∃ v, e = .returned (.tuple #[v, .bool true]) ∧ w'.ownsRow w.heap.size 3 1 v (min most L.length) (il (L.take most)) ∧ Below w.heap.size w w' :=
  rAllP _ (by have := h.le; omega) most hm1 hm2 (fun w1 hb => rAllF (h.below hb (Nat.le_refl _)))
end Go.Proofs.Ytnjkpamjjdkmoaa
