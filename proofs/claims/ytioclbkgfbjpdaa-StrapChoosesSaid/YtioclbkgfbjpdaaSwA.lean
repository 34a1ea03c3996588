/- Layer 18: the document's chains, all of them. -/
import Derived.Test.YtioclbkgfbjpdaaSwR
import Derived.Test.YtioclbkgfbjpdaaSw9
import Derived.Test.YtioclbkgfbjpdaaSwE
import Derived.Maps.AppendAt
namespace Go.Proofs.Ytioclbkgfbjpdaa
open Go.RowKit Go.Own Bs
set_option linter.unusedVariables false
set_option linter.unusedSimpArgs false
/-- A chain's cells; the cells of chains one behind the other. -/
def chl (c : Nat → Int) : List Value := [.int .i8 (c 0), .int .i8 (c 1), .int .i8 (c 2), .int .i8 (c 3), .int .i8 (c 4), .int .i8 (c 5)]
def cl (D : List (List Nat)) : List Value := D.flatMap fun x => chl (chainC x)
theorem cl_snoc (D : List (List Nat)) (x : List Nat) : cl (D ++ [x]) = cl D ++ chl (chainC x) := by simp [cl]
theorem cl_len : ∀ D : List (List Nat), (cl D).length = D.length * 6
  | [] => rfl
  | x :: D => by
    show (chl (chainC x) ++ cl D).length = _
    rw [List.length_append, cl_len D, List.length_cons, Nat.add_mul, Nat.one_mul, Nat.add_comm]; rfl
theorem chl_at (c : Nat → Int) {j : Nat} (hj : j < 6) : (chl c)[j]? = some (.int .i8 (c j)) := by
  rcases (by omega : j = 0 ∨ j = 1 ∨ j = 2 ∨ j = 3 ∨ j = 4 ∨ j = 5) with rfl | rfl | rfl | rfl | rfl | rfl <;> rfl
theorem cl_at : ∀ (D : List (List Nat)) (i : Nat), i < D.length → ∀ j, j < 6 → (cl D)[i * 6 + j]? = (chl (chainC (D.getD i [])))[j]?
  | [], i, h, _, _ => absurd h (by simp)
  | x :: D, 0, _, j, hj => by
    show (chl (chainC x) ++ cl D)[0 * 6 + j]? = _
    rw [List.getElem?_append_left (by simpa [chl] using hj), Nat.zero_mul, Nat.zero_add]
    rfl
  | x :: D, i + 1, h, j, hj => by
    show (chl (chainC x) ++ cl D)[(i + 1) * 6 + j]? = _
    rw [List.getElem?_append_right (by simp [chl]; omega), show (i + 1) * 6 + j - (chl (chainC x)).length = i * 6 + j by simp [chl]; omega]
    exact cl_at D i (by simpa using h) j hj
theorem own_rangeC {w : World} {base m : Nat} {a : Option Addr} {c : Nat} {l : List (List Nat)} (h : w.ownsRow base 75 6 (.slice a m c) m (cl l)) (hl : l.length = m) {i : Nat} (hi : i < m) : ∃ g, a = some ⟨g, 0, none⟩ ∧ base ≤ g ∧ g < w.heap.size ∧ w.rangeAt g (i * 6) (chl (chainC (l.getD i []))) := by
  rcases h.2 with ⟨hv, hx⟩ | ⟨g, cap, cur, hv, hb, hg, hn, hm, hs, ht⟩
  · injection hv with h1 h2 h3; omega
  · simp only [Value.slice.injEq] at hv
    obtain ⟨rfl, _, rfl⟩ := hv
    refine ⟨g, rfl, hb, box_lt hg, fun j v hv => ?_⟩
    have hj : j < 6 := (List.getElem?_eq_some_iff.1 hv).1
    rw [cell_of_row w g (i * 6 + j) _ _ _ hg]
    have e := cl_at l i (by omega) j hj
    rw [hv, ← ht, List.getElem?_take, if_pos (by omega)] at e
    simpa using e
theorem bfs_snoc (v L : Nat → Nat → Bool) : ∀ (k r : Nat) (out : List (List Nat)), bfs v L (k + 1) r out = bfsStep v L (r + k) (bfs v L k r out)
  | 0, r, out => rfl
  | k + 1, r, out => by
    show bfs v L (k + 1) (r + 1) (bfsStep v L r out) = _
    rw [bfs_snoc v L k (r + 1), show r + 1 + k = r + (k + 1) by omega]
    rfl
/-- What the document makes of one chain. -/
def okC (lk : Nat → Nat) (i : Nat) (c : List Nat) (u : Nat) : Bool := if i = 0 then true else has (lk (c.getD (i - 1) 0)) u
def goes (lk : Nat → Nat) (bad i : Nat) (c : List Nat) (u : Nat) : Bool := !has bad u && okC lk i c u
def inC (lk : Nat → Nat) (bad i : Nat) (c us : List Nat) : List (List Nat) := (us.filter (goes lk bad i c)).map fun u => c ++ [u]
theorem inC_snoc (lk : Nat → Nat) (bad i : Nat) (c us : List Nat) (u : Nat) : inC lk bad i c (us ++ [u]) = if goes lk bad i c u = true then inC lk bad i c us ++ [c ++ [u]] else inC lk bad i c us := by
  unfold inC
  rw [List.filter_append]
  cases h : goes lk bad i c u <;> simp [h]
theorem okOf_eq (lk : Nat → Nat) (c : List Nat) (u : Nat) : okOf (lOf lk) c u = okC lk c.length c u := by
  unfold okOf okC
  cases hc : c.getLast? with
  | none =>
    have : c = [] := List.getLast?_eq_none_iff.1 hc
    subst this
    rfl
  | some p =>
    have hne : c ≠ [] := fun h => by subst h; cases hc
    have hl : 0 < c.length := List.length_pos_iff.2 hne
    rw [if_neg (by omega)]
    rw [List.getLast?_eq_getElem?] at hc
    simp [lOf, List.getD, hc]
theorem bfs_len (v L : Nat → Nat → Bool) : ∀ k, ∀ x ∈ bfs v L k 0 [[]], x.length = k ∧ ∀ u ∈ x, u < 16
  | 0, x, h => by
    have : x = [] := by simpa [bfs] using h
    subst this
    exact ⟨rfl, by simp⟩
  | k + 1, x, h => by
    rw [bfs_snoc] at h
    obtain ⟨c, hc, hx⟩ := List.mem_flatMap.1 h
    obtain ⟨u, hu, rfl⟩ := List.mem_map.1 hx
    obtain ⟨h1, h2⟩ := bfs_len v L k c hc
    have h3 := List.mem_range.1 (List.mem_filter.1 hu).1
    exact ⟨by simp [h1], fun t ht => by rcases List.mem_append.1 ht with ht | ht; exact h2 t ht; rw [List.mem_singleton.1 ht]; exact h3⟩
theorem step_in (l : List Nat) (lk : Nat → Nat) (bad i : Nat) (hb : bad < 65536) (out : List (List Nat)) (ho : ∀ x ∈ out, x.length = i) : bfsStep (vOf (alB l bad)) (lOf lk) i out = out.flatMap fun c => inC lk bad i c (upTo (l.getD i 0) 16) := by
  unfold bfsStep
  have h : ∀ c ∈ out, (((List.range 16).filter fun u => okOf (lOf lk) c u && vOf (alB l bad) i u).map fun u => c ++ [u]) = inC lk bad i c (upTo (l.getD i 0) 16) := fun c hc => by
    unfold inC upTo
    rw [List.filter_filter]
    congr 1
    refine List.filter_congr fun u hu => ?_
    have hu16 := List.mem_range.1 hu
    unfold goes vOf alB
    rw [okOf_eq, ho c hc, has_and _ _ _ hu16, has_not _ _ hb hu16]
    cases has (l.getD i 0) u <;> cases has bad u <;> cases okC lk i c u <;> rfl
  clear ho
  induction out with
  | nil => rfl
  | cons c out ih => rw [List.flatMap_cons, List.flatMap_cons, h c (by simp), ih (fun x hx => h x (by simp [hx]))]
theorem flat_le {α β : Type} (f : α → List β) : ∀ l : List α, (∀ x ∈ l, (f x).length ≤ 16) → (l.flatMap f).length ≤ 16 * l.length
  | [], _ => by simp
  | x :: l, h => by
    have h1 := h x (by simp)
    have h2 := flat_le f l (fun y hy => h y (by simp [hy]))
    rw [List.flatMap_cons, List.length_append, List.length_cons]
    omega
theorem inC_le (lk : Nat → Nat) (bad i : Nat) (c us : List Nat) : (inC lk bad i c us).length ≤ us.length := by
  unfold inC
  rw [List.length_map]
  exact List.length_filter_le _ _
theorem bfs_le (v L : Nat → Nat → Bool) : ∀ k, (bfs v L k 0 [[]]).length ≤ 16 ^ k
  | 0 => by simp [bfs]
  | k + 1 => by
    have h := bfs_le v L k
    rw [bfs_snoc, Nat.pow_succ]
    have := flat_le (fun c => ((List.range 16).filter fun u => okOf L c u && v (0 + k) u).map fun u => c ++ [u]) (bfs v L k 0 [[]]) (fun x _ => by
      rw [List.length_map]
      exact Nat.le_trans (List.length_filter_le _ _) (by simp))
    unfold bfsStep
    omega
theorem chain_snoc {c : List Nat} {i : Nat} (h : c.length = i) (u : Nat) : chainC (c ++ [u]) = fun j => if j = i then ((u : Nat) : Int) else chainC c j := by
  funext j
  unfold chainC
  rw [List.length_append, List.length_singleton]
  by_cases e : j = i
  · subst e
    rw [if_pos (by omega), if_pos rfl]
    simp [List.getD, ← h]
  · rw [if_neg e]
    by_cases hl : j < c.length
    · rw [if_pos (by omega), if_pos hl]
      simp [List.getD, List.getElem?_append_left hl]
    · rw [if_neg (by omega), if_neg hl]
theorem ch_put (c : Nat → Int) {k : Nat} (x : Int) (hk : k < 6) : (#[.int .i8 (c 0), .int .i8 (c 1), .int .i8 (c 2), .int .i8 (c 3), .int .i8 (c 4), .int .i8 (c 5)] : Array Value).setIfInBounds k (.int .i8 x) = #[.int .i8 ((fun j => if j = k then x else c j) 0), .int .i8 ((fun j => if j = k then x else c j) 1), .int .i8 ((fun j => if j = k then x else c j) 2), .int .i8 ((fun j => if j = k then x else c j) 3), .int .i8 ((fun j => if j = k then x else c j) 4), .int .i8 ((fun j => if j = k then x else c j) 5)] := by
  rcases (by omega : k = 0 ∨ k = 1 ∨ k = 2 ∨ k = 3 ∨ k = 4 ∨ k = 5) with rfl | rfl | rfl | rfl | rfl | rfl <;> rfl
theorem size_six : (Try.prog.info? 75).map (·.size) = some 6 := by kernel_rfl
theorem zero_six (w : World) : (zeroValue 75).run Try.prog w = .ok (.agg (#[.int .i8 0, .int .i8 0, .int .i8 0, .int .i8 0, .int .i8 0, .int .i8 0] : Array Value)) w := by kernel_rfl
theorem info_six : (Try.prog.info? 75).map (fun i => (i.zero, i.size, i.bytes)) = some (some (.agg (#[.int .i8 0, .int .i8 0, .int .i8 0, .int .i8 0, .int .i8 0, .int .i8 0] : Array Value)), 6, 6) := by kernel_rfl
theorem own_formC {w : World} {base m : Nat} {e : TypeId} {size : Nat} {v : Value} {xs : List Value} (h : w.ownsRow base e size v m xs) : ∃ a c, v = .slice a m c := by
  rcases h.2 with ⟨hv, hx⟩ | ⟨g, cap, cur, hv, _⟩
  · exact ⟨none, 0, by rw [hv, hx]⟩
  · exact ⟨_, _, hv⟩
theorem six_new (w : World) (c : Nat → Int) : ∀ (j : Nat) (u : Value), (chl c)[j]? = some u → (w.alloc (.cells #[.int .i8 (c 0), .int .i8 (c 1), .int .i8 (c 2), .int .i8 (c 3), .int .i8 (c 4), .int .i8 (c 5)] 75)).cell? ((⟨w.heap.size, 0, none⟩ : Addr).add j) = some u := fun j u h => by
  rw [Addr.add_mid, Nat.zero_add, cell_of_row _ _ _ _ _ _ (heap_alloc_new w _)]
  rw [show (#[.int .i8 (c 0), .int .i8 (c 1), .int .i8 (c 2), .int .i8 (c 3), .int .i8 (c 4), .int .i8 (c 5)] : Array Value) = (chl c).toArray from rfl]
  simpa using h
theorem rNone_any (w : World) : Calls Try.prog 75 #[] w fun e w' => e = .returned (.agg #[.int .i8 (noneC 0), .int .i8 (noneC 1), .int .i8 (noneC 2), .int .i8 (noneC 3), .int .i8 (noneC 4), .int .i8 (noneC 5)]) ∧ Below w.heap.size w w' := by
  have hz := zero_six
  go_enter Try.func75, Try.ntmps75
  go_wp2_with ((with_reducible show wpList _ _ _ (_ :: _) _ _); refine wpList_store_row rfl 75 _ _ rfl _ _ rfl rfl _ _ (heap_alloc_new _ _) (by exact size_six) (by rfl) (by simp [Value.oneCell']) ?_; rw [World.setRow_alloc_new])
  refine bodyPost_ret (results_cell_row rfl _ _ _ _ _ _ _ rfl (heap_alloc_new _ _) Try.underlying75 rfl size_six) rfl ?_
  exact ⟨rfl, (Below.refl _ _).alloc (Nat.le_refl _) _⟩
theorem RowsO.at {base : Nat} {w : World} {a : Option Addr} {c : Nat} {l : List Nat} (h : RowsO base w (.slice a l.length c) l) {i : Nat} (hi : i < l.length) : ∃ b off ai ci, a = some ⟨b, off, none⟩ ∧ b < w.heap.size ∧ w.cell? ⟨b, off + i, none⟩ = some (.slice ai (upTo (l.getD i 0) 16).length ci) ∧ Rd w.heap.size w ai (upTo (l.getD i 0) 16).length ci (fun j => .int .i64 (((upTo (l.getD i 0) 16).getD j 0 : Nat) : Int)) := by
  obtain ⟨vs, h1, h2, h3⟩ := h.ex
  obtain ⟨x, y, h4, h5⟩ := h3 i hi
  have hr : Rd w.heap.size w a l.length c (fun j => vs.getD j undef) := rd_of_own h1 (fun j hj => by
    have : j < vs.length := by omega
    simp [List.getD, this])
  obtain ⟨b, off, rfl, hb, hc⟩ := hr.at hi
  refine ⟨b, off, x, y, rfl, hb, by rw [hc]; simp [List.getD, h4], rd_of_own h5 (fun j hj => ?_)⟩
  obtain ⟨us, hus⟩ : ∃ us, us = upTo (l.getD i 0) 16 := ⟨_, rfl⟩
  rw [← hus] at hj ⊢
  simp [zl, List.getD, hj]
set_option maxRecDepth 100000 in
set_option maxHeartbeats 8000000 in
theorem All_is (base : Nat) (a : Option Addr) (c bad : Nat) (l : List Nat) (lk : Nat → Nat) (w : World) (hr : RowsO base w (.slice a l.length c) l) (hlk : ∀ i, lk i < 65536) (hbad : bad < 65536) (h6 : l.length ≤ 6) (hl : ∀ t ∈ l, t < 65536) :
    Calls Try.prog 31 #[.agg #[.slice a l.length c, .int .u16 ((lk 0 : Nat) : Int), .int .u16 ((lk 1 : Nat) : Int), .int .u16 ((lk 2 : Nat) : Int), .int .u16 ((lk 3 : Nat) : Int), .int .u16 ((lk 4 : Nat) : Int), .int .u16 ((lk 5 : Nat) : Int), .int .u16 ((lk 6 : Nat) : Int), .int .u16 ((lk 7 : Nat) : Int), .int .u16 ((lk 8 : Nat) : Int), .int .u16 ((lk 9 : Nat) : Int), .int .u16 ((lk 10 : Nat) : Int), .int .u16 ((lk 11 : Nat) : Int), .int .u16 ((lk 12 : Nat) : Int), .int .u16 ((lk 13 : Nat) : Int), .int .u16 ((lk 14 : Nat) : Int), .int .u16 ((lk 15 : Nat) : Int)], .int .u16 (bad : Nat)] w fun e w' => ∃ v, e = .returned v ∧ w'.ownsRow w.heap.size 75 6 v (DD l lk bad).length (cl (DD l lk bad)) ∧ Below w.heap.size w w' := by
  have hz := zero_six
  obtain ⟨ic, hic, hic0, hic1, hic2⟩ := info_parts info_six
  have HR := Lib.hid hr
  have HLK := Lib.hid hlk
  have hq := (Bq.nil w).new #[.slice a l.length c, .int .u16 ((lk 0 : Nat) : Int), .int .u16 ((lk 1 : Nat) : Int), .int .u16 ((lk 2 : Nat) : Int), .int .u16 ((lk 3 : Nat) : Int), .int .u16 ((lk 4 : Nat) : Int), .int .u16 ((lk 5 : Nat) : Int), .int .u16 ((lk 6 : Nat) : Int), .int .u16 ((lk 7 : Nat) : Int), .int .u16 ((lk 8 : Nat) : Int), .int .u16 ((lk 9 : Nat) : Int), .int .u16 ((lk 10 : Nat) : Int), .int .u16 ((lk 11 : Nat) : Int), .int .u16 ((lk 12 : Nat) : Int), .int .u16 ((lk 13 : Nat) : Int), .int .u16 ((lk 14 : Nat) : Int), .int .u16 ((lk 15 : Nat) : Int)] 69
  clear hr hlk
  go_enter Try.func31, Try.ntmps31
  go_upto_region 1 with fail
  obtain ⟨w1, hw1⟩ : ∃ w1, w1 = w.alloc (.cells #[.slice a l.length c, .int .u16 ((lk 0 : Nat) : Int), .int .u16 ((lk 1 : Nat) : Int), .int .u16 ((lk 2 : Nat) : Int), .int .u16 ((lk 3 : Nat) : Int), .int .u16 ((lk 4 : Nat) : Int), .int .u16 ((lk 5 : Nat) : Int), .int .u16 ((lk 6 : Nat) : Int), .int .u16 ((lk 7 : Nat) : Int), .int .u16 ((lk 8 : Nat) : Int), .int .u16 ((lk 9 : Nat) : Int), .int .u16 ((lk 10 : Nat) : Int), .int .u16 ((lk 11 : Nat) : Int), .int .u16 ((lk 12 : Nat) : Int), .int .u16 ((lk 13 : Nat) : Int), .int .u16 ((lk 14 : Nat) : Int), .int .u16 ((lk 15 : Nat) : Int)] 69) := ⟨_, rfl⟩
  obtain ⟨g2, hg2⟩ : ∃ b, b = w.heap.size := ⟨_, rfl⟩
  rw [← hw1] at hq ⊢
  rw [← hg2]
  have HQ1 := Lib.hid (show Bq w w1 [(g2, #[.slice a l.length c, .int .u16 ((lk 0 : Nat) : Int), .int .u16 ((lk 1 : Nat) : Int), .int .u16 ((lk 2 : Nat) : Int), .int .u16 ((lk 3 : Nat) : Int), .int .u16 ((lk 4 : Nat) : Int), .int .u16 ((lk 5 : Nat) : Int), .int .u16 ((lk 6 : Nat) : Int), .int .u16 ((lk 7 : Nat) : Int), .int .u16 ((lk 8 : Nat) : Int), .int .u16 ((lk 9 : Nat) : Int), .int .u16 ((lk 10 : Nat) : Int), .int .u16 ((lk 11 : Nat) : Int), .int .u16 ((lk 12 : Nat) : Int), .int .u16 ((lk 13 : Nat) : Int), .int .u16 ((lk 14 : Nat) : Int), .int .u16 ((lk 15 : Nat) : Int)], 69)] by rw [hg2]; exact hq)
  clear hw1 hg2 hq
  go_wp2_with fail
  go_at_call 75
  refine (rNone_any w1).mono ?_
  rintro e w2 ⟨rfl, hb⟩
  have HQ2 := Lib.hid (HQ1.out.step hb)
  clear hb HQ1
  have hal := (Below.refl w2.heap.size w2).alloc (Nat.le_refl _) (.cells #[.int .i8 (noneC 0), .int .i8 (noneC 1), .int .i8 (noneC 2), .int .i8 (noneC 3), .int .i8 (noneC 4), .int .i8 (noneC 5)] 75)
  have ho := World.ownsRow_lit (base := w.heap.size) (e := 75) (size := 6) w2 #[.int .i8 (noneC 0), .int .i8 (noneC 1), .int .i8 (noneC 2), .int .i8 (noneC 3), .int .i8 (noneC 4), .int .i8 (noneC 5)] 1 HQ2.out.be.size (by unfold maxLen; omega) rfl
  go_upto_region 2 with fail
  obtain ⟨w3, hw3⟩ : ∃ w3, w3 = w2.alloc (.cells #[.int .i8 (noneC 0), .int .i8 (noneC 1), .int .i8 (noneC 2), .int .i8 (noneC 3), .int .i8 (noneC 4), .int .i8 (noneC 5)] 75) := ⟨_, rfl⟩
  rw [← hw3] at hal ho ⊢
  have HQ3 := Lib.hid (HQ2.out.step hal)
  have HO3 := Lib.hid (show w3.ownsRow w.heap.size 75 6 (.slice (some ⟨w2.heap.size, 0, none⟩) 1 1) (bfs (vOf (alB l bad)) (lOf lk) 0 0 [[]]).length (cl (bfs (vOf (alB l bad)) (lOf lk) 0 0 [[]])) from ho)
  clear hw3 hal ho HQ2
  obtain ⟨v0, hv0⟩ : ∃ v, v = Value.slice (some ⟨w2.heap.size, 0, none⟩) 1 1 := ⟨_, rfl⟩
  have c20 := cell_of_row _ g2 0 _ _ _ (HQ3.out.of 0 rfl)
  simp at c20
  go_wp2_with fail
  clear c20
  go_loopw [5, 19] (fun v i wr => ∃ k : Nat, k ≤ l.length ∧ i = .int .i64 (k : Nat) ∧ wr.ownsRow w.heap.size 75 6 v (bfs (vOf (alB l bad)) (lOf lk) k 0 [[]]).length (cl (bfs (vOf (alB l bad)) (lOf lk) k 0 [[]])) ∧ Bq w wr [(g2, #[.slice a l.length c, .int .u16 ((lk 0 : Nat) : Int), .int .u16 ((lk 1 : Nat) : Int), .int .u16 ((lk 2 : Nat) : Int), .int .u16 ((lk 3 : Nat) : Int), .int .u16 ((lk 4 : Nat) : Int), .int .u16 ((lk 5 : Nat) : Int), .int .u16 ((lk 6 : Nat) : Int), .int .u16 ((lk 7 : Nat) : Int), .int .u16 ((lk 8 : Nat) : Int), .int .u16 ((lk 9 : Nat) : Int), .int .u16 ((lk 10 : Nat) : Int), .int .u16 ((lk 11 : Nat) : Int), .int .u16 ((lk 12 : Nat) : Int), .int .u16 ((lk 13 : Nat) : Int), .int .u16 ((lk 14 : Nat) : Int), .int .u16 ((lk 15 : Nat) : Int)], 69)]) (fun _ i _ => l.length - (intOf i).toNat)
  case atStart => exact ⟨0, Nat.zero_le _, rfl, HO3.out, HQ3.out⟩
  case round =>
    clear HQ3 HO3
    obtain ⟨k, hk, rfl, ho, hq⟩ := hrel
    by_cases hlt : k < l.length
    · obtain ⟨out, hout⟩ : ∃ out, out = bfs (vOf (alB l bad)) (lOf lk) k 0 [[]] := ⟨_, rfl⟩
      have hle := bfs_le (vOf (alB l bad)) (lOf lk) k
      have hmem := bfs_len (vOf (alB l bad)) (lOf lk) k
      have hstep := step_in l lk bad k hbad out (fun x hx => (hmem x (by rw [← hout]; exact hx)).1)
      have hsn := bfs_snoc (vOf (alB l bad)) (lOf lk) k 0 [[]]
      rw [Nat.zero_add, ← hout, hstep] at hsn
      rw [← hout] at ho hle hmem
      have hle5 : out.length ≤ 1048576 := by
        have : 16 ^ k ≤ 16 ^ 5 := Nat.pow_le_pow_right (by omega) (by omega)
        omega
      obtain ⟨ao, co, rfl⟩ := own_formC ho
      obtain ⟨b, off, ai, ci, rfl, hbw, hce, hrd⟩ := HR.out.at hlt
      have hus16 := upTo_len (l.getD k 0) 16
      have hus : ∀ u ∈ upTo (l.getD k 0) 16, u < 16 := fun u hu => List.mem_range.1 (List.mem_filter.1 hu).1
      obtain ⟨us, huse⟩ : ∃ us, us = upTo (l.getD k 0) 16 := ⟨_, rfl⟩
      rw [← huse] at hsn hce hrd hus16 hus
      have hce := (hq.be.cell (p := ⟨b, off + k, none⟩) hbw).trans hce
      have HQ := Lib.hid hq
      have HO := Lib.hid ho
      have HRD := Lib.hid (hrd.below hq.be)
      have hwk := hq.be.size
      have HSN := Lib.hid hsn
      have HMEM := Lib.hid hmem
      have HUS := Lib.hid hus
      clear hout hle hmem hstep hsn ho hq hrd hus huse hbw
      obtain ⟨wk, rfl⟩ : ∃ x, x = wr := ⟨_, rfl⟩
      go_wp2_with fail
      clear hce
      go_loopw [8, 26] (fun v j wr => ∃ m : Nat, m ≤ out.length ∧ j = .int .i64 (m : Nat) ∧ wr.ownsRow wk.heap.size 75 6 v ((out.take m).flatMap fun c => inC lk bad k c us).length (cl ((out.take m).flatMap fun c => inC lk bad k c us)) ∧ Below wk.heap.size wk wr) (fun _ j _ => out.length - (intOf j).toNat)
      case atStart => exact ⟨0, Nat.zero_le _, rfl, World.ownsRow_nil _ _ _ _, Below.refl _ _⟩
      case round =>
        obtain ⟨m, hm, rfl, hn, hb⟩ := hrel
        by_cases hml : m < out.length
        · obtain ⟨g, rfl, hgb, hgw, hrg⟩ := own_rangeC HO.out rfl hml
          have hcm := HMEM.out (out.getD m []) (by rw [List.getD, List.getElem?_eq_getElem hml]; exact List.getElem_mem _)
          obtain ⟨nx, hnx⟩ : ∃ nx, nx = (out.take m).flatMap fun c => inC lk bad k c us := ⟨_, rfl⟩
          have hnx2 : (out.take (m + 1)).flatMap (fun c => inC lk bad k c us) = nx ++ inC lk bad k (out.getD m []) us := by
            rw [List.take_add_one, List.getElem?_eq_getElem hml, List.flatMap_append, ← hnx]
            simp [List.getD, hml]
          have hnl : nx.length ≤ 16 * m := by
            rw [hnx]
            refine Nat.le_trans (flat_le _ _ (fun x _ => Nat.le_trans (inC_le _ _ _ _ _) hus16)) ?_
            rw [List.length_take]
            omega
          rw [← hnx] at hn
          have hrg : wr.rangeAt g (m * 6) (chl (chainC (out.getD m []))) := fun j v hv => (hb.cell (p := ⟨g, m * 6 + j, none⟩) hgw).trans (hrg j v hv)
          obtain ⟨x, hx⟩ : ∃ x, x = out.getD m [] := ⟨_, rfl⟩
          rw [← hx] at hrg hcm hnx2
          obtain ⟨hxl, hx16⟩ := hcm
          have HN := Lib.hid hn
          have HB := Lib.hid hb
          have HNX := Lib.hid hnx2
          have HX16 := Lib.hid hx16
          have HXL := Lib.hid hxl
          have hbox := heap_alloc_new wr (.cells #[.int .i8 ((chainC x) 0), .int .i8 ((chainC x) 1), .int .i8 ((chainC x) 2), .int .i8 ((chainC x) 3), .int .i8 ((chainC x) 4), .int .i8 ((chainC x) 5)] 75)
          have hbb := (Below.refl wr.heap.size wr).alloc (Nat.le_refl _) (.cells #[.int .i8 ((chainC x) 0), .int .i8 ((chainC x) 1), .int .i8 ((chainC x) 2), .int .i8 ((chainC x) 3), .int .i8 ((chainC x) 4), .int .i8 ((chainC x) 5)] 75)
          clear hn hb hnx hnx2 hx hgb hgw hx16 hxl
          go_upto_region 9 with (first | ((with_reducible show wpList _ _ _ (_ :: _) _ _); refine wpList_load_mid rfl 75 _ rfl _ (m * 6) rfl (chl (chainC x)) _ hrg Try.underlying75 rfl size_six ?_; rw [show (chl (chainC x)).toArray = #[.int .i8 ((chainC x) 0), .int .i8 ((chainC x) 1), .int .i8 ((chainC x) 2), .int .i8 ((chainC x) 3), .int .i8 ((chainC x) 4), .int .i8 ((chainC x) 5)] from rfl]; (try go_simp)) | ((with_reducible show wpList _ _ _ (_ :: _) _ _); refine wpList_store_row rfl 75 _ _ rfl _ _ rfl rfl _ _ (heap_alloc_new _ _) (by exact size_six) (by rfl) (by simp [Value.oneCell']) ?_; rw [World.setRow_alloc_new]))
          obtain ⟨w4, hw4⟩ : ∃ w4, w4 = wr.alloc (.cells #[.int .i8 ((chainC x) 0), .int .i8 ((chainC x) 1), .int .i8 ((chainC x) 2), .int .i8 ((chainC x) 3), .int .i8 ((chainC x) 4), .int .i8 ((chainC x) 5)] 75) := ⟨_, rfl⟩
          obtain ⟨gx, hgx⟩ : ∃ g, g = wr.heap.size := ⟨_, rfl⟩
          rw [← hw4] at hbox hbb ⊢
          have hne0 : u8.ownBlock ≠ some gx := fun h => by have := (HN.out.lt gx h).2; omega
          rw [← hgx] at hbox
          have HBX := Lib.hid hbox
          have HN4 := Lib.hid (own_keepZ HN.out hbb)
          have HB4 := Lib.hid (HB.out.trans (hbb.mono HB.out.size))
          have hk0s := HB.out.size
          rw [← hgx]
          obtain ⟨vn, hvn⟩ : ∃ v, v = u8 := ⟨_, rfl⟩
          rw [← hvn] at hne0 HN4 ⊢
          clear hw4 hgx hvn hbox hbb HN HB hrg
          (try simp only [Act.put])
          go_wp2_with fail
          go_loopw [8, 32] (fun v j wr => ∃ q : Nat, q ≤ us.length ∧ j = .int .i64 (q : Nat) ∧ wr.ownsRow wk.heap.size 75 6 v (nx ++ inC lk bad k x (us.take q)).length (cl (nx ++ inC lk bad k x (us.take q))) ∧ v.ownBlock ≠ some gx ∧ wr.heap[gx]? = some (.cells #[.int .i8 ((chainC x) 0), .int .i8 ((chainC x) 1), .int .i8 ((chainC x) 2), .int .i8 ((chainC x) 3), .int .i8 ((chainC x) 4), .int .i8 ((chainC x) 5)] 75 (0, 0)) ∧ Below wk.heap.size wk wr) (fun _ j _ => us.length - (intOf j).toNat)
          case atStart => exact ⟨0, Nat.zero_le _, rfl, by simpa [inC] using HN4.out, hne0, HBX.out, HB4.out⟩
          case round =>
            clear hne0 HBX HN4 HB4
            obtain ⟨q, hq, rfl, hn, hne, hbx, hb⟩ := hrel
            have hin := inC_le lk bad k x (us.take q)
            rw [List.length_take] at hin
            have HN := Lib.hid hn
            have HBX := Lib.hid hbx
            have HB := Lib.hid hb
            have HNE := Lib.hid hne
            by_cases hql : q < us.length
            · obtain ⟨bu, ou, rfl, hbu, hcu⟩ := HRD.out.at hql
              have hcu := (hb.cell (p := ⟨bu, ou + q, none⟩) (show bu < wk.heap.size by omega)).trans hcu
              have hd : us.take (q + 1) = us.take q ++ [us.getD q 0] := by
                rw [List.take_add_one, List.getElem?_eq_getElem hql]
                simp [List.getD, hql]
              have hu16 := HUS.out (us.getD q 0) (by rw [List.getD, List.getElem?_eq_getElem hql]; exact List.getElem_mem _)
              have hsn := inC_snoc lk bad k x (us.take q) (us.getD q 0)
              rw [← hd] at hsn
              obtain ⟨u, hu⟩ : ∃ u, u = us.getD q 0 := ⟨_, rfl⟩
              rw [← hu] at hcu hu16 hsn
              have HSQ := Lib.hid hsn
              have hbd := has_div bad u hu16
              have eb : ((bad : Nat) : Int) / 2 ^ u = ((bad / 2 ^ u : Nat) : Int) := by push_cast; rfl
              obtain ⟨y, hy⟩ : ∃ y, y = bad / 2 ^ u := ⟨_, rfl⟩
              rw [← hy] at hbd eb
              have hy1 : y < 65536 := by rw [hy]; exact Nat.lt_of_le_of_lt (Nat.div_le_self _ _) hbad
              have HBD := Lib.hid hbd
              clear hn hbx hb hne hd hsn hu hy hbd hbu
              by_cases hyb : y % 2 = 1
              · have e1 : ((y : Int) % 2 == 1) = true := by simp; omega
                have hg0 : goes lk bad k x u = false := by unfold goes; rw [HBD.out]; simp [hyb]
                have HG := Lib.hid hg0
                clear hyb hg0
                go_wp2_with fail
                go_roundw
                case rel => exact ⟨q + 1, by omega, by go_num, by rw [HSQ.out, HG.out]; exact HN.out, HNE.out, HBX.out, HB.out⟩
                case measure => simp [intOf]; omega
              · have e1 : ((y : Int) % 2 == 1) = false := by simp; omega
                have hg1 : goes lk bad k x u = okC lk k x u := by unfold goes; rw [HBD.out]; simp [hyb]
                have HG := Lib.hid hg1
                have hkl : k < 6 := by omega
                clear hyb hg1
                by_cases hk0 : k = 0
                · have hki : ¬ (0 : Int) < ((k : Nat) : Int) := by omega
                  have hg2 : goes lk bad k x u = true := by rw [HG.out]; unfold okC; rw [if_pos hk0]
                  have HG2 := Lib.hid hg2
                  clear hg2 hk0
                  skip
                  have bx := HBX.out
                  go_upto_region 13 with fail
                  go_upto_region 14 with (first | ((with_reducible show wpList _ _ _ (_ :: _) _ _); refine wpList_load_row rfl 75 _ rfl _ rfl _ _ _ _ bx Try.underlying75 rfl (by exact size_six) ?_; (try go_simp)) | ((with_reducible show wpList _ _ _ (_ :: _) _ _); refine wpList_store_row rfl 75 _ _ rfl _ _ rfl rfl _ _ (heap_alloc_new _ _) (by exact size_six) (by rfl) (by simp [Value.oneCell']) ?_; rw [World.setRow_alloc_new]))
                  have hal := (Below.refl wr.heap.size wr).alloc (Nat.le_refl _) (.cells #[.int .i8 ((chainC x) 0), .int .i8 ((chainC x) 1), .int .i8 ((chainC x) 2), .int .i8 ((chainC x) 3), .int .i8 ((chainC x) 4), .int .i8 ((chainC x) 5)] 75)
                  have hnw := heap_alloc_new wr (.cells #[.int .i8 ((chainC x) 0), .int .i8 ((chainC x) 1), .int .i8 ((chainC x) 2), .int .i8 ((chainC x) 3), .int .i8 ((chainC x) 4), .int .i8 ((chainC x) 5)] 75)
                  obtain ⟨w5, hw5⟩ : ∃ w5, w5 = wr.alloc (.cells #[.int .i8 ((chainC x) 0), .int .i8 ((chainC x) 1), .int .i8 ((chainC x) 2), .int .i8 ((chainC x) 3), .int .i8 ((chainC x) 4), .int .i8 ((chainC x) 5)] 75) := ⟨_, rfl⟩
                  obtain ⟨gd, hgd⟩ : ∃ g, g = wr.heap.size := ⟨_, rfl⟩
                  rw [← hw5] at hal hnw ⊢
                  rw [← hgd] at hnw ⊢
                  have hgx := box_lt bx
                  have hgn : u8.ownBlock ≠ some gd := fun h => by have := (HN.out.lt gd h).2; omega
                  have hgdb : wk.heap.size ≤ gd := by rw [hgd]; exact HB.out.size
                  have HN5 := Lib.hid (own_keepZ HN.out hal)
                  have HX5 := Lib.hid (box_below bx hal hgx)
                  have HB5 := Lib.hid (HB.out.trans (hal.mono HB.out.size))
                  have k5 := cell_of_row _ gd k _ _ _ hnw
                  rw [ch_cell _ hkl] at k5
                  have f5 := frozen_of_row _ gd k _ _ hnw
                  have HD6 := Lib.hid (heap_setCell_same _ gd k _ _ (.int .i8 ((u : Nat) : Int)) hnw)
                  have hwu := wrapi8 ⟨u, hu16⟩
                  dsimp only at hwu
                  have HN6 := Lib.hid (HN5.out.kept (grown_set w5 ⟨gd, k, none⟩ (.int .i8 ((u : Nat) : Int))) (.inr hgn))
                  have HX6 := Lib.hid ((heap_setCell_other w5 ⟨gd, k, none⟩ gx (.int .i8 ((u : Nat) : Int)) (by show gx ≠ gd; omega)).trans HX5.out)
                  have HB6 := Lib.hid (HB5.out.setCell (p := ⟨gd, k, none⟩) hgdb (.int .i8 ((u : Nat) : Int)))
                  (try simp only [Act.put])
                  have hgxd : gx < gd := by rw [hgd]; exact hgx
                  clear hw5 hgd hal hnw HN5 HX5 HB5 hgn bx
                  go_upto_region 15 with fail
                  obtain ⟨w6, hw6⟩ : ∃ w6, w6 = w5.setCell ⟨gd, k, none⟩ (.int .i8 ((u : Nat) : Int)) := ⟨_, rfl⟩
                  rw [← hw6] at HN6 HX6 HB6 HD6 ⊢
                  have b13 : w6.heap[gd]? = some (.cells #[.int .i8 ((chainC (x ++ [u])) 0), .int .i8 ((chainC (x ++ [u])) 1), .int .i8 ((chainC (x ++ [u])) 2), .int .i8 ((chainC (x ++ [u])) 3), .int .i8 ((chainC (x ++ [u])) 4), .int .i8 ((chainC (x ++ [u])) 5)] 75 (0, 0)) := by
                    rw [HD6.out, ch_put _ _ hkl, chain_snoc HXL.out]
                  have hbl : (nx ++ inC lk bad k x (us.take q)).length ≤ 20000000 := by rw [List.length_append]; omega
                  have hs6 : wk.heap.size ≤ w6.heap.size := HB6.out.size
                  have hgx6 : gx < w6.heap.size := box_lt HX6.out
                  have HNE2 := HNE
                  clear k5 f5 HD6 hw6 hgx hwu
                  go_upto_region 16 with (first | ((with_reducible show wpList _ _ _ (_ :: _) _ _); refine wpList_load_row rfl 75 _ rfl _ rfl _ _ _ _ b13 Try.underlying75 rfl (by exact size_six) ?_; (try go_simp)) | (at_builtin; refine wpList_append_own_at _ rfl _ _ 72 rfl wk.heap.size 75 ic (.agg (#[.int .i8 0, .int .i8 0, .int .i8 0, .int .i8 0, .int .i8 0, .int .i8 0] : Array Value)) 6 6 Try.underlying72 hic hic0 hic1 hic2 rfl (by decide) _ _ _ rfl (HN6.out.alloc _) ⟨w6.heap.size, 0, none⟩ 1 1 (chl (chainC (x ++ [u]))) rfl rfl (six_new _ _) (by simp [chl, Value.oneCell']) (by unfold maxLen; omega) (by omega) (by simp; omega) ?_; intro v7 w7 hown7 hgr7 _ hblk; have HO7 := Lib.hid hown7; have HG7 := Lib.hid hgr7; have HBK := Lib.hid hblk; clear hown7 hgr7 hblk))
                  (try simp only [Act.put])
                  go_wp2_with fail
                  go_roundw
                  case rel =>
                    have hal6 := (Below.refl w6.heap.size w6).alloc (Nat.le_refl _) (.cells #[.int .i8 ((chainC (x ++ [u])) 0), .int .i8 ((chainC (x ++ [u])) 1), .int .i8 ((chainC (x ++ [u])) 2), .int .i8 ((chainC (x ++ [u])) 3), .int .i8 ((chainC (x ++ [u])) 4), .int .i8 ((chainC (x ++ [u])) 5)] 75)
                    refine ⟨q + 1, by omega, by go_num, ?_, ?_, ?_, ?_⟩
                    · rw [HSQ.out, if_pos HG2.out, ← List.append_assoc, cl_snoc, List.length_append]
                      exact HO7.out
                    · rcases HBK.out with h | h
                      · rw [h]; exact HNE2.out
                      · rw [h]; intro h; injection h with h; simp at h; omega
                    · exact box_kept (box_below HX6.out hal6 hgx6) HG7.out (fun h => HNE2.out h.symm)
                    · exact ((HB6.out.alloc hs6 _).grown HG7.out (by simp; omega) (fun j hj => (HN6.out.lt j hj).1))
                  case measure => simp [intOf]; omega
                · have hki : (0 : Int) < ((k : Nat) : Int) := by omega
                  obtain ⟨k1, hk1⟩ : ∃ k1, k = k1 + 1 := ⟨k - 1, by omega⟩
                  have hki2 : ((k : Nat) : Int) - 1 = ((k1 : Nat) : Int) := by omega
                  have hkk : k1 < 6 := by omega
                  have hkx : k1 < x.length := by have := HXL.out; omega
                  have hp16 := HX16.out (x.getD k1 0) (by rw [List.getD, List.getElem?_eq_getElem hkx]; exact List.getElem_mem _)
                  have hok : okC lk k x u = has (lk (x.getD k1 0)) u := by unfold okC; rw [if_neg hk0, show k - 1 = k1 by omega]
                  have ecx : chainC x k1 = ((x.getD k1 0 : Nat) : Int) := by unfold chainC; rw [if_pos hkx]
                  have cx1 := cell_of_row _ gx k1 _ _ _ HBX.out
                  rw [ch_cell _ hkk, ecx] at cx1
                  obtain ⟨p, hp⟩ : ∃ p, p = x.getD k1 0 := ⟨_, rfl⟩
                  rw [← hp] at hp16 hok cx1
                  have cl1 := cell_of_row _ g2 (1 + p) _ _ _ ((HQ.out.step (HB.out)).of 0 rfl)
                  rw [mapv_cell _ lk hp16] at cl1
                  have hlkp := HLK.out p
                  obtain ⟨lp, hlp⟩ : ∃ lp, lp = lk p := ⟨_, rfl⟩
                  rw [← hlp] at hok cl1 hlkp
                  have hld := has_div lp u hu16
                  have el : ((lp : Nat) : Int) / 2 ^ u = ((lp / 2 ^ u : Nat) : Int) := by push_cast; rfl
                  obtain ⟨yl, hyl⟩ : ∃ y, y = lp / 2 ^ u := ⟨_, rfl⟩
                  rw [← hyl] at hld el
                  have hyl1 : yl < 65536 := by rw [hyl]; exact Nat.lt_of_le_of_lt (Nat.div_le_self _ _) hlkp
                  have HOK := Lib.hid (hok.trans hld)
                  clear hok hld hlp hyl hp ecx hk1 hk0 hkx
                  by_cases hyy : yl % 2 = 1
                  · have e2 : ((yl : Int) % 2 == 0) = false := by rw [beq_eq_false_iff_ne]; omega
                    have hg2 : goes lk bad k x u = true := by rw [HG.out, HOK.out]; simp [hyy]
                    have HG2 := Lib.hid hg2
                    clear hg2 hyy
                    skip
                    have bx := HBX.out
                    go_upto_region 13 with fail
                    go_upto_region 14 with (first | ((with_reducible show wpList _ _ _ (_ :: _) _ _); refine wpList_load_row rfl 75 _ rfl _ rfl _ _ _ _ bx Try.underlying75 rfl (by exact size_six) ?_; (try go_simp)) | ((with_reducible show wpList _ _ _ (_ :: _) _ _); refine wpList_store_row rfl 75 _ _ rfl _ _ rfl rfl _ _ (heap_alloc_new _ _) (by exact size_six) (by rfl) (by simp [Value.oneCell']) ?_; rw [World.setRow_alloc_new]))
                    have hal := (Below.refl wr.heap.size wr).alloc (Nat.le_refl _) (.cells #[.int .i8 ((chainC x) 0), .int .i8 ((chainC x) 1), .int .i8 ((chainC x) 2), .int .i8 ((chainC x) 3), .int .i8 ((chainC x) 4), .int .i8 ((chainC x) 5)] 75)
                    have hnw := heap_alloc_new wr (.cells #[.int .i8 ((chainC x) 0), .int .i8 ((chainC x) 1), .int .i8 ((chainC x) 2), .int .i8 ((chainC x) 3), .int .i8 ((chainC x) 4), .int .i8 ((chainC x) 5)] 75)
                    obtain ⟨w5, hw5⟩ : ∃ w5, w5 = wr.alloc (.cells #[.int .i8 ((chainC x) 0), .int .i8 ((chainC x) 1), .int .i8 ((chainC x) 2), .int .i8 ((chainC x) 3), .int .i8 ((chainC x) 4), .int .i8 ((chainC x) 5)] 75) := ⟨_, rfl⟩
                    obtain ⟨gd, hgd⟩ : ∃ g, g = wr.heap.size := ⟨_, rfl⟩
                    rw [← hw5] at hal hnw ⊢
                    rw [← hgd] at hnw ⊢
                    have hgx := box_lt bx
                    have hgn : u8.ownBlock ≠ some gd := fun h => by have := (HN.out.lt gd h).2; omega
                    have hgdb : wk.heap.size ≤ gd := by rw [hgd]; exact HB.out.size
                    have HN5 := Lib.hid (own_keepZ HN.out hal)
                    have HX5 := Lib.hid (box_below bx hal hgx)
                    have HB5 := Lib.hid (HB.out.trans (hal.mono HB.out.size))
                    have k5 := cell_of_row _ gd k _ _ _ hnw
                    rw [ch_cell _ hkl] at k5
                    have f5 := frozen_of_row _ gd k _ _ hnw
                    have HD6 := Lib.hid (heap_setCell_same _ gd k _ _ (.int .i8 ((u : Nat) : Int)) hnw)
                    have hwu := wrapi8 ⟨u, hu16⟩
                    dsimp only at hwu
                    have HN6 := Lib.hid (HN5.out.kept (grown_set w5 ⟨gd, k, none⟩ (.int .i8 ((u : Nat) : Int))) (.inr hgn))
                    have HX6 := Lib.hid ((heap_setCell_other w5 ⟨gd, k, none⟩ gx (.int .i8 ((u : Nat) : Int)) (by show gx ≠ gd; omega)).trans HX5.out)
                    have HB6 := Lib.hid (HB5.out.setCell (p := ⟨gd, k, none⟩) hgdb (.int .i8 ((u : Nat) : Int)))
                    (try simp only [Act.put])
                    have hgxd : gx < gd := by rw [hgd]; exact hgx
                    clear hw5 hgd hal hnw HN5 HX5 HB5 hgn bx
                    go_upto_region 15 with fail
                    obtain ⟨w6, hw6⟩ : ∃ w6, w6 = w5.setCell ⟨gd, k, none⟩ (.int .i8 ((u : Nat) : Int)) := ⟨_, rfl⟩
                    rw [← hw6] at HN6 HX6 HB6 HD6 ⊢
                    have b13 : w6.heap[gd]? = some (.cells #[.int .i8 ((chainC (x ++ [u])) 0), .int .i8 ((chainC (x ++ [u])) 1), .int .i8 ((chainC (x ++ [u])) 2), .int .i8 ((chainC (x ++ [u])) 3), .int .i8 ((chainC (x ++ [u])) 4), .int .i8 ((chainC (x ++ [u])) 5)] 75 (0, 0)) := by
                      rw [HD6.out, ch_put _ _ hkl, chain_snoc HXL.out]
                    have hbl : (nx ++ inC lk bad k x (us.take q)).length ≤ 20000000 := by rw [List.length_append]; omega
                    have hs6 : wk.heap.size ≤ w6.heap.size := HB6.out.size
                    have hgx6 : gx < w6.heap.size := box_lt HX6.out
                    have HNE2 := HNE
                    clear k5 f5 HD6 hw6 hgx hwu
                    go_upto_region 16 with (first | ((with_reducible show wpList _ _ _ (_ :: _) _ _); refine wpList_load_row rfl 75 _ rfl _ rfl _ _ _ _ b13 Try.underlying75 rfl (by exact size_six) ?_; (try go_simp)) | (at_builtin; refine wpList_append_own_at _ rfl _ _ 72 rfl wk.heap.size 75 ic (.agg (#[.int .i8 0, .int .i8 0, .int .i8 0, .int .i8 0, .int .i8 0, .int .i8 0] : Array Value)) 6 6 Try.underlying72 hic hic0 hic1 hic2 rfl (by decide) _ _ _ rfl (HN6.out.alloc _) ⟨w6.heap.size, 0, none⟩ 1 1 (chl (chainC (x ++ [u]))) rfl rfl (six_new _ _) (by simp [chl, Value.oneCell']) (by unfold maxLen; omega) (by omega) (by simp; omega) ?_; intro v7 w7 hown7 hgr7 _ hblk; have HO7 := Lib.hid hown7; have HG7 := Lib.hid hgr7; have HBK := Lib.hid hblk; clear hown7 hgr7 hblk))
                    (try simp only [Act.put])
                    go_wp2_with fail
                    go_roundw
                    case rel =>
                      have hal6 := (Below.refl w6.heap.size w6).alloc (Nat.le_refl _) (.cells #[.int .i8 ((chainC (x ++ [u])) 0), .int .i8 ((chainC (x ++ [u])) 1), .int .i8 ((chainC (x ++ [u])) 2), .int .i8 ((chainC (x ++ [u])) 3), .int .i8 ((chainC (x ++ [u])) 4), .int .i8 ((chainC (x ++ [u])) 5)] 75)
                      refine ⟨q + 1, by omega, by go_num, ?_, ?_, ?_, ?_⟩
                      · rw [HSQ.out, if_pos HG2.out, ← List.append_assoc, cl_snoc, List.length_append]
                        exact HO7.out
                      · rcases HBK.out with h | h
                        · rw [h]; exact HNE2.out
                        · rw [h]; intro h; injection h with h; simp at h; omega
                      · exact box_kept (box_below HX6.out hal6 hgx6) HG7.out (fun h => HNE2.out h.symm)
                      · exact ((HB6.out.alloc hs6 _).grown HG7.out (by simp; omega) (fun j hj => (HN6.out.lt j hj).1))
                    case measure => simp [intOf]; omega
                  · have e2 : ((yl : Int) % 2 == 0) = true := by simp; omega
                    have hg2 : goes lk bad k x u = false := by rw [HG.out, HOK.out]; simp [hyy]
                    have HG2 := Lib.hid hg2
                    clear hg2 hyy
                    go_wp2_with fail
                    go_roundw
                    case rel => exact ⟨q + 1, by omega, by go_num, by rw [HSQ.out, HG2.out]; exact HN.out, HNE.out, HBX.out, HB.out⟩
                    case measure => simp [intOf]; omega
            · obtain rfl : q = us.length := by omega
              rw [List.take_of_length_le (Nat.le_refl _)] at HN
              clear hn hbx hb hne
              go_wp2_with fail
              refine ⟨⟨m + 1, by omega, by go_num, by rw [HNX.out]; exact HN.out, HB.out⟩, ?_⟩
              simp [intOf]
              omega
        · obtain rfl : m = out.length := by omega
          rw [List.take_of_length_le (Nat.le_refl _), ← HSN.out] at hn
          have HN := Lib.hid hn
          have HB := Lib.hid hb
          have HQ2 := Lib.hid (HQ.out.step hb)
          clear hn hb
          go_wp2_with fail
          refine ⟨⟨k + 1, by omega, by go_num, own_baseZ HN.out hwk, HQ2.out⟩, ?_⟩
          simp [intOf]
          omega
    · obtain rfl : k = l.length := by omega
      have e : bfs (vOf (alB l bad)) (lOf lk) l.length 0 [[]] = DD l lk bad := bfs_all _ _ _
      rw [e] at ho
      have HO := Lib.hid ho
      clear ho
      go_wp2_with fail
      go_ret
      exact ⟨_, rfl, HO.out, hq.be⟩
end Go.Proofs.Ytioclbkgfbjpdaa
