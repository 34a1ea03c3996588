/- Contracts of layer 11 (the queue), on: taken. -/
import Derived.Test.YtioclbkgfbjpdaaQu2
namespace Go.Proofs.Ytioclbkgfbjpdaa
open Go.RowKit Go.Own
set_option linter.unusedVariables false
set_option linter.unusedSimpArgs false
/-- The cells of a row of reports. -/
def ql (l : List Rq) : List Value := l.flatMap Rq.cs
theorem ql_len (l : List Rq) : (ql l).length = l.length * 5 := by
  induction l with
  | nil => rfl
  | cons x r ih => simp only [ql, List.flatMap_cons, List.length_append, Rq.len, List.length_cons] at ih ⊢; omega
theorem ql_append (l m : List Rq) : ql (l ++ m) = ql l ++ ql m := by simp [ql]
theorem ql_one (x : Rq) : ql [x] = x.cs := by simp [ql]
theorem ql_at (l : List Rq) : ∀ (i : Nat), i < l.length → ∀ j, j < 5 → (ql l)[i * 5 + j]? = (l.getD i rq0).cs[j]? := by
  induction l with
  | nil => intro i hi; simp at hi
  | cons x r ih =>
    intro i hi j hj
    have e : ql (x :: r) = x.cs ++ ql r := by simp [ql]
    rw [e]
    rcases Nat.eq_zero_or_pos i with h0 | h0
    · subst h0
      rw [List.getElem?_append_left (by rw [Rq.len]; omega)]
      simp
    · obtain ⟨k, rfl⟩ : ∃ k, i = k + 1 := ⟨i - 1, by omega⟩
      rw [List.getElem?_append_right (by rw [Rq.len]; omega), Rq.len, show (k + 1) * 5 + j - 5 = k * 5 + j by omega, ih k (by simpa using hi) j hj]
      simp
theorem takeq_succ (l : List Rq) {k : Nat} (h : k < l.length) : ql (l.take (k + 1)) = ql (l.take k) ++ (l.getD k rq0).cs := by
  rw [List.take_succ_eq_append_getElem h, ql_append, ql_one]
  simp [List.getD, h]
theorem own_range {w : World} {base m : Nat} {a : Option Addr} {c : Nat} {l : List Rq} (h : w.ownsRow base 123 5 (.slice a m c) m (ql l)) (hl : l.length = m) {i : Nat} (hi : i < m) : ∃ g, a = some ⟨g, 0, none⟩ ∧ base ≤ g ∧ g < w.heap.size ∧ w.rangeAt g (i * 5) (l.getD i rq0).cs := by
  rcases h.2 with ⟨hv, hx⟩ | ⟨g, cap, cur, hv, hb, hg, hn, hm, hs, ht⟩
  · injection hv with h1 h2 h3; omega
  · simp only [Value.slice.injEq] at hv
    obtain ⟨rfl, _, rfl⟩ := hv
    refine ⟨g, rfl, hb, box_lt hg, fun j v hv => ?_⟩
    have hj : j < 5 := (List.getElem?_eq_some_iff.1 hv).1
    rw [cell_of_row w g (i * 5 + j) _ _ _ hg]
    have e := ql_at l i (by omega) j hj
    rw [hv, ← ht, List.getElem?_take, if_pos (by omega)] at e
    simpa using e
theorem Kep3.low {gq g b : Nat} {w w' w'' : World} (h : Kep3 gq g b w w') (hb : Below w.heap.size w' w'') : Kep3 gq g b w w'' :=
  ⟨hb.os.trans h.os, hb.tape.trans h.tape, hb.output.trans h.output, Nat.le_trans h.size hb.size, fun k hk h1 h2 h3 => (hb.block k hk).trans (h.block k hk h1 h2 h3)⟩
theorem own_kep {w w' : World} {g b base n size : Nat} {e : TypeId} {v : Value} {xs : List Value} (h : w.ownsRow base e size v n xs) (hk : Kept g b w w') (hg : g < base) (hb : b < base) : w'.ownsRow base e size v n xs := by
  obtain ⟨h1, h2 | ⟨g', cap, cur, hv, hb', hr, ho⟩⟩ := h
  · exact ⟨h1, .inl h2⟩
  · exact ⟨h1, .inr ⟨g', cap, cur, hv, hb', (hk.block g' (Array.getElem?_eq_some_iff.1 hr).1 (by omega) (by omega)).trans hr, ho⟩⟩
theorem getD_drop0 {l : List Rq} {j : Nat} (h : j < l.length) : l.drop j = l.getD j rq0 :: l.drop (j + 1) := by
  rw [List.drop_eq_getElem_cons h]; simp [List.getD, h]
set_option maxRecDepth 100000 in
set_option maxHeartbeats 2000000 in
theorem qTake {w : World} {B gq g b n cnt d : Nat} {L : List Rq} (h : QuS w B gq g b n cnt d L) (hB : B ≤ w.heap.size) (most : Int) (k : Nat) (hk : k = min most.toNat L.length) :
    Calls Try.prog 22 #[.pointer (some ⟨gq, 0, none⟩), .int .i64 most] w fun e w' => ∃ v, e = .returned v ∧ w'.ownsRow w.heap.size 123 5 v k (ql (L.take k)) ∧ QuS w' B gq g b n cnt d (L.drop k) ∧ Kep3 gq g b w w' := by
  obtain ⟨i0, hi, hz0, hz1, hz2⟩ := info_parts info_rq
  have hle := h.ring.le
  obtain ⟨z, hz⟩ : ∃ z, z = min most (L.length : Int) := ⟨_, rfl⟩
  have hmn := fun (w : World) => run_minI (P := Try.prog) #[3, 3] 3 .i64 most (L.length : Int) w
  rw [← hz] at hmn
  have hzk : z.toNat = k := by omega
  have hkL : k ≤ L.length := by omega
  have hzle : z ≤ (k : Int) := by omega
  have hz0' : 0 < k → z = (k : Int) := by omega
  have HZ := Lib.hid hz
  have HK := Lib.hid hk
  have H := Lib.hid h
  have hgw : g < w.heap.size := Nat.lt_of_lt_of_le h.hg hB
  have hbw : b < w.heap.size := Nat.lt_of_lt_of_le h.hb hB
  have hqw : gq < w.heap.size := Nat.lt_of_lt_of_le h.hq hB
  have hng := h.ng
  have hnb := h.nb
  clear h hz hk
  go_enter Try.func22, Try.ntmps22
  go_wp2_with fail
  go_at_call 24
  refine (qLen H.out).mono ?_
  rintro e w' ⟨rfl, rfl⟩
  go_wp2
  clear hmn
  go_loopw [5, 12] (fun v i wr => ∃ j : Nat, j ≤ k ∧ i = .int .i64 j ∧ wr.ownsRow w.heap.size 123 5 v j (ql (L.take j)) ∧ wr.heap[gq]? = some (.cells #[.pointer (some ⟨g, 0, none⟩), .int .u16 (cnt : Nat)] 125 (0, 0)) ∧ Ring wr g b n (L.drop j) d ∧ Kep3 gq g b w wr) (fun _ i _ => k - (intOf i).toNat)
  case atStart => exact ⟨0, Nat.zero_le _, rfl, World.ownsRow_nil _ _ _ _, H.out.box, H.out.ring, Kep3.refl _ _ _ _⟩
  case round =>
    obtain ⟨j, hj, rfl, hown, hbox, hring, hkep⟩ := hrel
    have hsr : w.heap.size ≤ wr.heap.size := hkep.size
    by_cases hlt : j < k
    · have hzz : (j : Int) < z := by omega
      have hsucc := takeq_succ L (show j < L.length by omega)
      have hdrop := getD_drop0 (show j < L.length by omega)
      obtain ⟨x, hx⟩ : ∃ x, x = L.getD j rq0 := ⟨_, rfl⟩
      rw [← hx] at hsucc hdrop
      rw [hdrop] at hring
      have p0 := cell_of_row wr gq 0 _ _ _ hbox
      have HS := Lib.hid hsucc
      have HO := Lib.hid hown
      have HR := Lib.hid hring
      have HKP := Lib.hid hkep
      have HBX := Lib.hid hbox
      clear hx hsucc hdrop hown hring hkep hbox
      go_wp2_with fail
      go_at_call 67
      refine (rPop_some HR.out).mono ?_
      rintro e w3 ⟨rfl, hr3, hk3⟩
      have hw3 : w.heap.size ≤ w3.heap.size := Nat.le_trans hsr hk3.size
      have HO3 := Lib.hid (own_kep HO.out hk3 hgw hbw)
      have hb3 : w3.heap[gq]? = _ := (hk3.block gq (box_lt HBX.out) hng hnb).trans HBX.out
      have HB3 := Lib.hid hb3
      have HKP3 := Lib.hid (HKP.out.trans (Kep3.of_kept hk3))
      have HR3 := Lib.hid hr3
      clear hr3 hk3 hb3 HR HKP HBX HO p0
      go_wp2_with (at_builtin; refine wpList_append_own _ rfl _ _ 50 rfl w.heap.size 123 i0 (.agg #[.int .u8 (rq0.s : Nat), .int .u8 (rq0.u : Nat), .int .u16 (rq0.c : Nat), .int .u32 (rq0.t : Nat), .slice rq0.a rq0.n rq0.cp]) 5 32 Try.underlying50 hi hz0 hz1 hz2 rfl (by decide) _ _ _ rfl ((HO3.out.alloc _).alloc _) ⟨w3.heap.size + 1, 0, none⟩ 1 1 x.cs rfl rfl ?_ ?_ ?_ ?_ ?_ ?_)
      · intro i u hu
        rw [Addr.add_mid]
        have := cell_of_row _ _ (0 + i) _ _ _ (heap_alloc2_new w3 (.cells #[.int .u8 (x.s : Nat), .int .u8 (x.u : Nat), .int .u16 (x.c : Nat), .int .u32 (x.t : Nat), .slice x.a x.n x.cp] 123) (.cells #[.int .u8 (x.s : Nat), .int .u8 (x.u : Nat), .int .u16 (x.c : Nat), .int .u32 (x.t : Nat), .slice x.a x.n x.cp] 123))
        rw [this, Nat.zero_add]
        exact (List.getElem?_toArray (xs := x.cs)).trans hu
      · simp [Rq.cs, Value.oneCell']
      · unfold maxLen; omega
      · omega
      · simp; omega
      intro v' w4 hown4 hgrow4 _
      rw [← HS.out] at hown4
      have hal : Below w.heap.size w3 ((w3.alloc (.cells #[.int .u8 (x.s : Nat), .int .u8 (x.u : Nat), .int .u16 (x.c : Nat), .int .u32 (x.t : Nat), .slice x.a x.n x.cp] 123)).alloc (.cells #[.int .u8 (x.s : Nat), .int .u8 (x.u : Nat), .int .u16 (x.c : Nat), .int .u32 (x.t : Nat), .slice x.a x.n x.cp] 123)) := ((Below.refl _ _).alloc hw3 _).alloc (by simp; omega) _
      have hb4 : Below w.heap.size w3 w4 := hal.grown hgrow4 (by simp; omega) (fun i hi => (HO3.out.lt i hi).1)
      have HO4 := Lib.hid hown4
      have HB4 := Lib.hid ((hb4.block gq hqw).trans HB3.out)
      have HR4 := Lib.hid (HR3.out.same (hb4.block g hgw) (hb4.block b hbw))
      have HKP4 := Lib.hid (HKP3.out.low hb4)
      clear hown4 hgrow4 hal hb4 HO3 HB3 HR3 HKP3
      go_wp2
      go_roundw
      case rel => exact ⟨j + 1, by omega, by go_num, HO4.out, HB4.out, HR4.out, HKP4.out⟩
      case measure => simp [intOf]; omega
    · obtain rfl : j = k := by omega
      have hzz : ¬ (j : Int) < z := by omega
      have HO := Lib.hid hown
      have HR := Lib.hid hring
      have HKP := Lib.hid hkep
      have HBX := Lib.hid hbox
      clear hown hring hkep hbox
      go_wp2
      go_ret
      have h := H.out
      exact ⟨_, rfl, HO.out, ⟨HBX.out, HR.out, h.ng, h.nb, h.hcnt, h.hg, h.hb, h.hq, fun r hr => (h.data r (List.mem_of_mem_drop hr)).kep HKP.out h.hq h.hg h.hb⟩, HKP.out⟩
/-- A report but for where its data lie. -/
def Rq.m (r : Rq) : Nat × Nat × Nat × Nat × List Nat := (r.s, r.u, r.c, r.t, r.d)
theorem own_lo {w : World} {base n size b i : Nat} {e : TypeId} {v x : Value} {xs : List Value} (h : w.ownsRow base e size v n xs) (hg : b < base) : (w.setCell ⟨b, i, none⟩ x).ownsRow base e size v n xs := by
  obtain ⟨h1, h2 | ⟨g', cap, cur, hv, hb', hr, ho⟩⟩ := h
  · exact ⟨h1, .inl h2⟩
  · exact ⟨h1, .inr ⟨g', cap, cur, hv, hb', (heap_setCell_other w ⟨b, i, none⟩ g' x (by show g' ≠ b; omega)).trans hr, ho⟩⟩
theorem own_base5 {w : World} {b b' n size : Nat} {e : TypeId} {v : Value} {xs : List Value} (h : w.ownsRow b e size v n xs) (hb : b' ≤ b) : w.ownsRow b' e size v n xs := World.ownsRow.mono h hb
/-- What All tells: reports of their own. -/
structure AllOf (w w' : World) (v : Value) (L Rs : List Rq) : Prop where
  same : Rs.map Rq.m = L.map Rq.m
  own : w'.ownsRow w.heap.size 123 5 v L.length (ql Rs)
  rows : ∀ r ∈ Rs, r.d.length = r.n ∧ w'.ownsRow w.heap.size 5 1 (.slice r.a r.n r.cp) r.n (bl r.d)
  be : Below w.heap.size w w'
set_option maxRecDepth 100000 in
set_option maxHeartbeats 2000000 in
theorem qAll {w : World} {B gq g b n cnt d : Nat} {L : List Rq} (h : QuS w B gq g b n cnt d L) :
    Calls Try.prog 27 #[.pointer (some ⟨gq, 0, none⟩)] w fun e w' => ∃ v Rs, e = .returned v ∧ AllOf w w' v L Rs := by
  obtain ⟨i0, hi, hz0, hz1, hz2⟩ := info_parts info_rq
  have hle := h.ring.le
  obtain ⟨k, hk⟩ : ∃ k, k = L.length := ⟨_, rfl⟩
  have hk4 : k ≤ 4096 := by omega
  have HK := Lib.hid hk
  have H := Lib.hid h
  clear h hk
  go_enter Try.func27, Try.ntmps27
  go_wp2_with fail
  go_at_call 24
  refine (qLen H.out).mono ?_
  rintro e w' ⟨rfl, rfl⟩
  rw [← HK.out]
  go_wp2
  go_loopw [3, 9] (fun v i wr => ∃ (j : Nat) (Rs : List Rq), j ≤ k ∧ i = .int .i64 j ∧ Rs.map Rq.m = (L.take j).map Rq.m ∧ wr.ownsRow w.heap.size 123 5 v j (ql Rs) ∧ (∀ r ∈ Rs, r.d.length = r.n ∧ wr.ownsRow w.heap.size 5 1 (.slice r.a r.n r.cp) r.n (bl r.d)) ∧ Below w.heap.size w wr) (fun _ i _ => k - (intOf i).toNat)
  case atStart => exact ⟨0, [], Nat.zero_le _, rfl, rfl, World.ownsRow_nil _ _ _ _, fun r hr => absurd hr (by simp), Below.refl _ _⟩
  case round =>
    obtain ⟨j, Rs, hj, rfl, hsame, hown, hrows, hB⟩ := hrel
    have hsr : w.heap.size ≤ wr.heap.size := hB.size
    by_cases hlt : j < k
    · have hjL : j < L.length := by rw [← HK.out]; exact hlt
      have hq := H.out.below hB (Nat.le_refl _)
      have p0 := hq.p0
      obtain ⟨x, hx⟩ : ∃ x, x = L.getD j rq0 := ⟨_, rfl⟩
      have hxm : x ∈ L := by rw [hx]; simp [List.getD, hjL]
      have hxok := hq.data x hxm
      have hsm : ∀ y : Rq, y.m = x.m → (Rs ++ [y]).map Rq.m = (L.take (j + 1)).map Rq.m := fun y hy => by
        rw [List.map_append, hsame, List.take_succ_eq_append_getElem hjL, List.map_append, List.map_singleton, List.map_singleton, hy, hx]
        simp [List.getD, hjL]
      have HSM := Lib.hid hsm
      have HQ := Lib.hid hq
      have HOK := Lib.hid hxok
      have HO := Lib.hid hown
      have HRS := Lib.hid hrows
      have HB := Lib.hid hB
      have HX := Lib.hid hx
      have HJL := Lib.hid hjL
      clear hx hxm hxok hq hsame hown hrows hB hsm hjL
      go_wp2_with fail
      go_at_call 72
      refine (rAt_some HQ.out.ring j HJL.out).mono ?_
      rintro e w3 ⟨rfl, hb3⟩
      rw [← HX.out]
      have hw3 : wr.heap.size ≤ w3.heap.size := hb3.size
      have hal : Below w3.heap.size w3 (w3.alloc (.cells #[.int .u8 (x.s : Nat), .int .u8 (x.u : Nat), .int .u16 (x.c : Nat), .int .u32 (x.t : Nat), .slice x.a x.n x.cp] 123)) := (Below.refl _ _).alloc (Nat.le_refl _) _
      have hbox := heap_alloc_new w3 (.cells #[.int .u8 (x.s : Nat), .int .u8 (x.u : Nat), .int .u16 (x.c : Nat), .int .u32 (x.t : Nat), .slice x.a x.n x.cp] 123)
      have hb4 := hb3.trans (hal.mono hw3)
      have hn4 : (w3.alloc (.cells #[.int .u8 (x.s : Nat), .int .u8 (x.u : Nat), .int .u16 (x.c : Nat), .int .u32 (x.t : Nat), .slice x.a x.n x.cp] 123)).heap.size = w3.heap.size + 1 := by simp
      clear p0
      go_wp2_with fail
      obtain ⟨w4, hw4⟩ : ∃ w4, w4 = w3.alloc (.cells #[.int .u8 (x.s : Nat), .int .u8 (x.u : Nat), .int .u16 (x.c : Nat), .int .u32 (x.t : Nat), .slice x.a x.n x.cp] 123) := ⟨_, rfl⟩
      obtain ⟨b5, hb5⟩ : ∃ b5, b5 = w3.heap.size := ⟨_, rfl⟩
      rw [← hw4] at hbox hb4 hn4
      rw [← hb5] at hbox hn4
      rw [← hw4, ← hb5]
      have hb5r : wr.heap.size ≤ b5 := by omega
      have HB4 := Lib.hid hb4
      have HBOX := Lib.hid hbox
      have hrd4 := (HOK.out.below hb4 (Nat.le_refl _)).rd
      have hn189 := HOK.out.le
      clear hw4 hb5 hal hb3 hbox hb4 hw3
      go_at_call 68
      refine (Clone_any x.a x.n x.cp w4.heap.size x.d w4 (Nat.le_refl _) HOK.out.len hrd4 (by omega)).mono ?_
      rintro e w5 ⟨y, rfl, hown5, hb45⟩
      obtain ⟨a9, c9, rfl⟩ := own_form hown5
      obtain ⟨x', hx'⟩ : ∃ x' : Rq, x' = ⟨x.s, x.u, x.c, x.t, a9, x.n, c9, x.d⟩ := ⟨_, rfl⟩
      have hbox5 := box_below HBOX.out hb45 (box_lt HBOX.out)
      have q0 := cell_of_row w5 b5 0 _ _ _ hbox5
      have q1 := cell_of_row w5 b5 1 _ _ _ hbox5
      have q2 := cell_of_row w5 b5 2 _ _ _ hbox5
      have q3 := cell_of_row w5 b5 3 _ _ _ hbox5
      have q4 := cell_of_row w5 b5 4 _ _ _ hbox5
      have f4 := frozen_of_row w5 b5 4 _ _ hbox5
      have hs5 : b5 < w5.heap.size := box_lt hbox5
      have hb5' : Below wr.heap.size wr (w5.setCell ⟨b5, 4, none⟩ (.slice a9 x.n c9)) := (HB4.out.trans (hb45.mono HB4.out.size)).setCell (p := ⟨b5, 4, none⟩) (by simpa using hb5r) _
      have hown6 := own_lo (b := b5) (i := 4) (x := .slice a9 x.n c9) hown5 (by omega)
      have HO6 := Lib.hid (own_base5 hown6 (b' := w.heap.size) (by omega))
      have HB6 := Lib.hid hb5'
      have HO := Lib.hid (own_below HO.out hb5' (Nat.le_refl _))
      have hsz6 : (w5.setCell ⟨b5, 4, none⟩ (.slice a9 x.n c9)).heap.size = w5.heap.size := by simp
      clear hown5 hb45 hbox5 hrd4 hb5' hown6 HB4 HBOX
      go_wp2_with (at_builtin; refine wpList_append_own _ rfl _ _ 50 rfl w.heap.size 123 i0 (.agg #[.int .u8 (rq0.s : Nat), .int .u8 (rq0.u : Nat), .int .u16 (rq0.c : Nat), .int .u32 (rq0.t : Nat), .slice rq0.a rq0.n rq0.cp]) 5 32 Try.underlying50 hi hz0 hz1 hz2 rfl (by decide) _ _ _ rfl (HO.out.alloc _) ⟨w5.heap.size, 0, none⟩ 1 1 x'.cs rfl rfl ?_ ?_ ?_ ?_ ?_ ?_)
      · intro i u hu
        have hnew := heap_alloc_new (w5.setCell ⟨b5, 4, none⟩ (.slice a9 x.n c9)) (.cells #[.int .u8 (x.s : Nat), .int .u8 (x.u : Nat), .int .u16 (x.c : Nat), .int .u32 (x.t : Nat), .slice a9 x.n c9] 123)
        rw [hsz6] at hnew
        rw [Addr.add_mid]
        have := cell_of_row _ _ (0 + i) _ _ _ hnew
        rw [this, Nat.zero_add]
        rw [hx'] at hu
        exact (List.getElem?_toArray (xs := (⟨x.s, x.u, x.c, x.t, a9, x.n, c9, x.d⟩ : Rq).cs)).trans hu
      · simp [Rq.cs, Value.oneCell']
      · unfold maxLen; omega
      · omega
      · simp; omega
      intro v' w7 hown7 hgrow7 _
      have hal7 : Below w.heap.size w ((w5.setCell ⟨b5, 4, none⟩ (.slice a9 x.n c9)).alloc (.cells #[.int .u8 (x.s : Nat), .int .u8 (x.u : Nat), .int .u16 (x.c : Nat), .int .u32 (x.t : Nat), .slice a9 x.n c9] 123)) := (HB.out.trans (HB6.out.mono hsr)).alloc (by rw [hsz6]; omega) _
      have hb7 : Below w.heap.size w w7 := hal7.grown hgrow7 hal7.size (fun i hi => (HO.out.lt i hi).1)
      have hrow7 : ∀ {v : Value} {m : Nat} {xs : List Value}, (w5.setCell ⟨b5, 4, none⟩ (.slice a9 x.n c9)).ownsRow w.heap.size 5 1 v m xs → w7.ownsRow w.heap.size 5 1 v m xs := fun hx => (hx.alloc _).kept hgrow7 (own_apart (hx.alloc _) (HO.out.alloc (.cells #[.int .u8 (x.s : Nat), .int .u8 (x.u : Nat), .int .u16 (x.c : Nat), .int .u32 (x.t : Nat), .slice a9 x.n c9] 123)) (by decide))
      have hrows7 : ∀ r ∈ Rs ++ [x'], r.d.length = r.n ∧ w7.ownsRow w.heap.size 5 1 (.slice r.a r.n r.cp) r.n (bl r.d) := fun r hr => by
        rcases List.mem_append.1 hr with h | h
        · exact ⟨(HRS.out r h).1, hrow7 (own_below (HRS.out r h).2 HB6.out (Nat.le_refl _))⟩
        · obtain rfl := List.mem_singleton.1 h
          subst hx'
          exact ⟨HOK.out.len, hrow7 HO6.out⟩
      have hsm7 := HSM.out x' (by rw [hx']; rfl)
      have hown7' : w7.ownsRow w.heap.size 123 5 v' (j + 1) (ql (Rs ++ [x'])) := by rw [ql_append, ql_one, hx']; exact hown7
      have H7a := Lib.hid hrows7
      have H7b := Lib.hid hsm7
      have H7c := Lib.hid hown7'
      have H7d := Lib.hid hb7
      clear hal7 hb7 hrow7 hrows7 hsm7 hown7' hown7 hgrow7 HO HO6 HB6 q0 q1 q2 q3 q4 f4 hsz6
      go_wp2
      go_roundw
      case rel => exact ⟨j + 1, Rs ++ [x'], by omega, by go_num, H7b.out, H7c.out, H7a.out, H7d.out⟩
      case measure => simp [intOf]; omega
    · obtain rfl : j = k := by omega
      have HO := Lib.hid hown
      have HS := Lib.hid hsame
      have HRS := Lib.hid hrows
      have HB := Lib.hid hB
      clear hown hsame hrows hB
      go_wp2
      go_ret
      exact ⟨_, Rs, rfl, ⟨by rw [HS.out, HK.out, List.take_length], by rw [← HK.out]; exact HO.out, HRS.out, HB.out⟩⟩
end Go.Proofs.Ytioclbkgfbjpdaa
