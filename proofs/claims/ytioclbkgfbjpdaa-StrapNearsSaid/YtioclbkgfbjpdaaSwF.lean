/- Layer 18: the document's Far, Near. -/
import Derived.Test.YtioclbkgfbjpdaaSwN
namespace Go.Proofs.Ytioclbkgfbjpdaa
open Go.RowKit Go.Own Bs
set_option linter.unusedVariables false
set_option linter.unusedSimpArgs false
set_option maxRecDepth 100000 in
set_option maxHeartbeats 8000000 in
theorem Far_any (c d : Nat → Int) (w : World) : Calls Try.prog 80 #[.agg #[.int .i8 (c 0), .int .i8 (c 1), .int .i8 (c 2), .int .i8 (c 3), .int .i8 (c 4), .int .i8 (c 5)], .agg #[.int .i8 (d 0), .int .i8 (d 1), .int .i8 (d 2), .int .i8 (d 3), .int .i8 (d 4), .int .i8 (d 5)]] w fun e w' => e = .returned (.int .i64 ((farN c d : Nat) : Int)) ∧ Below w.heap.size w w' := by
  have hq := ((Bq.nil w).new #[.int .i8 (c 0), .int .i8 (c 1), .int .i8 (c 2), .int .i8 (c 3), .int .i8 (c 4), .int .i8 (c 5)] 75).new #[.int .i8 (d 0), .int .i8 (d 1), .int .i8 (d 2), .int .i8 (d 3), .int .i8 (d 4), .int .i8 (d 5)] 75
  simp only [World.size_alloc] at hq
  go_enter Try.func80, Try.ntmps80
  go_upto_region 1 with fail
  obtain ⟨w1, hw1⟩ : ∃ w1, w1 = (w.alloc (.cells #[.int .i8 (c 0), .int .i8 (c 1), .int .i8 (c 2), .int .i8 (c 3), .int .i8 (c 4), .int .i8 (c 5)] 75)).alloc (.cells #[.int .i8 (d 0), .int .i8 (d 1), .int .i8 (d 2), .int .i8 (d 3), .int .i8 (d 4), .int .i8 (d 5)] 75) := ⟨_, rfl⟩
  obtain ⟨g1, hg1⟩ : ∃ b, b = w.heap.size + 1 := ⟨_, rfl⟩
  rw [← hw1, ← hg1] at hq
  rw [← hw1, ← hg1]
  obtain ⟨g0, hg0⟩ : ∃ b, b = w.heap.size := ⟨_, rfl⟩
  rw [show (Value.pointer (some ⟨w.heap.size, 0, none⟩)) = .pointer (some ⟨g0, 0, none⟩) by rw [hg0]]
  have HQ := Lib.hid (show Bq w w1 [(g0, #[.int .i8 (c 0), .int .i8 (c 1), .int .i8 (c 2), .int .i8 (c 3), .int .i8 (c 4), .int .i8 (c 5)], 75), (g1, #[.int .i8 (d 0), .int .i8 (d 1), .int .i8 (d 2), .int .i8 (d 3), .int .i8 (d 4), .int .i8 (d 5)], 75)] by rw [hg0]; exact hq)
  clear hw1 hg1 hg0 hq
  go_wp2_with fail
  go_loopw [5, 7] (fun v i wr => ∃ k : Nat, k ≤ 6 ∧ i = .int .i64 (k : Nat) ∧ v = .int .i64 (((difL c d k).length : Nat) : Int) ∧ Bq w wr [(g0, #[.int .i8 (c 0), .int .i8 (c 1), .int .i8 (c 2), .int .i8 (c 3), .int .i8 (c 4), .int .i8 (c 5)], 75), (g1, #[.int .i8 (d 0), .int .i8 (d 1), .int .i8 (d 2), .int .i8 (d 3), .int .i8 (d 4), .int .i8 (d 5)], 75)]) (fun _ i _ => 6 - (intOf i).toNat)
  case atStart => exact ⟨0, Nat.zero_le _, rfl, rfl, HQ.out⟩
  case round =>
    clear HQ
    obtain ⟨k, hk, rfl, rfl, hq⟩ := hrel
    have HQ := Lib.hid hq
    clear hq
    by_cases hlt : k < 6
    · have e1 := cell_of_row _ g0 k _ _ _ (HQ.out.of 0 rfl)
      rw [ch_cell c hlt] at e1
      have e2 := cell_of_row _ g1 k _ _ _ (HQ.out.of 1 rfl)
      rw [ch_cell d hlt] at e2
      have hsn := difL_snoc c d k
      have hdl := difL_len c d k
      obtain ⟨x, hx⟩ : ∃ x, c k = x := ⟨_, rfl⟩
      obtain ⟨y, hy⟩ : ∃ y, d k = y := ⟨_, rfl⟩
      rw [hx] at e1 hsn
      rw [hy] at e2 hsn
      have HQd := Lib.hid (fun n => HQ.out.step (bel_drewV wr n))
      obtain ⟨n, hn⟩ : ∃ n, (difL c d k).length = n := ⟨_, rfl⟩
      rw [hn] at hdl ⊢
      clear hx hy
      by_cases hxy : x = y
      · have HS := Lib.hid (show (difL c d (k + 1)).length = n by rw [hsn, if_neg (by simp [hxy]), hn])
        subst hxy
        have hne : (x != x) = false := by simp
        clear hsn hn
        go_upto_region 5 with fail
        go_quiet (fail)
        go_wp2_with fail
        go_roundw
        case rel => exact ⟨k + 1, by omega, by go_num, by rw [HS.out], HQd.out _⟩
        case measure => simp [intOf]; omega
      · have HS := Lib.hid (show (difL c d (k + 1)).length = n + 1 by rw [hsn, if_pos hxy, List.length_append, hn]; rfl)
        have hne : (x != y) = true := by simp [hxy]
        clear hsn hxy hn
        go_upto_region 5 with fail
        go_quiet (fail)
        go_wp2_with fail
        go_roundw
        case rel => exact ⟨k + 1, by omega, by go_num, by rw [HS.out]; go_num, HQd.out _⟩
        case measure => simp [intOf]; omega
    · obtain rfl : k = 6 := by omega
      go_wp2_with fail
      go_ret
      exact ⟨rfl, HQ.out.be⟩
set_option maxRecDepth 100000 in
set_option maxHeartbeats 8000000 in
theorem rNear_any (base : Nat) (a : Option Addr) (c bad : Nat) (l : List Nat) (lk : Nat → Nat) (nr : Nat → Int) (w : World) (hr : RowsO base w (.slice a l.length c) l) (hlk : ∀ i, lk i < 65536) (hbad : bad < 65536) (h6 : l.length ≤ 6) (hl : ∀ t ∈ l, t < 65536) :
    Calls Try.prog 40 #[.agg #[.slice a l.length c, .int .u16 ((lk 0 : Nat) : Int), .int .u16 ((lk 1 : Nat) : Int), .int .u16 ((lk 2 : Nat) : Int), .int .u16 ((lk 3 : Nat) : Int), .int .u16 ((lk 4 : Nat) : Int), .int .u16 ((lk 5 : Nat) : Int), .int .u16 ((lk 6 : Nat) : Int), .int .u16 ((lk 7 : Nat) : Int), .int .u16 ((lk 8 : Nat) : Int), .int .u16 ((lk 9 : Nat) : Int), .int .u16 ((lk 10 : Nat) : Int), .int .u16 ((lk 11 : Nat) : Int), .int .u16 ((lk 12 : Nat) : Int), .int .u16 ((lk 13 : Nat) : Int), .int .u16 ((lk 14 : Nat) : Int), .int .u16 ((lk 15 : Nat) : Int)], .agg #[.int .i8 (nr 0), .int .i8 (nr 1), .int .i8 (nr 2), .int .i8 (nr 3), .int .i8 (nr 4), .int .i8 (nr 5)], .int .u16 (bad : Nat)] w fun e w' => e = .returned (.tuple #[.agg #[.int .i8 ((bestF nr (DD l lk bad)).1 0), .int .i8 ((bestF nr (DD l lk bad)).1 1), .int .i8 ((bestF nr (DD l lk bad)).1 2), .int .i8 ((bestF nr (DD l lk bad)).1 3), .int .i8 ((bestF nr (DD l lk bad)).1 4), .int .i8 ((bestF nr (DD l lk bad)).1 5)], .bool (bestF nr (DD l lk bad)).2]) ∧ Below w.heap.size w w' := by
  have hz := zero_six
  have HR := Lib.hid hr
  have HLK := Lib.hid hlk
  have hq := (((Bq.nil w).new #[.slice a l.length c, .int .u16 ((lk 0 : Nat) : Int), .int .u16 ((lk 1 : Nat) : Int), .int .u16 ((lk 2 : Nat) : Int), .int .u16 ((lk 3 : Nat) : Int), .int .u16 ((lk 4 : Nat) : Int), .int .u16 ((lk 5 : Nat) : Int), .int .u16 ((lk 6 : Nat) : Int), .int .u16 ((lk 7 : Nat) : Int), .int .u16 ((lk 8 : Nat) : Int), .int .u16 ((lk 9 : Nat) : Int), .int .u16 ((lk 10 : Nat) : Int), .int .u16 ((lk 11 : Nat) : Int), .int .u16 ((lk 12 : Nat) : Int), .int .u16 ((lk 13 : Nat) : Int), .int .u16 ((lk 14 : Nat) : Int), .int .u16 ((lk 15 : Nat) : Int)] 69).new #[.int .i8 (nr 0), .int .i8 (nr 1), .int .i8 (nr 2), .int .i8 (nr 3), .int .i8 (nr 4), .int .i8 (nr 5)] 75).new (#[.int .i8 0, .int .i8 0, .int .i8 0, .int .i8 0, .int .i8 0, .int .i8 0] : Array Value) 75
  simp only [World.size_alloc] at hq
  clear hr hlk
  go_enter Try.func40, Try.ntmps40
  go_upto_region 1 with fail
  obtain ⟨w1, hw1⟩ : ∃ w1, w1 = ((w.alloc (.cells #[.slice a l.length c, .int .u16 ((lk 0 : Nat) : Int), .int .u16 ((lk 1 : Nat) : Int), .int .u16 ((lk 2 : Nat) : Int), .int .u16 ((lk 3 : Nat) : Int), .int .u16 ((lk 4 : Nat) : Int), .int .u16 ((lk 5 : Nat) : Int), .int .u16 ((lk 6 : Nat) : Int), .int .u16 ((lk 7 : Nat) : Int), .int .u16 ((lk 8 : Nat) : Int), .int .u16 ((lk 9 : Nat) : Int), .int .u16 ((lk 10 : Nat) : Int), .int .u16 ((lk 11 : Nat) : Int), .int .u16 ((lk 12 : Nat) : Int), .int .u16 ((lk 13 : Nat) : Int), .int .u16 ((lk 14 : Nat) : Int), .int .u16 ((lk 15 : Nat) : Int)] 69)).alloc (.cells #[.int .i8 (nr 0), .int .i8 (nr 1), .int .i8 (nr 2), .int .i8 (nr 3), .int .i8 (nr 4), .int .i8 (nr 5)] 75)).alloc (.cells (#[.int .i8 0, .int .i8 0, .int .i8 0, .int .i8 0, .int .i8 0, .int .i8 0] : Array Value) 75) := ⟨_, rfl⟩
  obtain ⟨g6, hg6⟩ : ∃ b, b = w.heap.size + 1 + 1 := ⟨_, rfl⟩
  obtain ⟨g4, hg4⟩ : ∃ b, b = w.heap.size + 1 := ⟨_, rfl⟩
  rw [← hw1, ← hg6, ← hg4] at hq
  rw [← hw1, ← hg6, ← hg4]
  obtain ⟨g3, hg3⟩ : ∃ b, b = w.heap.size := ⟨_, rfl⟩
  rw [show (Value.pointer (some ⟨w.heap.size, 0, none⟩)) = .pointer (some ⟨g3, 0, none⟩) by rw [hg3]]
  have HQ1 := Lib.hid (show Bq w w1 [(g3, #[.slice a l.length c, .int .u16 ((lk 0 : Nat) : Int), .int .u16 ((lk 1 : Nat) : Int), .int .u16 ((lk 2 : Nat) : Int), .int .u16 ((lk 3 : Nat) : Int), .int .u16 ((lk 4 : Nat) : Int), .int .u16 ((lk 5 : Nat) : Int), .int .u16 ((lk 6 : Nat) : Int), .int .u16 ((lk 7 : Nat) : Int), .int .u16 ((lk 8 : Nat) : Int), .int .u16 ((lk 9 : Nat) : Int), .int .u16 ((lk 10 : Nat) : Int), .int .u16 ((lk 11 : Nat) : Int), .int .u16 ((lk 12 : Nat) : Int), .int .u16 ((lk 13 : Nat) : Int), .int .u16 ((lk 14 : Nat) : Int), .int .u16 ((lk 15 : Nat) : Int)], 69), (g4, #[.int .i8 (nr 0), .int .i8 (nr 1), .int .i8 (nr 2), .int .i8 (nr 3), .int .i8 (nr 4), .int .i8 (nr 5)], 75), (g6, (#[.int .i8 0, .int .i8 0, .int .i8 0, .int .i8 0, .int .i8 0, .int .i8 0] : Array Value), 75)] by rw [hg3]; exact hq)
  clear hw1 hg6 hg4 hg3 hq
  go_wp2_with fail
  go_at_call 75
  refine (rNone_any w1).mono ?_
  rintro e w2 ⟨rfl, hb⟩
  have HQ2 := Lib.hid (HQ1.out.step hb)
  have hqn := HQ2.out.new #[.int .i8 (noneC 0), .int .i8 (noneC 1), .int .i8 (noneC 2), .int .i8 (noneC 3), .int .i8 (noneC 4), .int .i8 (noneC 5)] 75
  clear hb HQ1
  go_upto_region 2 with ((with_reducible show wpList _ _ _ (_ :: _) _ _); refine wpList_store_row rfl 75 _ _ rfl _ _ rfl rfl _ _ (heap_alloc_new _ _) (by exact size_six) (by rfl) (by simp [Value.oneCell']) ?_; rw [World.setRow_alloc_new])
  obtain ⟨w3, hw3⟩ : ∃ w3, w3 = w2.alloc (.cells #[.int .i8 (noneC 0), .int .i8 (noneC 1), .int .i8 (noneC 2), .int .i8 (noneC 3), .int .i8 (noneC 4), .int .i8 (noneC 5)] 75) := ⟨_, rfl⟩
  obtain ⟨g8, hg8⟩ : ∃ g, g = w2.heap.size := ⟨_, rfl⟩
  rw [← hw3, ← hg8] at hqn
  rw [← hw3, ← hg8]
  have HQ3 := Lib.hid hqn
  clear hw3 hg8 hqn HQ2
  have b3 := HQ3.out.of 0 rfl
  (try simp only [Act.put])
  go_wp2_with ((with_reducible show wpList _ _ _ (_ :: _) _ _); refine wpList_load_row rfl 69 _ rfl _ rfl _ _ _ _ b3 Try.underlying69 rfl (by exact size_rm) ?_; (try go_simp))
  go_at_call 31
  refine (All_is base a c bad l lk w3 (HR.out.kept HQ3.out.be) HLK.out hbad h6 hl).mono ?_
  rintro e w4 ⟨vA, rfl, hoA, hb⟩
  have hmem := fun x => @DD_mem l lk bad x
  obtain ⟨D, hD⟩ : ∃ D, DD l lk bad = D := ⟨_, rfl⟩
  rw [hD] at hoA hmem
  have hDl : D.length ≤ 16777216 := by rw [← hD, ← findR_n l lk noneC bad]; exact findR_le l lk noneC bad h6
  have HD := Lib.hid hD
  obtain ⟨aA, cA, rfl⟩ := own_formC hoA
  have HOA := Lib.hid hoA
  have HMEM := Lib.hid hmem
  have HQ4 := Lib.hid (HQ3.out.step hb)
  have hs3 : w.heap.size ≤ w3.heap.size := HQ3.out.be.size
  clear b3 hb hoA hmem hD
  go_wp2_with fail
  go_loopw [9, 17] (fun v i wr => ∃ m : Nat, m ≤ D.length ∧ i = .int .i64 (m : Nat) ∧ v = .bool (bestF nr (D.take m)).2 ∧ Bq w wr [(g3, #[.slice a l.length c, .int .u16 ((lk 0 : Nat) : Int), .int .u16 ((lk 1 : Nat) : Int), .int .u16 ((lk 2 : Nat) : Int), .int .u16 ((lk 3 : Nat) : Int), .int .u16 ((lk 4 : Nat) : Int), .int .u16 ((lk 5 : Nat) : Int), .int .u16 ((lk 6 : Nat) : Int), .int .u16 ((lk 7 : Nat) : Int), .int .u16 ((lk 8 : Nat) : Int), .int .u16 ((lk 9 : Nat) : Int), .int .u16 ((lk 10 : Nat) : Int), .int .u16 ((lk 11 : Nat) : Int), .int .u16 ((lk 12 : Nat) : Int), .int .u16 ((lk 13 : Nat) : Int), .int .u16 ((lk 14 : Nat) : Int), .int .u16 ((lk 15 : Nat) : Int)], 69), (g4, #[.int .i8 (nr 0), .int .i8 (nr 1), .int .i8 (nr 2), .int .i8 (nr 3), .int .i8 (nr 4), .int .i8 (nr 5)], 75), (g6, (#[.int .i8 0, .int .i8 0, .int .i8 0, .int .i8 0, .int .i8 0, .int .i8 0] : Array Value), 75), (g8, #[.int .i8 ((bestF nr (D.take m)).1 0), .int .i8 ((bestF nr (D.take m)).1 1), .int .i8 ((bestF nr (D.take m)).1 2), .int .i8 ((bestF nr (D.take m)).1 3), .int .i8 ((bestF nr (D.take m)).1 4), .int .i8 ((bestF nr (D.take m)).1 5)], 75)] ∧ wr.ownsRow w3.heap.size 75 6 (.slice aA D.length cA) D.length (cl D)) (fun _ i _ => D.length - (intOf i).toNat)
  case atStart => exact ⟨0, Nat.zero_le _, rfl, rfl, HQ4.out, HOA.out⟩
  case round =>
    clear HQ4 HOA
    obtain ⟨m, hm, rfl, rfl, hq, ho⟩ := hrel
    by_cases hml : m < D.length
    · obtain ⟨g, rfl, hgb, hgw, hrg⟩ := own_rangeC ho rfl hml
      have hxm : D.getD m [] ∈ D := by rw [List.getD, List.getElem?_eq_getElem hml]; exact List.getElem_mem _
      have hsn := bestF_snoc nr (D.take m) (D.getD m [])
      have hd : D.take m ++ [D.getD m []] = D.take (m + 1) := by
        rw [List.take_add_one, List.getElem?_eq_getElem hml]
        simp [List.getD, hml]
      rw [hd] at hsn
      obtain ⟨x, hx⟩ : ∃ x, D.getD m [] = x := ⟨_, rfl⟩
      rw [hx] at hrg hsn
      obtain ⟨pb, po, hp⟩ : ∃ pb po, bestF nr (D.take m) = (pb, po) := ⟨_, _, rfl⟩
      rw [hp] at hsn hq ⊢
      dsimp only at hq ⊢
      have HS := Lib.hid hsn
      have hg8l : g8 < w3.heap.size := box_lt (HQ3.out.of 3 rfl)
      have HQ := Lib.hid hq
      have HO := Lib.hid ho
      have hqn := hq.new #[.int .i8 ((chainC x) 0), .int .i8 ((chainC x) 1), .int .i8 ((chainC x) 2), .int .i8 ((chainC x) 3), .int .i8 ((chainC x) 4), .int .i8 ((chainC x) 5)] 75
      have hal := (Below.refl wr.heap.size wr).alloc (Nat.le_refl _) (.cells #[.int .i8 ((chainC x) 0), .int .i8 ((chainC x) 1), .int .i8 ((chainC x) 2), .int .i8 ((chainC x) 3), .int .i8 ((chainC x) 4), .int .i8 ((chainC x) 5)] 75)
      have hon := own_keepZ ho hal
      clear hsn hq ho hd hx hxm hgb hgw hp
      go_upto_region 5 with (first | ((with_reducible show wpList _ _ _ (_ :: _) _ _); refine wpList_load_mid rfl 75 _ rfl _ (m * 6) rfl (chl (chainC x)) _ hrg Try.underlying75 rfl size_six ?_; rw [show (chl (chainC x)).toArray = #[.int .i8 ((chainC x) 0), .int .i8 ((chainC x) 1), .int .i8 ((chainC x) 2), .int .i8 ((chainC x) 3), .int .i8 ((chainC x) 4), .int .i8 ((chainC x) 5)] from rfl]; (try go_simp)) | ((with_reducible show wpList _ _ _ (_ :: _) _ _); refine wpList_store_row rfl 75 _ _ rfl _ _ rfl rfl _ _ (heap_alloc_new _ _) (by exact size_six) (by rfl) (by simp [Value.oneCell']) ?_; rw [World.setRow_alloc_new]))
      obtain ⟨w5, hw5⟩ : ∃ w5, w5 = wr.alloc (.cells #[.int .i8 ((chainC x) 0), .int .i8 ((chainC x) 1), .int .i8 ((chainC x) 2), .int .i8 ((chainC x) 3), .int .i8 ((chainC x) 4), .int .i8 ((chainC x) 5)] 75) := ⟨_, rfl⟩
      obtain ⟨gx, hgx⟩ : ∃ g, g = wr.heap.size := ⟨_, rfl⟩
      rw [← hw5] at hqn hon ⊢
      rw [← hgx] at hqn ⊢
      have HQ5 := Lib.hid hqn
      have HO5 := Lib.hid hon
      clear hw5 hgx hqn hal hon hrg HQ HO
      (try simp only [Act.put])
      cases po
      · have hst : bestS nr (pb, false) x = (chainC x, true) := by unfold bestS; rw [if_pos (.inl rfl)]
        have HT := Lib.hid (HS.out.trans hst)
        have HQd := Lib.hid (fun n => HQ5.out.step (bel_drewV w5 n))
        have HOd := Lib.hid (fun n => own_keepZ HO5.out (bel_drewV w5 n))
        clear hst
        go_quiet (fail)
        obtain ⟨w6, hw6⟩ : ∃ w6, w6 = w5.drewN nq := ⟨_, rfl⟩
        have HQ6 := Lib.hid (HQd.out nq)
        have HO6 := Lib.hid (HOd.out nq)
        rw [← hw6] at HQ6 HO6 ⊢
        clear hw6 HQd HOd HQ5 HO5
        skip
        have bx := HQ6.out.of 4 rfl
        have b8 := HQ6.out.of 3 rfl
        have HQ7 := Lib.hid (HQ6.out.put 3 rfl #[.int .i8 ((chainC x) 0), .int .i8 ((chainC x) 1), .int .i8 ((chainC x) 2), .int .i8 ((chainC x) 3), .int .i8 ((chainC x) 4), .int .i8 ((chainC x) 5)])
        have HO7 := Lib.hid (HO6.out.kept (grown_rowS w6 g8 #[.int .i8 ((chainC x) 0), .int .i8 ((chainC x) 1), .int .i8 ((chainC x) 2), .int .i8 ((chainC x) 3), .int .i8 ((chainC x) 4), .int .i8 ((chainC x) 5)]) (by rcases hob : (Value.slice (some ⟨g, 0, none⟩) D.length cA).ownBlock with _ | k; exact .inl rfl; refine .inr (fun h => ?_); have := (HO6.out.lt k hob).1; injection h with h; omega))
        go_wp2_with (first | ((with_reducible show wpList _ _ _ (_ :: _) _ _); refine wpList_load_row rfl 75 _ rfl _ rfl _ _ _ _ bx Try.underlying75 rfl (by exact size_six) ?_; (try go_simp)) | ((with_reducible show wpList _ _ _ (_ :: _) _ _); refine wpList_store_row rfl 75 _ _ rfl _ _ rfl rfl _ _ b8 (by exact size_six) (by rfl) (by simp [Value.oneCell']) ?_))
        go_roundw
        case rel => exact ⟨m + 1, by omega, by go_num, by rw [HT.out], by rw [HT.out]; exact Bq.front (bs := [(g3, #[.slice a l.length c, .int .u16 ((lk 0 : Nat) : Int), .int .u16 ((lk 1 : Nat) : Int), .int .u16 ((lk 2 : Nat) : Int), .int .u16 ((lk 3 : Nat) : Int), .int .u16 ((lk 4 : Nat) : Int), .int .u16 ((lk 5 : Nat) : Int), .int .u16 ((lk 6 : Nat) : Int), .int .u16 ((lk 7 : Nat) : Int), .int .u16 ((lk 8 : Nat) : Int), .int .u16 ((lk 9 : Nat) : Int), .int .u16 ((lk 10 : Nat) : Int), .int .u16 ((lk 11 : Nat) : Int), .int .u16 ((lk 12 : Nat) : Int), .int .u16 ((lk 13 : Nat) : Int), .int .u16 ((lk 14 : Nat) : Int), .int .u16 ((lk 15 : Nat) : Int)], 69), (g4, #[.int .i8 (nr 0), .int .i8 (nr 1), .int .i8 (nr 2), .int .i8 (nr 3), .int .i8 (nr 4), .int .i8 (nr 5)], 75), (g6, (#[.int .i8 0, .int .i8 0, .int .i8 0, .int .i8 0, .int .i8 0, .int .i8 0] : Array Value), 75), (g8, #[.int .i8 ((chainC x) 0), .int .i8 ((chainC x) 1), .int .i8 ((chainC x) 2), .int .i8 ((chainC x) 3), .int .i8 ((chainC x) 4), .int .i8 ((chainC x) 5)], 75)]) (cs := [(gx, #[.int .i8 ((chainC x) 0), .int .i8 ((chainC x) 1), .int .i8 ((chainC x) 2), .int .i8 ((chainC x) 3), .int .i8 ((chainC x) 4), .int .i8 ((chainC x) 5)], 75)]) HQ7.out, HO7.out⟩
        case measure => simp [intOf]; omega
      · obtain ⟨f1, hf1⟩ : ∃ f1, farN (chainC x) nr = f1 := ⟨_, rfl⟩
        obtain ⟨f2, hf2⟩ : ∃ f2, farN pb nr = f2 := ⟨_, rfl⟩
        have hst : bestS nr (pb, true) x = if f1 < f2 then (chainC x, true) else (pb, true) := by
          unfold bestS
          rw [hf1, hf2]
          by_cases h : f1 < f2
          · rw [if_pos (.inr h), if_pos h]
          · rw [if_neg (by rintro (h' | h'); cases h'; exact h h'), if_neg h]
        have F1 := Lib.hid hf1
        have F2 := Lib.hid hf2
        have zx := box_lt (HQ5.out.of 4 rfl)
        have z4 := box_lt (HQ5.out.of 1 rfl)
        have z8 := box_lt (HQ5.out.of 3 rfl)
        clear hf1 hf2
        by_cases hlt : f1 < f2
        · rw [if_pos hlt] at hst
          have HT := Lib.hid (HS.out.trans hst)
          have hc1 : decide ((f1 : Int) < (f2 : Int)) = true := decide_eq_true (by omega)
          clear hst
          skip
          obtain ⟨I, W, hne, hWI, hIW⟩ := Go.Mix.family (fun v => Below w5.heap.size w5 v) (Below.refl _ _)
          have HJ := Lib.hid hIW
          have HW := Lib.hid hWI
          clear hWI hIW
          refine Go.Flo3.wp_region (fun w' => ∃ i, w' = W i) 11 [Go.Flo.Spec.is (.int .i64 ((f1 : Nat) : Int)), Go.Flo.Spec.is (.int .i64 ((f2 : Nat) : Int))] (by kernel_rfl) (by kernel_rfl) (by decide) (by rintro _ w' ⟨i, rfl⟩ hb; exact HJ.out _ ((HW.out i).trans (hb.mono (HW.out i).size))) (HJ.out _ (Below.refl _ _).drew) ?_
          simp only [Go.Flo.pair, Go.Mix.calm, List.take, List.drop, if_true, Bool.false_eq_true, if_false, Nat.reduceAdd, Nat.reduceSub]
          (repeat (first | (refine Go.Flo.fw_calm rfl ?_ (fun K hK => ?_); (first | exact Go.Mix.wanted_none rfl | exact Go.Mix.wanted_tt rfl rfl rfl | exact Go.Mix.wanted_ff rfl rfl rfl); go_big_quiet_op; refine hK _ ?_; clear hK K) | (refine Go.Flo.fw_skip ?_ (fun K hK => ?_); (first | exact Go.Mix.wanted_tf rfl rfl rfl | exact Go.Mix.wanted_ft rfl rfl rfl); go_simp; refine hK _ ?_; clear hK K) | (refine Go.Flo.fw_any rfl ?_ (fun K hK => ?_); (first | exact Go.Mix.wanted_none rfl | exact Go.Mix.wanted_tt rfl rfl rfl | exact Go.Mix.wanted_ff rfl rfl rfl); go_simp; (try (go_ints; try go_simp)); refine hK _ ?_; clear hK K)))
          (refine Go.Flo.fw_calm rfl ?_ (fun K hK => ?_); (first | exact Go.Mix.wanted_none rfl | exact Go.Mix.wanted_tt rfl rfl rfl | exact Go.Mix.wanted_ff rfl rfl rfl); refine Go.Flo.quiet_load_row 75 _ rfl gx rfl _ #[.int .i8 ((chainC x) 0), .int .i8 ((chainC x) 1), .int .i8 ((chainC x) 2), .int .i8 ((chainC x) 3), .int .i8 ((chainC x) 4), .int .i8 ((chainC x) 5)] _ (by rintro _ ⟨i, rfl⟩; exact ((HW.out i).block gx zx).trans (HQ5.out.of 4 rfl)) Try.underlying75 rfl size_six ?_; go_simp; refine hK _ ?_; clear hK K)
          (refine Go.Flo.fw_calm rfl ?_ (fun K hK => ?_); (first | exact Go.Mix.wanted_none rfl | exact Go.Mix.wanted_tt rfl rfl rfl | exact Go.Mix.wanted_ff rfl rfl rfl); refine Go.Flo.quiet_load_row 75 _ rfl g4 rfl _ #[.int .i8 (nr 0), .int .i8 (nr 1), .int .i8 (nr 2), .int .i8 (nr 3), .int .i8 (nr 4), .int .i8 (nr 5)] _ (by rintro _ ⟨i, rfl⟩; exact ((HW.out i).block g4 z4).trans (HQ5.out.of 1 rfl)) Try.underlying75 rfl size_six ?_; go_simp; refine hK _ ?_; clear hK K)
          refine Go.Flo.fw_loud rfl ?_ rfl (by simp) (fun wv hwv hav K hK => ?_) (fun v hv K hK => ?_)
          · (first | exact Go.Mix.wanted_none rfl | exact Go.Mix.wanted_tt rfl rfl rfl | exact Go.Mix.wanted_ff rfl rfl rfl)
          · obtain ⟨iv, rfl⟩ := hwv
            have hbv := HW.out iv
            (first | go_big_op | go_simp)
            go_at_call 80
            refine (Far_any (chainC x) nr _).mono ?_
            rintro e w' ⟨rfl, hb⟩
            rw [F1.out]
            exact hK _ _ (Go.Flo.owes_is _ rfl hb)
          obtain rfl := hv.is
          go_simp
          refine hK _ ?_
          clear hK K hv
          (refine Go.Flo.fw_calm rfl ?_ (fun K hK => ?_); (first | exact Go.Mix.wanted_none rfl | exact Go.Mix.wanted_tt rfl rfl rfl | exact Go.Mix.wanted_ff rfl rfl rfl); refine Go.Flo.quiet_load_row 75 _ rfl g8 rfl _ #[.int .i8 (pb 0), .int .i8 (pb 1), .int .i8 (pb 2), .int .i8 (pb 3), .int .i8 (pb 4), .int .i8 (pb 5)] _ (by rintro _ ⟨i, rfl⟩; exact ((HW.out i).block g8 z8).trans (HQ5.out.of 3 rfl)) Try.underlying75 rfl size_six ?_; go_simp; refine hK _ ?_; clear hK K)
          (refine Go.Flo.fw_calm rfl ?_ (fun K hK => ?_); (first | exact Go.Mix.wanted_none rfl | exact Go.Mix.wanted_tt rfl rfl rfl | exact Go.Mix.wanted_ff rfl rfl rfl); refine Go.Flo.quiet_load_row 75 _ rfl g4 rfl _ #[.int .i8 (nr 0), .int .i8 (nr 1), .int .i8 (nr 2), .int .i8 (nr 3), .int .i8 (nr 4), .int .i8 (nr 5)] _ (by rintro _ ⟨i, rfl⟩; exact ((HW.out i).block g4 z4).trans (HQ5.out.of 1 rfl)) Try.underlying75 rfl size_six ?_; go_simp; refine hK _ ?_; clear hK K)
          refine Go.Flo.fw_loud rfl ?_ rfl (by simp) (fun wv hwv hav K hK => ?_) (fun v hv K hK => ?_)
          · (first | exact Go.Mix.wanted_none rfl | exact Go.Mix.wanted_tt rfl rfl rfl | exact Go.Mix.wanted_ff rfl rfl rfl)
          · obtain ⟨iv, rfl⟩ := hwv
            have hbv := HW.out iv
            (first | go_big_op | go_simp)
            go_at_call 80
            refine (Far_any pb nr _).mono ?_
            rintro e w' ⟨rfl, hb⟩
            rw [F2.out]
            exact hK _ _ (Go.Flo.owes_is _ rfl hb)
          obtain rfl := hv.is
          go_simp
          refine hK _ ?_
          clear hK K hv
          (repeat (first | (refine Go.Flo.fw_calm rfl ?_ (fun K hK => ?_); (first | exact Go.Mix.wanted_none rfl | exact Go.Mix.wanted_tt rfl rfl rfl | exact Go.Mix.wanted_ff rfl rfl rfl); go_big_quiet_op; refine hK _ ?_; clear hK K) | (refine Go.Flo.fw_skip ?_ (fun K hK => ?_); (first | exact Go.Mix.wanted_tf rfl rfl rfl | exact Go.Mix.wanted_ft rfl rfl rfl); go_simp; refine hK _ ?_; clear hK K) | (refine Go.Flo.fw_any rfl ?_ (fun K hK => ?_); (first | exact Go.Mix.wanted_none rfl | exact Go.Mix.wanted_tt rfl rfl rfl | exact Go.Mix.wanted_ff rfl rfl rfl); go_simp; (try (go_ints; try go_simp)); refine hK _ ?_; clear hK K)))
          refine Go.Flo.fw_nil ?_
          intro w6 hww6 hfw6 huw6
          obtain ⟨iend, hiend⟩ := hww6
          have hbw6 := HW.out iend
          rw [← hiend] at hbw6
          clear hiend iend huw6
          have HQ6 := Lib.hid (HQ5.out.step hbw6)
          have HO6 := Lib.hid (own_keepZ HO5.out hbw6)
          clear hfw6 HJ HW hne hbw6 zx z4 z8 HQ5 HO5
          clear W I
          refine ⟨fun _ => True, trivial, ?_⟩

          refine Go.Mix.walk_nil ?_
          (try simp only [Act.put])
          skip
          have bx := HQ6.out.of 4 rfl
          have b8 := HQ6.out.of 3 rfl
          have HQ7 := Lib.hid (HQ6.out.put 3 rfl #[.int .i8 ((chainC x) 0), .int .i8 ((chainC x) 1), .int .i8 ((chainC x) 2), .int .i8 ((chainC x) 3), .int .i8 ((chainC x) 4), .int .i8 ((chainC x) 5)])
          have HO7 := Lib.hid (HO6.out.kept (grown_rowS w6 g8 #[.int .i8 ((chainC x) 0), .int .i8 ((chainC x) 1), .int .i8 ((chainC x) 2), .int .i8 ((chainC x) 3), .int .i8 ((chainC x) 4), .int .i8 ((chainC x) 5)]) (by rcases hob : (Value.slice (some ⟨g, 0, none⟩) D.length cA).ownBlock with _ | k; exact .inl rfl; refine .inr (fun h => ?_); have := (HO6.out.lt k hob).1; injection h with h; omega))
          go_wp2_with (first | ((with_reducible show wpList _ _ _ (_ :: _) _ _); refine wpList_load_row rfl 75 _ rfl _ rfl _ _ _ _ bx Try.underlying75 rfl (by exact size_six) ?_; (try go_simp)) | ((with_reducible show wpList _ _ _ (_ :: _) _ _); refine wpList_store_row rfl 75 _ _ rfl _ _ rfl rfl _ _ b8 (by exact size_six) (by rfl) (by simp [Value.oneCell']) ?_))
          go_roundw
          case rel => exact ⟨m + 1, by omega, by go_num, by rw [HT.out], by rw [HT.out]; exact Bq.front (bs := [(g3, #[.slice a l.length c, .int .u16 ((lk 0 : Nat) : Int), .int .u16 ((lk 1 : Nat) : Int), .int .u16 ((lk 2 : Nat) : Int), .int .u16 ((lk 3 : Nat) : Int), .int .u16 ((lk 4 : Nat) : Int), .int .u16 ((lk 5 : Nat) : Int), .int .u16 ((lk 6 : Nat) : Int), .int .u16 ((lk 7 : Nat) : Int), .int .u16 ((lk 8 : Nat) : Int), .int .u16 ((lk 9 : Nat) : Int), .int .u16 ((lk 10 : Nat) : Int), .int .u16 ((lk 11 : Nat) : Int), .int .u16 ((lk 12 : Nat) : Int), .int .u16 ((lk 13 : Nat) : Int), .int .u16 ((lk 14 : Nat) : Int), .int .u16 ((lk 15 : Nat) : Int)], 69), (g4, #[.int .i8 (nr 0), .int .i8 (nr 1), .int .i8 (nr 2), .int .i8 (nr 3), .int .i8 (nr 4), .int .i8 (nr 5)], 75), (g6, (#[.int .i8 0, .int .i8 0, .int .i8 0, .int .i8 0, .int .i8 0, .int .i8 0] : Array Value), 75), (g8, #[.int .i8 ((chainC x) 0), .int .i8 ((chainC x) 1), .int .i8 ((chainC x) 2), .int .i8 ((chainC x) 3), .int .i8 ((chainC x) 4), .int .i8 ((chainC x) 5)], 75)]) (cs := [(gx, #[.int .i8 ((chainC x) 0), .int .i8 ((chainC x) 1), .int .i8 ((chainC x) 2), .int .i8 ((chainC x) 3), .int .i8 ((chainC x) 4), .int .i8 ((chainC x) 5)], 75)]) HQ7.out, HO7.out⟩
          case measure => simp [intOf]; omega
        · rw [if_neg hlt] at hst
          have HT := Lib.hid (HS.out.trans hst)
          have hc1 : decide ((f1 : Int) < (f2 : Int)) = false := decide_eq_false (by omega)
          clear hst
          skip
          obtain ⟨I, W, hne, hWI, hIW⟩ := Go.Mix.family (fun v => Below w5.heap.size w5 v) (Below.refl _ _)
          have HJ := Lib.hid hIW
          have HW := Lib.hid hWI
          clear hWI hIW
          refine Go.Flo3.wp_region (fun w' => ∃ i, w' = W i) 11 [Go.Flo.Spec.is (.int .i64 ((f1 : Nat) : Int)), Go.Flo.Spec.is (.int .i64 ((f2 : Nat) : Int))] (by kernel_rfl) (by kernel_rfl) (by decide) (by rintro _ w' ⟨i, rfl⟩ hb; exact HJ.out _ ((HW.out i).trans (hb.mono (HW.out i).size))) (HJ.out _ (Below.refl _ _).drew) ?_
          simp only [Go.Flo.pair, Go.Mix.calm, List.take, List.drop, if_true, Bool.false_eq_true, if_false, Nat.reduceAdd, Nat.reduceSub]
          (repeat (first | (refine Go.Flo.fw_calm rfl ?_ (fun K hK => ?_); (first | exact Go.Mix.wanted_none rfl | exact Go.Mix.wanted_tt rfl rfl rfl | exact Go.Mix.wanted_ff rfl rfl rfl); go_big_quiet_op; refine hK _ ?_; clear hK K) | (refine Go.Flo.fw_skip ?_ (fun K hK => ?_); (first | exact Go.Mix.wanted_tf rfl rfl rfl | exact Go.Mix.wanted_ft rfl rfl rfl); go_simp; refine hK _ ?_; clear hK K) | (refine Go.Flo.fw_any rfl ?_ (fun K hK => ?_); (first | exact Go.Mix.wanted_none rfl | exact Go.Mix.wanted_tt rfl rfl rfl | exact Go.Mix.wanted_ff rfl rfl rfl); go_simp; (try (go_ints; try go_simp)); refine hK _ ?_; clear hK K)))
          (refine Go.Flo.fw_calm rfl ?_ (fun K hK => ?_); (first | exact Go.Mix.wanted_none rfl | exact Go.Mix.wanted_tt rfl rfl rfl | exact Go.Mix.wanted_ff rfl rfl rfl); refine Go.Flo.quiet_load_row 75 _ rfl gx rfl _ #[.int .i8 ((chainC x) 0), .int .i8 ((chainC x) 1), .int .i8 ((chainC x) 2), .int .i8 ((chainC x) 3), .int .i8 ((chainC x) 4), .int .i8 ((chainC x) 5)] _ (by rintro _ ⟨i, rfl⟩; exact ((HW.out i).block gx zx).trans (HQ5.out.of 4 rfl)) Try.underlying75 rfl size_six ?_; go_simp; refine hK _ ?_; clear hK K)
          (refine Go.Flo.fw_calm rfl ?_ (fun K hK => ?_); (first | exact Go.Mix.wanted_none rfl | exact Go.Mix.wanted_tt rfl rfl rfl | exact Go.Mix.wanted_ff rfl rfl rfl); refine Go.Flo.quiet_load_row 75 _ rfl g4 rfl _ #[.int .i8 (nr 0), .int .i8 (nr 1), .int .i8 (nr 2), .int .i8 (nr 3), .int .i8 (nr 4), .int .i8 (nr 5)] _ (by rintro _ ⟨i, rfl⟩; exact ((HW.out i).block g4 z4).trans (HQ5.out.of 1 rfl)) Try.underlying75 rfl size_six ?_; go_simp; refine hK _ ?_; clear hK K)
          refine Go.Flo.fw_loud rfl ?_ rfl (by simp) (fun wv hwv hav K hK => ?_) (fun v hv K hK => ?_)
          · (first | exact Go.Mix.wanted_none rfl | exact Go.Mix.wanted_tt rfl rfl rfl | exact Go.Mix.wanted_ff rfl rfl rfl)
          · obtain ⟨iv, rfl⟩ := hwv
            have hbv := HW.out iv
            (first | go_big_op | go_simp)
            go_at_call 80
            refine (Far_any (chainC x) nr _).mono ?_
            rintro e w' ⟨rfl, hb⟩
            rw [F1.out]
            exact hK _ _ (Go.Flo.owes_is _ rfl hb)
          obtain rfl := hv.is
          go_simp
          refine hK _ ?_
          clear hK K hv
          (refine Go.Flo.fw_calm rfl ?_ (fun K hK => ?_); (first | exact Go.Mix.wanted_none rfl | exact Go.Mix.wanted_tt rfl rfl rfl | exact Go.Mix.wanted_ff rfl rfl rfl); refine Go.Flo.quiet_load_row 75 _ rfl g8 rfl _ #[.int .i8 (pb 0), .int .i8 (pb 1), .int .i8 (pb 2), .int .i8 (pb 3), .int .i8 (pb 4), .int .i8 (pb 5)] _ (by rintro _ ⟨i, rfl⟩; exact ((HW.out i).block g8 z8).trans (HQ5.out.of 3 rfl)) Try.underlying75 rfl size_six ?_; go_simp; refine hK _ ?_; clear hK K)
          (refine Go.Flo.fw_calm rfl ?_ (fun K hK => ?_); (first | exact Go.Mix.wanted_none rfl | exact Go.Mix.wanted_tt rfl rfl rfl | exact Go.Mix.wanted_ff rfl rfl rfl); refine Go.Flo.quiet_load_row 75 _ rfl g4 rfl _ #[.int .i8 (nr 0), .int .i8 (nr 1), .int .i8 (nr 2), .int .i8 (nr 3), .int .i8 (nr 4), .int .i8 (nr 5)] _ (by rintro _ ⟨i, rfl⟩; exact ((HW.out i).block g4 z4).trans (HQ5.out.of 1 rfl)) Try.underlying75 rfl size_six ?_; go_simp; refine hK _ ?_; clear hK K)
          refine Go.Flo.fw_loud rfl ?_ rfl (by simp) (fun wv hwv hav K hK => ?_) (fun v hv K hK => ?_)
          · (first | exact Go.Mix.wanted_none rfl | exact Go.Mix.wanted_tt rfl rfl rfl | exact Go.Mix.wanted_ff rfl rfl rfl)
          · obtain ⟨iv, rfl⟩ := hwv
            have hbv := HW.out iv
            (first | go_big_op | go_simp)
            go_at_call 80
            refine (Far_any pb nr _).mono ?_
            rintro e w' ⟨rfl, hb⟩
            rw [F2.out]
            exact hK _ _ (Go.Flo.owes_is _ rfl hb)
          obtain rfl := hv.is
          go_simp
          refine hK _ ?_
          clear hK K hv
          (repeat (first | (refine Go.Flo.fw_calm rfl ?_ (fun K hK => ?_); (first | exact Go.Mix.wanted_none rfl | exact Go.Mix.wanted_tt rfl rfl rfl | exact Go.Mix.wanted_ff rfl rfl rfl); go_big_quiet_op; refine hK _ ?_; clear hK K) | (refine Go.Flo.fw_skip ?_ (fun K hK => ?_); (first | exact Go.Mix.wanted_tf rfl rfl rfl | exact Go.Mix.wanted_ft rfl rfl rfl); go_simp; refine hK _ ?_; clear hK K) | (refine Go.Flo.fw_any rfl ?_ (fun K hK => ?_); (first | exact Go.Mix.wanted_none rfl | exact Go.Mix.wanted_tt rfl rfl rfl | exact Go.Mix.wanted_ff rfl rfl rfl); go_simp; (try (go_ints; try go_simp)); refine hK _ ?_; clear hK K)))
          refine Go.Flo.fw_nil ?_
          intro w6 hww6 hfw6 huw6
          obtain ⟨iend, hiend⟩ := hww6
          have hbw6 := HW.out iend
          rw [← hiend] at hbw6
          clear hiend iend huw6
          have HQ6 := Lib.hid (HQ5.out.step hbw6)
          have HO6 := Lib.hid (own_keepZ HO5.out hbw6)
          clear hfw6 HJ HW hne hbw6 zx z4 z8 HQ5 HO5
          clear W I
          refine ⟨fun _ => True, trivial, ?_⟩

          refine Go.Mix.walk_nil ?_
          (try simp only [Act.put])
          go_wp2_with fail
          go_roundw
          case rel => exact ⟨m + 1, by omega, by go_num, by rw [HT.out], by rw [HT.out]; exact Bq.front (bs := [(g3, #[.slice a l.length c, .int .u16 ((lk 0 : Nat) : Int), .int .u16 ((lk 1 : Nat) : Int), .int .u16 ((lk 2 : Nat) : Int), .int .u16 ((lk 3 : Nat) : Int), .int .u16 ((lk 4 : Nat) : Int), .int .u16 ((lk 5 : Nat) : Int), .int .u16 ((lk 6 : Nat) : Int), .int .u16 ((lk 7 : Nat) : Int), .int .u16 ((lk 8 : Nat) : Int), .int .u16 ((lk 9 : Nat) : Int), .int .u16 ((lk 10 : Nat) : Int), .int .u16 ((lk 11 : Nat) : Int), .int .u16 ((lk 12 : Nat) : Int), .int .u16 ((lk 13 : Nat) : Int), .int .u16 ((lk 14 : Nat) : Int), .int .u16 ((lk 15 : Nat) : Int)], 69), (g4, #[.int .i8 (nr 0), .int .i8 (nr 1), .int .i8 (nr 2), .int .i8 (nr 3), .int .i8 (nr 4), .int .i8 (nr 5)], 75), (g6, (#[.int .i8 0, .int .i8 0, .int .i8 0, .int .i8 0, .int .i8 0, .int .i8 0] : Array Value), 75), (g8, #[.int .i8 (pb 0), .int .i8 (pb 1), .int .i8 (pb 2), .int .i8 (pb 3), .int .i8 (pb 4), .int .i8 (pb 5)], 75)]) (cs := [(gx, #[.int .i8 ((chainC x) 0), .int .i8 ((chainC x) 1), .int .i8 ((chainC x) 2), .int .i8 ((chainC x) 3), .int .i8 ((chainC x) 4), .int .i8 ((chainC x) 5)], 75)]) HQ6.out, HO6.out⟩
          case measure => simp [intOf]; omega
    · obtain rfl : m = D.length := by omega
      rw [List.take_of_length_le (Nat.le_refl _)] at hq ⊢
      have b8 := hq.of 3 rfl
      have b6 := hq.of 2 rfl
      have HF := Lib.hid (hq.put 2 rfl #[.int .i8 ((bestF nr D).1 0), .int .i8 ((bestF nr D).1 1), .int .i8 ((bestF nr D).1 2), .int .i8 ((bestF nr D).1 3), .int .i8 ((bestF nr D).1 4), .int .i8 ((bestF nr D).1 5)])
      clear hq ho
      obtain ⟨X, hX⟩ : ∃ X, bestF nr D = X := ⟨_, rfl⟩
      rw [hX] at HF b8 ⊢
      have HX := Lib.hid hX
      clear hX
      go_wp2_with (first | ((with_reducible show wpList _ _ _ (_ :: _) _ _); refine wpList_load_row rfl 75 _ rfl _ rfl _ _ _ _ b8 Try.underlying75 rfl (by exact size_six) ?_; (try go_simp)) | ((with_reducible show wpList _ _ _ (_ :: _) _ _); refine wpList_store_row rfl 75 _ _ rfl _ _ rfl rfl _ _ b6 (by exact size_six) (by rfl) (by simp [Value.oneCell']) ?_))
      refine bodyPost_ret (res_ct rfl _ _ _ _ _ _ rfl (HF.out.of 2 rfl) Try.underlying75 rfl size_six) rfl ?_
      exact ⟨by rw [HD.out, HX.out]; rfl, HF.out.be⟩
end Go.Proofs.Ytioclbkgfbjpdaa
