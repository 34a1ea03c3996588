/- Layer 22's statements: the document's example. -/
import Derived.Test.YtinaimacocgemaaFd3
import Derived.Test.YtinaimacocgemaaFrame
import Derived.Test.YtinaimacocgemaaFlat
import Derived.Test.YtinaimacocgemaaFlatEq
import Derived.Test.YtinaimacocgemaaBs2
namespace Go.Proofs.Ytinaimacocgemaa
open Go.RowKit Go.Own Bs
set_option linter.unusedVariables false
set_option linter.unusedSimpArgs false
theorem Raise_ex1 (w : World) : Calls Try.prog 53 #[.agg #[.int .u8 1, .int .u8 1, .int .u8 1, .int .u8 1, .int .u8 1, .int .u8 0, .int .u8 0, .int .u8 0, .int .u8 0, .int .u8 0], .agg #[.int .u8 0, .int .i64 0, .int .u8 0], .int .u8 0] w fun e w' => e = .returned (.tuple #[.agg #[.int .u8 1, .int .u8 1, .int .u8 1, .int .u8 1, .int .u8 1, .int .u8 1, .int .u8 0, .int .u8 0, .int .u8 0, .int .u8 0], .agg #[.int .u8 0, .int .i64 0, .int .u8 0], .bool true]) ∧ Below w.heap.size w w' :=
  Raise_yes (fun _ => 1) zF 0 0 0 0 0 w (by decide) (by decide) (fun _ _ => by unfold zF; decide) (by decide)
theorem lb_bump {C : Nat → Nat} (h : Lb C) (l : Nat) : Lb (bump C l) := fun k hk => by
  unfold bump upd
  split
  · dsimp only
    split
    · omega
    · exact h k hk
  · exact h k hk
theorem Raise_ex2 (w : World) : Calls Try.prog 53 #[.agg #[.int .u8 1, .int .u8 1, .int .u8 1, .int .u8 1, .int .u8 1, .int .u8 1, .int .u8 0, .int .u8 0, .int .u8 0, .int .u8 0], .agg #[.int .u8 0, .int .i64 0, .int .u8 0], .int .u8 0] w fun e w' => e = .returned (.tuple #[.agg #[.int .u8 1, .int .u8 1, .int .u8 1, .int .u8 1, .int .u8 1, .int .u8 1, .int .u8 1, .int .u8 0, .int .u8 0, .int .u8 0], .agg #[.int .u8 1, .int .i64 0, .int .u8 0], .bool true]) ∧ Below w.heap.size w w' :=
  Raise_yes (fun _ => 1) (bump zF 0) 0 0 0 0 1 w (by decide) (by decide) (lb_bump (fun _ _ => by unfold zF; decide) 0) (by decide)
/-- A level's name. -/
def nmS : Nat → ByteArray
  | 0 => ⟨#[117, 110, 105, 116]⟩
  | 1 => ⟨#[102, 117, 110, 99, 116, 105, 111, 110]⟩
  | 2 => ⟨#[115, 121, 115, 116, 101, 109]⟩
  | 3 => ⟨#[119, 97, 116, 99, 104, 100, 111, 103]⟩
  | 4 => ⟨#[97, 108, 97, 114, 109]⟩
  | _ => ⟨#[]⟩
theorem nmS_none {l : Nat} (h : 5 ≤ l) : nmS l = ⟨#[]⟩ := by
  obtain ⟨k, rfl⟩ : ∃ k, l = k + 5 := ⟨l - 5, by omega⟩
  rfl
set_option maxHeartbeats 1000000 in
theorem Name_any (l : Nat) (w : World) (h : l < 256) : Calls Try.prog 52 #[.int .u8 (l : Nat)] w fun e w' => e = .returned (.string (nmS l)) ∧ w = w' := by
  rcases (by omega : l = 0 ∨ l = 1 ∨ l = 2 ∨ l = 3 ∨ l = 4 ∨ 5 ≤ l) with rfl | rfl | rfl | rfl | rfl | h5
  · go_enter Try.func52, Try.ntmps52
    go_wp2
    go_ret
    exact ⟨rfl, rfl⟩
  · go_enter Try.func52, Try.ntmps52
    go_wp2
    go_ret
    exact ⟨rfl, rfl⟩
  · go_enter Try.func52, Try.ntmps52
    go_wp2
    go_ret
    exact ⟨rfl, rfl⟩
  · go_enter Try.func52, Try.ntmps52
    go_wp2
    go_ret
    exact ⟨rfl, rfl⟩
  · go_enter Try.func52, Try.ntmps52
    go_wp2
    go_ret
    exact ⟨rfl, rfl⟩
  · rw [nmS_none h5]
    have k0 : ((l : Int) == 0) = false := by rw [beq_eq_false_iff_ne]; omega
    have k1 : ((l : Int) == 1) = false := by rw [beq_eq_false_iff_ne]; omega
    have k2 : ((l : Int) == 2) = false := by rw [beq_eq_false_iff_ne]; omega
    have k3 : ((l : Int) == 3) = false := by rw [beq_eq_false_iff_ne]; omega
    have k4 : ((l : Int) == 4) = false := by rw [beq_eq_false_iff_ne]; omega
    go_enter Try.func52, Try.ntmps52
    go_wp2
    go_ret
    exact ⟨rfl, rfl⟩
set_option maxRecDepth 100000 in
set_option maxHeartbeats 2000000 in
theorem awake22 (w : World) : Calls Try.prog 42 #[] w fun e w' => e = .returned (.bool true) ∧ Below w.heap.size w w' := by
  have hz := zero_ld
  have hz2 := zero_al
  go_enter Try.func42, Try.ntmps42
  go_upto_region 2 with ((with_reducible show wpList _ _ _ (_ :: _) _ _); refine wpList_store_row rfl 100 _ _ rfl _ _ rfl rfl _ _ (heap_alloc_new _ _) (by exact size_ld) (by rfl) (by simp [Value.oneCell']) ?_; rw [World.setRow_alloc_new])
  have hq := (Bq.nil w).new #[.int .u8 1, .int .u8 1, .int .u8 1, .int .u8 1, .int .u8 1, .int .u8 0, .int .u8 0, .int .u8 0, .int .u8 0, .int .u8 0] 100
  obtain ⟨w1, hw1⟩ : ∃ w1, w1 = w.alloc (.cells #[.int .u8 1, .int .u8 1, .int .u8 1, .int .u8 1, .int .u8 1, .int .u8 0, .int .u8 0, .int .u8 0, .int .u8 0, .int .u8 0] 100) := ⟨_, rfl⟩
  rw [← hw1] at hq ⊢
  obtain ⟨g1, hg1⟩ : ∃ g, g = w.heap.size := ⟨_, rfl⟩
  rw [← hg1] at hq
  rw [show (Value.pointer (some ⟨w.heap.size, 0, none⟩)) = .pointer (some ⟨g1, 0, none⟩) by rw [hg1]]
  have b1 := hq.of 0 rfl
  have HQ := Lib.hid hq
  clear hq hw1 hg1
  go_wp2_with ((with_reducible show wpList _ _ _ (_ :: _) _ _); refine wpList_load_row rfl 100 _ rfl _ rfl _ _ _ _ b1 Try.underlying100 rfl (by exact size_ld) ?_; (try go_simp))
  refine (Raise_ex1 _).mono ?_
  rintro e w2 ⟨rfl, hb⟩
  have hq := (HQ.out.step hb)
  have hq1 := hq.new #[.int .u8 0, .int .i64 0, .int .u8 0] 84
  have b1 := hq1.of 0 rfl
  have hq2 := hq1.put 0 rfl #[.int .u8 1, .int .u8 1, .int .u8 1, .int .u8 1, .int .u8 1, .int .u8 1, .int .u8 0, .int .u8 0, .int .u8 0, .int .u8 0]
  have b2 := hq2.of 1 rfl
  have hq3 := hq2.put 1 rfl #[.int .u8 0, .int .i64 0, .int .u8 0]
  have HQ3 := Lib.hid hq3
  clear hq hq1 hq2 hq3 HQ hb
  go_upto_region 3 with (first | ((with_reducible show wpList _ _ _ (_ :: _) _ _); refine wpList_store_row rfl 100 _ _ rfl _ _ rfl rfl _ _ b1 (by exact size_ld) (by rfl) (by simp [Value.oneCell']) ?_) | ((with_reducible show wpList _ _ _ (_ :: _) _ _); refine wpList_store_row rfl 84 _ _ rfl _ _ rfl rfl _ _ b2 (by exact size_al) (by rfl) (by simp [Value.oneCell']) ?_))
  obtain ⟨w3, hw3⟩ : ∃ w3, w3 = ((w2.alloc (.cells #[.int .u8 0, .int .i64 0, .int .u8 0] 84)).setRow g1 #[.int .u8 1, .int .u8 1, .int .u8 1, .int .u8 1, .int .u8 1, .int .u8 1, .int .u8 0, .int .u8 0, .int .u8 0, .int .u8 0]).setRow w2.heap.size #[.int .u8 0, .int .i64 0, .int .u8 0] := ⟨_, rfl⟩
  obtain ⟨g2, hg2⟩ : ∃ g, g = w2.heap.size := ⟨_, rfl⟩
  rw [← hw3, ← hg2] at HQ3
  rw [← hw3, ← hg2]
  clear hw3 hg2 b1 b2
  have b1 := HQ3.out.of 0 rfl
  have b2 := HQ3.out.of 1 rfl
  go_wp2_with ((with_reducible show wpList _ _ _ (_ :: _) _ _); refine wpList_load_row rfl 100 _ rfl _ rfl _ _ _ _ b1 Try.underlying100 rfl (by exact size_ld) ?_; (try go_simp))
  refine (Raise_ex2 _).mono ?_
  rintro e w4 ⟨rfl, hb⟩
  have HQ4 := Lib.hid (HQ3.out.step hb)
  clear hb HQ3 b1 b2
  skip
  obtain ⟨hq0, q1, q2⟩ := HQ4.out.pair #[.int .u8 0, .int .u8 0, .int .u8 0, .int .u8 0, .int .u8 0, .int .u8 0, .int .u8 0, .int .u8 0, .int .u8 0, .int .u8 0] #[.int .u8 0, .int .i64 0, .int .u8 0] #[.int .u8 1, .int .u8 1, .int .u8 1, .int .u8 1, .int .u8 1, .int .u8 1, .int .u8 1, .int .u8 0, .int .u8 0, .int .u8 0] #[.int .u8 1, .int .i64 0, .int .u8 0] 100 84
  obtain ⟨wA, hwA⟩ : ∃ xW, (w4.alloc (.cells #[.int .u8 0, .int .u8 0, .int .u8 0, .int .u8 0, .int .u8 0, .int .u8 0, .int .u8 0, .int .u8 0, .int .u8 0, .int .u8 0] 100)).alloc (.cells #[.int .u8 0, .int .i64 0, .int .u8 0] 84) = xW := ⟨_, rfl⟩
  rw [hwA] at hq0 q1 q2
  obtain ⟨wB, hwB⟩ : ∃ xW, wA.setRow w4.heap.size #[.int .u8 1, .int .u8 1, .int .u8 1, .int .u8 1, .int .u8 1, .int .u8 1, .int .u8 1, .int .u8 0, .int .u8 0, .int .u8 0] = xW := ⟨_, rfl⟩
  rw [hwB] at hq0 q2
  obtain ⟨wC, hwC⟩ : ∃ xW, wB.setRow (w4.heap.size + 1) #[.int .u8 1, .int .i64 0, .int .u8 0] = xW := ⟨_, rfl⟩
  rw [hwC] at hq0
  have HQ5 := Lib.hid hq0
  clear hq0 HQ4
  go_upto_region 4 with (first | ((with_reducible show wpList _ _ _ (_ :: _) _ _); (try rw [hwA]); refine wpList_store_row rfl 100 _ _ rfl _ _ rfl rfl _ _ q1 (by exact size_ld) (by rfl) (by simp [Value.oneCell']) ?_; rw [hwB]) | ((with_reducible show wpList _ _ _ (_ :: _) _ _); refine wpList_store_row rfl 84 _ _ rfl _ _ rfl rfl _ _ q2 (by exact size_al) (by rfl) (by simp [Value.oneCell']) ?_; rw [hwC]))
  have b2 := HQ5.out.of 1 rfl
  have b3 := HQ5.out.of 3 rfl
  have c2 := cell_of_row _ _ 0 _ _ _ b2
  have c3 := cell_of_row _ _ 0 _ _ _ b3
  clear b2 b3 q1 q2
  go_wp2_with (go_at_call 52; refine (Name_any 4 _ (by decide)).mono ?_; rintro e w' ⟨rfl, rfl⟩; dsimp only [nmS])
  go_ret
  exact ⟨rfl, HQ5.out.be⟩
open Go.ChangeShapes Go.WideShapes Go.Deep in
theorem fit_u8 {w : World} {ks : List Leaf} {cs : List Value} (h : Fit w (.int .u8 :: ks) cs) : ∃ (x : Nat) (vs : List Value), cs = .int .u8 ((x : Nat) : Int) :: vs ∧ x < 256 ∧ Fit w ks vs := by
  match cs, h with
  | v :: vs, ⟨⟨z, hz, hw⟩, h2⟩ =>
    have hb := bounds_u8 hw
    obtain ⟨x, rfl⟩ := Int.eq_ofNat_of_zero_le hb.1
    exact ⟨x, vs, by rw [hz], by omega, h2⟩
def fiF (a b c d e : Nat) (k : Nat) : Nat := if k = 0 then a else if k = 1 then b else if k = 2 then c else if k = 3 then d else e
theorem lb_fi {a b c d e : Nat} (ha : a < 256) (hb : b < 256) (hc : c < 256) (hd : d < 256) (he : e < 256) : Lb (fiF a b c d e) := fun k hk => by
  unfold fiF
  repeat' split
  all_goals assumption
open Go.ChangeShapes Go.WideShapes Go.Deep in
/-- A ladder that came in. -/
theorem ld_fit {w : World} {cs : List Value} (h : Fit w [.int .u8, .int .u8, .int .u8, .int .u8, .int .u8, .int .u8, .int .u8, .int .u8, .int .u8, .int .u8] cs) : ∃ L C : Nat → Nat, Lb L ∧ Lb C ∧ cs.toArray = #[.int .u8 ((L 0 : Nat) : Int), .int .u8 ((L 1 : Nat) : Int), .int .u8 ((L 2 : Nat) : Int), .int .u8 ((L 3 : Nat) : Int), .int .u8 ((L 4 : Nat) : Int), .int .u8 ((C 0 : Nat) : Int), .int .u8 ((C 1 : Nat) : Int), .int .u8 ((C 2 : Nat) : Int), .int .u8 ((C 3 : Nat) : Int), .int .u8 ((C 4 : Nat) : Int)] := by
  obtain ⟨a, v1, rfl, ha, h⟩ := fit_u8 h
  obtain ⟨b, v2, rfl, hb, h⟩ := fit_u8 h
  obtain ⟨c, v3, rfl, hc, h⟩ := fit_u8 h
  obtain ⟨d, v4, rfl, hd, h⟩ := fit_u8 h
  obtain ⟨e, v5, rfl, he, h⟩ := fit_u8 h
  obtain ⟨f, v6, rfl, hf, h⟩ := fit_u8 h
  obtain ⟨g, v7, rfl, hg, h⟩ := fit_u8 h
  obtain ⟨i, v8, rfl, hi, h⟩ := fit_u8 h
  obtain ⟨j, v9, rfl, hj, h⟩ := fit_u8 h
  obtain ⟨k, v10, rfl, hk, h⟩ := fit_u8 h
  have : v10 = [] := by cases v10 with
    | nil => rfl
    | cons => exact h.elim
  subst this
  exact ⟨fiF a b c d e, fiF f g i j k, lb_fi ha hb hc hd he, lb_fi hf hg hi hj hk, rfl⟩
end Go.Proofs.Ytinaimacocgemaa
