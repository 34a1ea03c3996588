/- ModePlays. -/
import Derived.Test.YtnjkpamjjdkmoaaLaw24
import Derived.Test.YtnjkpamjjdkmoaaMd3e
import Derived.Test.YtnjkpamjjdkmoaaMd5
import Derived.Deep.MidRow
namespace Go.Proofs.Ytnjkpamjjdkmoaa
open Go.RowKit Go.Own
set_option linter.unusedVariables false
set_option linter.unusedSimpArgs false
/-- An act. -/
structure Ac where
  k : Nat
  c : Bool
  n : Bool
  f : Bool
deriving Inhabited
theorem choose_natP {α : Type} [Inhabited α] {n : Nat} {p : Nat → α → Prop} (h : ∀ i, i < n → ∃ v, p i v) : ∃ f : Nat → α, ∀ i, i < n → p i (f i) :=
  ⟨fun i => if hi : i < n then Classical.choose (h i hi) else default, fun i hi => by simp only [dif_pos hi]; exact Classical.choose_spec (h i hi)⟩
def Ac.cs (x : Ac) : List Value := [.int .u8 ((x.k : Nat) : Int), .bool x.c, .bool x.n, .bool x.f]
/-- Acts in memory. -/
structure AcS (w : World) (a : Option Addr) (len : Nat) (f : Nat → Ac) : Prop where
  lt : ∀ i, i < len → (f i).k < 256
  at_ : 0 < len → ∃ b off, a = some ⟨b, off, none⟩ ∧ b < w.heap.size ∧ ∀ i, i < len → w.rangeAt b (off + i * 4) (f i).cs
theorem acs_flat {w : World} {a : Option Addr} {len cap : Nat} (h : IsFlat [.int .u8, .bool, .bool, .bool] w a len cap) : ∃ f, AcS w a len f := by
  obtain ⟨h1, h2, _, h4⟩ := h
  by_cases h0 : 0 < len
  · obtain ⟨b, off, e, hb, hx⟩ := h4 h0
    have each : ∀ i, i < len → ∃ r : Ac, r.k < 256 ∧ w.rangeAt b (off + i * 4) r.cs := by
      intro i hi
      obtain ⟨cs, hf, hc⟩ := hx i hi
      match cs, hf with
      | [v0, v1, v2, v3], ⟨⟨z0, e0, k0⟩, ⟨t1, e1⟩, ⟨t2, e2⟩, ⟨t3, e3⟩, _⟩ =>
        subst e0 e1 e2 e3
        have b0 := bounds_u8 k0
        obtain ⟨s, rfl⟩ := Int.eq_ofNat_of_zero_le b0.1
        exact ⟨⟨s, t1, t2, t3⟩, show s < 256 by omega, hc⟩
    obtain ⟨f, hf⟩ := choose_natP each
    exact ⟨f, fun i hi => (hf i hi).1, fun _ => ⟨b, off, e, hb, fun i hi => (hf i hi).2⟩⟩
  · exact ⟨fun _ => ⟨0, false, false, false⟩, fun i hi => absurd hi (by omega), fun h => absurd h h0⟩
theorem size_ac : (Try.prog.info? 143).map (·.size) = some 4 := by kernel_rfl
theorem zero_ac (w : World) : (zeroValue 143).run Try.prog w = .ok (.agg #[.int .u8 0, .bool false, .bool false, .bool false]) w := by kernel_rfl
set_option maxRecDepth 100000 in
set_option maxHeartbeats 8000000 in
theorem walk_ModePlays (cs0 : List Value) (a1 : Option Addr) (len1 cap1 : Nat) (w : World) (w0 : Fit w [.int .u8, .int .u8, .int .u8, .int .u16, .int .u16, .int .u16, .int .u16] cs0) (w1 : IsFlat [.int .u8, .bool, .bool, .bool] w a1 len1 cap1) :
    Calls Try.prog 12 #[.agg cs0.toArray, .slice a1 len1 cap1] w fun e w' => e = .returned (.bool true) ∧ Below w.heap.size w w' := by
  obtain ⟨c, hc, e1⟩ := cf_fit w0
  rw [e1]
  have HC := Lib.hid hc
  obtain ⟨f, hf⟩ := acs_flat w1
  have HF := Lib.hid hf
  have hlen : len1 ≤ maxLen := Nat.le_trans w1.1 w1.2.1
  unfold maxLen at hlen
  clear w0 w1 e1 hc cs0 hf
  have hz := zero_mo
  have hzr := zero_mr
  have hza := zero_ac
  have hq := (Bq.nil w).new #[.int .u8 ((Cf.calm c : Nat) : Int), .int .u8 ((Cf.seen c : Nat) : Int), .int .u8 ((Cf.lost c : Nat) : Int), .int .u16 ((Cf.t c 0 : Nat) : Int), .int .u16 ((Cf.t c 1 : Nat) : Int), .int .u16 ((Cf.t c 2 : Nat) : Int), .int .u16 ((Cf.t c 3 : Nat) : Int)] 126
  go_enter Try.func12, Try.ntmps12
  go_upto_region 1 with fail
  obtain ⟨w1, hw1⟩ : ∃ w1, w1 = w.alloc (.cells #[.int .u8 ((Cf.calm c : Nat) : Int), .int .u8 ((Cf.seen c : Nat) : Int), .int .u8 ((Cf.lost c : Nat) : Int), .int .u16 ((Cf.t c 0 : Nat) : Int), .int .u16 ((Cf.t c 1 : Nat) : Int), .int .u16 ((Cf.t c 2 : Nat) : Int), .int .u16 ((Cf.t c 3 : Nat) : Int)] 126) := ⟨_, rfl⟩
  rw [← hw1] at hq ⊢
  obtain ⟨g2, hg2⟩ : ∃ g, g = w.heap.size := ⟨_, rfl⟩
  rw [← hg2] at hq
  rw [show (Value.pointer (some ⟨w.heap.size, 0, none⟩)) = .pointer (some ⟨g2, 0, none⟩) by rw [hg2]]
  have HQ1 := Lib.hid (show Bq w w1 [(g2, #[.int .u8 ((Cf.calm c : Nat) : Int), .int .u8 ((Cf.seen c : Nat) : Int), .int .u8 ((Cf.lost c : Nat) : Int), .int .u16 ((Cf.t c 0 : Nat) : Int), .int .u16 ((Cf.t c 1 : Nat) : Int), .int .u16 ((Cf.t c 2 : Nat) : Int), .int .u16 ((Cf.t c 3 : Nat) : Int)], 126)] from hq)
  clear hq hw1 hg2
  go_wp2_with fail
  go_at_call 65
  refine (awake24 _).mono ?_
  rintro e w2 ⟨rfl, hb⟩
  have HQ2 := Lib.hid (HQ1.out.step hb)
  clear hb HQ1
  go_upto_region 3 with fail
  obtain ⟨hq0, q1, q2⟩ := HQ2.out.pair #[.int .u8 0, .int .u16 0, .int .u8 0, .int .u8 0, .int .u8 0] #[.int .u8 0, .int .u16 0, .int .u8 0, .int .u8 0, .int .u8 0] #[.int .u8 0, .int .u16 0, .int .u8 0, .int .u8 0, .int .u8 0] #[.int .u8 0, .int .u16 0, .int .u8 0, .int .u8 0, .int .u8 0] 123 129
  obtain ⟨wA, hwA⟩ : ∃ xW, (w2.alloc (.cells #[.int .u8 0, .int .u16 0, .int .u8 0, .int .u8 0, .int .u8 0] 123)).alloc (.cells #[.int .u8 0, .int .u16 0, .int .u8 0, .int .u8 0, .int .u8 0] 129) = xW := ⟨_, rfl⟩
  rw [hwA] at hq0 q1 q2
  obtain ⟨wB, hwB⟩ : ∃ xW, wA.setRow w2.heap.size #[.int .u8 0, .int .u16 0, .int .u8 0, .int .u8 0, .int .u8 0] = xW := ⟨_, rfl⟩
  rw [hwB] at hq0 q2
  obtain ⟨wC, hwC⟩ : ∃ xW, wB.setRow (w2.heap.size + 1) #[.int .u8 0, .int .u16 0, .int .u8 0, .int .u8 0, .int .u8 0] = xW := ⟨_, rfl⟩
  rw [hwC] at hq0
  have HQ3 := Lib.hid hq0
  clear hq0 HQ2
  go_upto_region 4 with (first | ((with_reducible show wpList _ _ _ (_ :: _) _ _); (try rw [hwA]); refine wpList_store_row rfl 123 _ _ rfl _ _ rfl rfl _ _ q1 (by exact size_mo) (by rfl) (by simp [Value.oneCell']) ?_; rw [hwB]) | ((with_reducible show wpList _ _ _ (_ :: _) _ _); refine wpList_store_row rfl 129 _ _ rfl _ _ rfl rfl _ _ q2 (by exact size_mr) (by rfl) (by simp [Value.oneCell']) ?_; rw [hwC]))
  clear q1 q2 hwA hwB
  obtain ⟨g6, hg6⟩ : ∃ g, g = w2.heap.size + 1 := ⟨_, rfl⟩
  obtain ⟨g5, hg5⟩ : ∃ g, g = w2.heap.size := ⟨_, rfl⟩
  rw [← hg6, ← hg5] at HQ3
  rw [← hg6, ← hg5]
  have HQ4 := Lib.hid (show Bq w wC [(g2, #[.int .u8 ((Cf.calm c : Nat) : Int), .int .u8 ((Cf.seen c : Nat) : Int), .int .u8 ((Cf.lost c : Nat) : Int), .int .u16 ((Cf.t c 0 : Nat) : Int), .int .u16 ((Cf.t c 1 : Nat) : Int), .int .u16 ((Cf.t c 2 : Nat) : Int), .int .u16 ((Cf.t c 3 : Nat) : Int)], 126), (g5, #[.int .u8 ((Mo.m moZ : Nat) : Int), .int .u16 ((Mo.s moZ : Nat) : Int), .int .u8 ((Mo.c moZ : Nat) : Int), .int .u8 ((Mo.n moZ : Nat) : Int), .int .u8 ((Mo.d moZ : Nat) : Int)], 123), (g6, #[.int .u8 ((Mo.m moZ : Nat) : Int), .int .u16 ((Mo.s moZ : Nat) : Int), .int .u8 ((Mo.c moZ : Nat) : Int), .int .u8 ((Mo.n moZ : Nat) : Int), .int .u8 ((Mo.d moZ : Nat) : Int)], 129)] from HQ3.out)
  clear hg5 hg6 hwC HQ3
  go_wp2_with fail
  go_loopw [22] (fun v wr => ∃ (i : Nat) (a : Mo), i ≤ len1 ∧ a.Ok ∧ v = .int .i64 (i : Nat) ∧ Bq w wr [(g2, #[.int .u8 ((Cf.calm c : Nat) : Int), .int .u8 ((Cf.seen c : Nat) : Int), .int .u8 ((Cf.lost c : Nat) : Int), .int .u16 ((Cf.t c 0 : Nat) : Int), .int .u16 ((Cf.t c 1 : Nat) : Int), .int .u16 ((Cf.t c 2 : Nat) : Int), .int .u16 ((Cf.t c 3 : Nat) : Int)], 126), (g5, #[.int .u8 ((Mo.m a : Nat) : Int), .int .u16 ((Mo.s a : Nat) : Int), .int .u8 ((Mo.c a : Nat) : Int), .int .u8 ((Mo.n a : Nat) : Int), .int .u8 ((Mo.d a : Nat) : Int)], 123), (g6, #[.int .u8 ((Mo.m a : Nat) : Int), .int .u16 ((Mo.s a : Nat) : Int), .int .u8 ((Mo.c a : Nat) : Int), .int .u8 ((Mo.n a : Nat) : Int), .int .u8 ((Mo.d a : Nat) : Int)], 129)]) (fun v _ => len1 - (intOf v).toNat)
  case atStart => exact ⟨0, moZ, Nat.zero_le _, moZ_ok, rfl, HQ4.out⟩
  case round =>
    clear HQ4
    obtain ⟨i, a, hi, ha, rfl, hq⟩ := hrel
    have HQ := Lib.hid hq
    have HA := Lib.hid ha
    clear hq ha
    by_cases hlt : i < len1
    · obtain ⟨bb, off, rfl, hbn, hrg⟩ := HF.out.at_ (by omega)
      have hrg := hrg i hlt
      have hk := HF.out.lt i hlt
      obtain ⟨x, hx⟩ : ∃ x, x = f i := ⟨_, rfl⟩
      rw [← hx] at hrg hk
      have hrl : wr.rangeAt bb (off + i * 4) x.cs := fun j v hv => (HQ.out.be.cell (p := ⟨bb, off + i * 4 + j, none⟩) hbn).trans (hrg j v hv)
      have HQ5 := Lib.hid (HQ.out.new #[.int .u8 ((Ac.k x : Nat) : Int), .bool (Ac.c x), .bool (Ac.n x), .bool (Ac.f x)] 143)
      clear hx hrg HQ
      go_upto_region 7 with (first | ((with_reducible show wpList _ _ _ (_ :: _) _ _); refine wpList_load_mid rfl 143 _ rfl _ (off + i * 4) rfl (Ac.cs x) _ hrl Try.underlying143 rfl size_ac ?_; rw [show (Ac.cs x).toArray = #[.int .u8 ((Ac.k x : Nat) : Int), .bool (Ac.c x), .bool (Ac.n x), .bool (Ac.f x)] from rfl]; (try go_simp)) | ((with_reducible show wpList _ _ _ (_ :: _) _ _); refine wpList_store_row rfl 143 _ _ rfl _ _ rfl rfl _ _ (heap_alloc_new _ _) (by exact size_ac) (by rfl) (by simp [Value.oneCell']) ?_; rw [World.setRow_alloc_new]))
      obtain ⟨w5, hw5⟩ : ∃ w1, w1 = wr.alloc (.cells #[.int .u8 ((Ac.k x : Nat) : Int), .bool (Ac.c x), .bool (Ac.n x), .bool (Ac.f x)] 143) := ⟨_, rfl⟩
      obtain ⟨g8, hg8⟩ : ∃ g, g = wr.heap.size := ⟨_, rfl⟩
      have HQ6 := Lib.hid (show Bq w w5 [(g2, #[.int .u8 ((Cf.calm c : Nat) : Int), .int .u8 ((Cf.seen c : Nat) : Int), .int .u8 ((Cf.lost c : Nat) : Int), .int .u16 ((Cf.t c 0 : Nat) : Int), .int .u16 ((Cf.t c 1 : Nat) : Int), .int .u16 ((Cf.t c 2 : Nat) : Int), .int .u16 ((Cf.t c 3 : Nat) : Int)], 126), (g5, #[.int .u8 ((Mo.m a : Nat) : Int), .int .u16 ((Mo.s a : Nat) : Int), .int .u8 ((Mo.c a : Nat) : Int), .int .u8 ((Mo.n a : Nat) : Int), .int .u8 ((Mo.d a : Nat) : Int)], 123), (g6, #[.int .u8 ((Mo.m a : Nat) : Int), .int .u16 ((Mo.s a : Nat) : Int), .int .u8 ((Mo.c a : Nat) : Int), .int .u8 ((Mo.n a : Nat) : Int), .int .u8 ((Mo.d a : Nat) : Int)], 129), (g8, #[.int .u8 ((Ac.k x : Nat) : Int), .bool (Ac.c x), .bool (Ac.n x), .bool (Ac.f x)], 143)] by rw [hw5, hg8]; exact HQ5.out)
      rw [← hw5, ← hg8]
      clear hw5 hg8 HQ5 hrl
      simp only [Act.put]
      by_cases h100 : 100 ≤ i
      · go_wp2
        go_ret
        exact ⟨rfl, HQ6.out.be⟩
      have c0 : w5.cell? ⟨g5, 0, none⟩ = some (.int .u8 ((a.m : Nat) : Int)) := cell_of_row _ _ 0 _ _ _ (HQ6.out.of 1 rfl)
      have k0 : w5.cell? ⟨g8, 0, none⟩ = some (.int .u8 ((x.k : Nat) : Int)) := cell_of_row _ _ 0 _ _ _ (HQ6.out.of 3 rfl)
      go_upto_if 33 with fail
      clear h100
      obtain ⟨A, hAA⟩ : ∃ A, A = (if x.k < 4 then (askM 1 7 a c x.k).1 else a) := ⟨_, rfl⟩
      have HAO := Lib.hid (show A.Ok by rw [hAA]; split; exact ask_ok HA.out 1 7 c x.k; exact HA.out)
      have HAA := Lib.hid hAA
      clear hAA
      go_cut [] (fun wx => Bq w wx [(g2, #[.int .u8 ((Cf.calm c : Nat) : Int), .int .u8 ((Cf.seen c : Nat) : Int), .int .u8 ((Cf.lost c : Nat) : Int), .int .u16 ((Cf.t c 0 : Nat) : Int), .int .u16 ((Cf.t c 1 : Nat) : Int), .int .u16 ((Cf.t c 2 : Nat) : Int), .int .u16 ((Cf.t c 3 : Nat) : Int)], 126), (g5, #[.int .u8 ((Mo.m A : Nat) : Int), .int .u16 ((Mo.s A : Nat) : Int), .int .u8 ((Mo.c A : Nat) : Int), .int .u8 ((Mo.n A : Nat) : Int), .int .u8 ((Mo.d A : Nat) : Int)], 123), (g6, #[.int .u8 ((Mo.m A : Nat) : Int), .int .u16 ((Mo.s A : Nat) : Int), .int .u8 ((Mo.c A : Nat) : Int), .int .u8 ((Mo.n A : Nat) : Int), .int .u8 ((Mo.d A : Nat) : Int)], 129), (g8, #[.int .u8 ((Ac.k x : Nat) : Int), .bool (Ac.c x), .bool (Ac.n x), .bool (Ac.f x)], 143)])
      case first =>
        by_cases h4 : x.k < 4
        · have hA1 := HAA.out
          rw [if_pos h4] at hA1
          have HT1 := Lib.hid (fun w => Ask_any a c x.k w HA.out HC.out hk)
          have HT2 := Lib.hid (fun w => rAsk_any a c x.k w HA.out HC.out hk)
          have hse := ask_err 1 7 a c x.k
          obtain ⟨s, hs⟩ : ∃ s, askM 1 7 a c x.k = s := ⟨_, rfl⟩
          rw [hs] at hA1 HT1 HT2 hse
          have HSE := Lib.hid hse
          have HA1 := Lib.hid hA1
          clear hs hA1 hse HAA
          have b2 := HQ6.out.of 0 rfl
          have b5 := HQ6.out.of 1 rfl
          go_wp2_with (first | ((with_reducible show wpList _ _ _ (_ :: _) _ _); refine wpList_load_row rfl 123 _ rfl _ rfl _ _ _ _ b5 Try.underlying123 rfl (by exact size_mo) ?_; (try go_simp)) | ((with_reducible show wpList _ _ _ (_ :: _) _ _); refine wpList_load_row rfl 126 _ rfl _ rfl _ _ _ _ b2 Try.underlying126 rfl (by exact size_cf) ?_; (try go_simp)))
          refine (HT1.out _).mono ?_
          rintro e w6 ⟨rfl, hb⟩
          have HQ7 := Lib.hid ((HQ6.out.step hb).new #[.int .u8 ((Mo.m s.1 : Nat) : Int), .int .u16 ((Mo.s s.1 : Nat) : Int), .int .u8 ((Mo.c s.1 : Nat) : Int), .int .u8 ((Mo.n s.1 : Nat) : Int), .int .u8 ((Mo.d s.1 : Nat) : Int)] 123)
          clear hb b2 b5 HQ6 HT1 c0 k0 h4
          go_upto_region 11 with ((with_reducible show wpList _ _ _ (_ :: _) _ _); refine wpList_store_row rfl 123 _ _ rfl _ _ rfl rfl _ _ (heap_alloc_new _ _) (by exact size_mo) (by rfl) (by simp [Value.oneCell']) ?_; rw [World.setRow_alloc_new])
          obtain ⟨w7, hw7⟩ : ∃ w1, w1 = w6.alloc (.cells #[.int .u8 ((Mo.m s.1 : Nat) : Int), .int .u16 ((Mo.s s.1 : Nat) : Int), .int .u8 ((Mo.c s.1 : Nat) : Int), .int .u8 ((Mo.n s.1 : Nat) : Int), .int .u8 ((Mo.d s.1 : Nat) : Int)] 123) := ⟨_, rfl⟩
          obtain ⟨g10, hg10⟩ : ∃ g, g = w6.heap.size := ⟨_, rfl⟩
          have HQ8 := Lib.hid (show Bq w w7 [(g2, #[.int .u8 ((Cf.calm c : Nat) : Int), .int .u8 ((Cf.seen c : Nat) : Int), .int .u8 ((Cf.lost c : Nat) : Int), .int .u16 ((Cf.t c 0 : Nat) : Int), .int .u16 ((Cf.t c 1 : Nat) : Int), .int .u16 ((Cf.t c 2 : Nat) : Int), .int .u16 ((Cf.t c 3 : Nat) : Int)], 126), (g5, #[.int .u8 ((Mo.m a : Nat) : Int), .int .u16 ((Mo.s a : Nat) : Int), .int .u8 ((Mo.c a : Nat) : Int), .int .u8 ((Mo.n a : Nat) : Int), .int .u8 ((Mo.d a : Nat) : Int)], 123), (g6, #[.int .u8 ((Mo.m a : Nat) : Int), .int .u16 ((Mo.s a : Nat) : Int), .int .u8 ((Mo.c a : Nat) : Int), .int .u8 ((Mo.n a : Nat) : Int), .int .u8 ((Mo.d a : Nat) : Int)], 129), (g8, #[.int .u8 ((Ac.k x : Nat) : Int), .bool (Ac.c x), .bool (Ac.n x), .bool (Ac.f x)], 143), (g10, #[.int .u8 ((Mo.m s.1 : Nat) : Int), .int .u16 ((Mo.s s.1 : Nat) : Int), .int .u8 ((Mo.c s.1 : Nat) : Int), .int .u8 ((Mo.n s.1 : Nat) : Int), .int .u8 ((Mo.d s.1 : Nat) : Int)], 123)] by rw [hw7, hg10]; exact HQ7.out)
          rw [← hw7, ← hg10]
          clear hw7 hg10 HQ7
          have b2 := HQ8.out.of 0 rfl
          have b6 := HQ8.out.of 2 rfl
          have k0 : w7.cell? ⟨g8, 0, none⟩ = some (.int .u8 ((x.k : Nat) : Int)) := cell_of_row _ _ 0 _ _ _ (HQ8.out.of 3 rfl)
          go_wp2_with (first | ((with_reducible show wpList _ _ _ (_ :: _) _ _); refine wpList_load_row rfl 129 _ rfl _ rfl _ _ _ _ b6 Try.underlying129 rfl (by exact size_mr) ?_; (try go_simp)) | ((with_reducible show wpList _ _ _ (_ :: _) _ _); refine wpList_load_row rfl 126 _ rfl _ rfl _ _ _ _ b2 Try.underlying126 rfl (by exact size_cf) ?_; (try go_simp)))
          refine (HT2.out _).mono ?_
          rintro e w8 ⟨rfl, hb⟩
          have HQ9 := Lib.hid ((HQ8.out.step hb).new #[.int .u8 ((Mo.m s.1 : Nat) : Int), .int .u16 ((Mo.s s.1 : Nat) : Int), .int .u8 ((Mo.c s.1 : Nat) : Int), .int .u8 ((Mo.n s.1 : Nat) : Int), .int .u8 ((Mo.d s.1 : Nat) : Int)] 129)
          clear hb b2 b6 HQ8 HT2 k0
          go_upto_region 12 with ((with_reducible show wpList _ _ _ (_ :: _) _ _); refine wpList_store_row rfl 129 _ _ rfl _ _ rfl rfl _ _ (heap_alloc_new _ _) (by exact size_mr) (by rfl) (by simp [Value.oneCell']) ?_; rw [World.setRow_alloc_new])
          obtain ⟨w9, hw9⟩ : ∃ w1, w1 = w8.alloc (.cells #[.int .u8 ((Mo.m s.1 : Nat) : Int), .int .u16 ((Mo.s s.1 : Nat) : Int), .int .u8 ((Mo.c s.1 : Nat) : Int), .int .u8 ((Mo.n s.1 : Nat) : Int), .int .u8 ((Mo.d s.1 : Nat) : Int)] 129) := ⟨_, rfl⟩
          obtain ⟨g12, hg12⟩ : ∃ g, g = w8.heap.size := ⟨_, rfl⟩
          have HQ := Lib.hid (show Bq w w9 [(g2, #[.int .u8 ((Cf.calm c : Nat) : Int), .int .u8 ((Cf.seen c : Nat) : Int), .int .u8 ((Cf.lost c : Nat) : Int), .int .u16 ((Cf.t c 0 : Nat) : Int), .int .u16 ((Cf.t c 1 : Nat) : Int), .int .u16 ((Cf.t c 2 : Nat) : Int), .int .u16 ((Cf.t c 3 : Nat) : Int)], 126), (g5, #[.int .u8 ((Mo.m a : Nat) : Int), .int .u16 ((Mo.s a : Nat) : Int), .int .u8 ((Mo.c a : Nat) : Int), .int .u8 ((Mo.n a : Nat) : Int), .int .u8 ((Mo.d a : Nat) : Int)], 123), (g6, #[.int .u8 ((Mo.m a : Nat) : Int), .int .u16 ((Mo.s a : Nat) : Int), .int .u8 ((Mo.c a : Nat) : Int), .int .u8 ((Mo.n a : Nat) : Int), .int .u8 ((Mo.d a : Nat) : Int)], 129), (g8, #[.int .u8 ((Ac.k x : Nat) : Int), .bool (Ac.c x), .bool (Ac.n x), .bool (Ac.f x)], 143), (g10, #[.int .u8 ((Mo.m s.1 : Nat) : Int), .int .u16 ((Mo.s s.1 : Nat) : Int), .int .u8 ((Mo.c s.1 : Nat) : Int), .int .u8 ((Mo.n s.1 : Nat) : Int), .int .u8 ((Mo.d s.1 : Nat) : Int)], 123), (g12, #[.int .u8 ((Mo.m s.1 : Nat) : Int), .int .u16 ((Mo.s s.1 : Nat) : Int), .int .u8 ((Mo.c s.1 : Nat) : Int), .int .u8 ((Mo.n s.1 : Nat) : Int), .int .u8 ((Mo.d s.1 : Nat) : Int)], 129)] by rw [hw9, hg12]; exact HQ9.out)
          rw [← hw9, ← hg12]
          clear hw9 hg12 HQ9
          by_cases h0 : s.2 = 0
          · have hs0 : ((s.2 : Int) != 0) = false := by rw [h0]; rfl
            clear h0
            go_upto_region 14 with fail
            clear hs0
            skip
            have b10 := HQ.out.of 4 rfl
            have b12 := HQ.out.of 5 rfl
            obtain ⟨I, W, hne, hWI, hIW⟩ := Go.Mix.family (fun v => v.heap[g10]? = some (.cells #[.int .u8 ((Mo.m s.1 : Nat) : Int), .int .u16 ((Mo.s s.1 : Nat) : Int), .int .u8 ((Mo.c s.1 : Nat) : Int), .int .u8 ((Mo.n s.1 : Nat) : Int), .int .u8 ((Mo.d s.1 : Nat) : Int)] 123 (0, 0)) ∧ v.heap[g12]? = some (.cells #[.int .u8 ((Mo.m s.1 : Nat) : Int), .int .u16 ((Mo.s s.1 : Nat) : Int), .int .u8 ((Mo.c s.1 : Nat) : Int), .int .u8 ((Mo.n s.1 : Nat) : Int), .int .u8 ((Mo.d s.1 : Nat) : Int)] 129 (0, 0))) ⟨b10, b12⟩
            have HJ := Lib.hid hIW
            have HW := Lib.hid hWI
            clear hWI hIW
            have hq := HQ.out.step (show Below w9.heap.size w9 w9.drew from ⟨rfl, rfl, rfl, Nat.le_refl _, fun _ _ => rfl⟩)
            have r5 := hq.of 1 rfl
            have hq2 := hq.put 1 rfl #[.int .u8 ((Mo.m s.1 : Nat) : Int), .int .u16 ((Mo.s s.1 : Nat) : Int), .int .u8 ((Mo.c s.1 : Nat) : Int), .int .u8 ((Mo.n s.1 : Nat) : Int), .int .u8 ((Mo.d s.1 : Nat) : Int)]
            have r6 := hq2.of 2 rfl
            have HV := Lib.hid (hq2.put 2 rfl #[.int .u8 ((Mo.m s.1 : Nat) : Int), .int .u16 ((Mo.s s.1 : Nat) : Int), .int .u8 ((Mo.c s.1 : Nat) : Int), .int .u8 ((Mo.n s.1 : Nat) : Int), .int .u8 ((Mo.d s.1 : Nat) : Int)])
            have d10 := hq2.of 4 rfl
            have d12 := hq2.of 5 rfl
            have e10 := HV.out.of 4 rfl
            have e12 := HV.out.of 5 rfl
            clear hq hq2
            refine Go.Mix.wp_region (fun w' => ∃ i, w' = W i) (by kernel_rfl) (by kernel_rfl) (HJ.out _ ⟨b10, b12⟩) ?_
            simp only []
            (refine Go.Mix.walk_calm rfl ?_ (fun K hK => ?_); (first | exact Go.Mix.wanted_none rfl | exact Go.Mix.wanted_tt rfl rfl rfl | exact Go.Mix.wanted_ff rfl rfl rfl); refine Go.Flo.quiet_load_row 123 _ rfl _ rfl _ #[.int .u8 ((Mo.m s.1 : Nat) : Int), .int .u16 ((Mo.s s.1 : Nat) : Int), .int .u8 ((Mo.c s.1 : Nat) : Int), .int .u8 ((Mo.n s.1 : Nat) : Int), .int .u8 ((Mo.d s.1 : Nat) : Int)] _ (by rintro _ ⟨i, rfl⟩; exact (HW.out i).1) Try.underlying123 rfl size_mo ?_; go_simp; refine hK _ ?_; clear hK K)
            (refine Go.Mix.walk_calm rfl ?_ (fun K hK => ?_); (first | exact Go.Mix.wanted_none rfl | exact Go.Mix.wanted_tt rfl rfl rfl | exact Go.Mix.wanted_ff rfl rfl rfl); refine Go.Flo.quiet_load_row 129 _ rfl _ rfl _ #[.int .u8 ((Mo.m s.1 : Nat) : Int), .int .u16 ((Mo.s s.1 : Nat) : Int), .int .u8 ((Mo.c s.1 : Nat) : Int), .int .u8 ((Mo.n s.1 : Nat) : Int), .int .u8 ((Mo.d s.1 : Nat) : Int)] _ (by rintro _ ⟨i, rfl⟩; exact (HW.out i).2) Try.underlying129 rfl size_mr ?_; go_simp; refine hK _ ?_; clear hK K)
            (refine Go.Mix.walk_loud rfl ?_ (fun K hK => ?_); (first | exact Go.Mix.wanted_none rfl | exact Go.Mix.wanted_tt rfl rfl rfl | exact Go.Mix.wanted_ff rfl rfl rfl); refine wp_store_row 123 _ _ rfl _ #[.int .u8 ((Mo.m s.1 : Nat) : Int), .int .u16 ((Mo.s s.1 : Nat) : Int), .int .u8 ((Mo.c s.1 : Nat) : Int), .int .u8 ((Mo.n s.1 : Nat) : Int), .int .u8 ((Mo.d s.1 : Nat) : Int)] rfl rfl 123 _ r5 size_mo rfl (by simp [Value.oneCell']) (hK _ _ (HJ.out _ ⟨d10, d12⟩) ?_); clear hK K)
            (refine Go.Mix.walk_loud rfl ?_ (fun K hK => ?_); (first | exact Go.Mix.wanted_none rfl | exact Go.Mix.wanted_tt rfl rfl rfl | exact Go.Mix.wanted_ff rfl rfl rfl); refine wp_store_row 129 _ _ rfl _ #[.int .u8 ((Mo.m s.1 : Nat) : Int), .int .u16 ((Mo.s s.1 : Nat) : Int), .int .u8 ((Mo.c s.1 : Nat) : Int), .int .u8 ((Mo.n s.1 : Nat) : Int), .int .u8 ((Mo.d s.1 : Nat) : Int)] rfl rfl 129 _ r6 size_mr rfl (by simp [Value.oneCell']) (hK _ _ (HJ.out _ ⟨e10, e12⟩) ?_); clear hK K)
            refine Go.Mix.walk_nil ?_
            simp only [Act.put]
            clear HJ HW hne b10 b12 d10 d12 e10 e12 r5 r6
            clear W I
            go_wp2_with fail
            go_meet
            case rel =>
              rw [HA1.out]
              exact Bq.front (bs := [(g2, #[.int .u8 ((Cf.calm c : Nat) : Int), .int .u8 ((Cf.seen c : Nat) : Int), .int .u8 ((Cf.lost c : Nat) : Int), .int .u16 ((Cf.t c 0 : Nat) : Int), .int .u16 ((Cf.t c 1 : Nat) : Int), .int .u16 ((Cf.t c 2 : Nat) : Int), .int .u16 ((Cf.t c 3 : Nat) : Int)], 126), (g5, #[.int .u8 ((Mo.m s.1 : Nat) : Int), .int .u16 ((Mo.s s.1 : Nat) : Int), .int .u8 ((Mo.c s.1 : Nat) : Int), .int .u8 ((Mo.n s.1 : Nat) : Int), .int .u8 ((Mo.d s.1 : Nat) : Int)], 123), (g6, #[.int .u8 ((Mo.m s.1 : Nat) : Int), .int .u16 ((Mo.s s.1 : Nat) : Int), .int .u8 ((Mo.c s.1 : Nat) : Int), .int .u8 ((Mo.n s.1 : Nat) : Int), .int .u8 ((Mo.d s.1 : Nat) : Int)], 129), (g8, #[.int .u8 ((Ac.k x : Nat) : Int), .bool (Ac.c x), .bool (Ac.n x), .bool (Ac.f x)], 143)]) (cs := [(g10, #[.int .u8 ((Mo.m s.1 : Nat) : Int), .int .u16 ((Mo.s s.1 : Nat) : Int), .int .u8 ((Mo.c s.1 : Nat) : Int), .int .u8 ((Mo.n s.1 : Nat) : Int), .int .u8 ((Mo.d s.1 : Nat) : Int)], 123), (g12, #[.int .u8 ((Mo.m s.1 : Nat) : Int), .int .u16 ((Mo.s s.1 : Nat) : Int), .int .u8 ((Mo.c s.1 : Nat) : Int), .int .u8 ((Mo.n s.1 : Nat) : Int), .int .u8 ((Mo.d s.1 : Nat) : Int)], 129)]) HV.out
          · have hs1 : s.1 = a := HSE.out h0
            have hs0 : ((s.2 : Int) != 0) = true := by rw [bne_iff_ne]; omega
            clear h0
            have HS1 := Lib.hid hs1
            clear hs1
            skip
            have c0 : w9.cell? ⟨g5, 0, none⟩ = some (.int .u8 ((a.m : Nat) : Int)) := cell_of_row _ _ 0 _ _ _ (HQ.out.of 1 rfl)
            have c1 : w9.cell? ⟨g5, 1, none⟩ = some (.int .u16 ((a.s : Nat) : Int)) := cell_of_row _ _ 1 _ _ _ (HQ.out.of 1 rfl)
            have c2 : w9.cell? ⟨g5, 2, none⟩ = some (.int .u8 ((a.c : Nat) : Int)) := cell_of_row _ _ 2 _ _ _ (HQ.out.of 1 rfl)
            have c3 : w9.cell? ⟨g5, 3, none⟩ = some (.int .u8 ((a.n : Nat) : Int)) := cell_of_row _ _ 3 _ _ _ (HQ.out.of 1 rfl)
            have c4 : w9.cell? ⟨g5, 4, none⟩ = some (.int .u8 ((a.d : Nat) : Int)) := cell_of_row _ _ 4 _ _ _ (HQ.out.of 1 rfl)
            have x0 : w9.cell? ⟨g10, 0, none⟩ = some (.int .u8 ((a.m : Nat) : Int)) := by rw [← HS1.out]; exact cell_of_row _ _ 0 _ _ _ (HQ.out.of 4 rfl)
            have x1 : w9.cell? ⟨g10, 1, none⟩ = some (.int .u16 ((a.s : Nat) : Int)) := by rw [← HS1.out]; exact cell_of_row _ _ 1 _ _ _ (HQ.out.of 4 rfl)
            have x2 : w9.cell? ⟨g10, 2, none⟩ = some (.int .u8 ((a.c : Nat) : Int)) := by rw [← HS1.out]; exact cell_of_row _ _ 2 _ _ _ (HQ.out.of 4 rfl)
            have x3 : w9.cell? ⟨g10, 3, none⟩ = some (.int .u8 ((a.n : Nat) : Int)) := by rw [← HS1.out]; exact cell_of_row _ _ 3 _ _ _ (HQ.out.of 4 rfl)
            have x4 : w9.cell? ⟨g10, 4, none⟩ = some (.int .u8 ((a.d : Nat) : Int)) := by rw [← HS1.out]; exact cell_of_row _ _ 4 _ _ _ (HQ.out.of 4 rfl)
            have hne := neqMo HA.out
            go_upto_region 14 with fail
            clear hs0 c0 c1 c2 c3 c4 x0 x1 x2 x3 x4 hne HS1
            skip
            have b10 := HQ.out.of 4 rfl
            have b12 := HQ.out.of 5 rfl
            obtain ⟨I, W, hne, hWI, hIW⟩ := Go.Mix.family (fun v => v.heap[g10]? = some (.cells #[.int .u8 ((Mo.m s.1 : Nat) : Int), .int .u16 ((Mo.s s.1 : Nat) : Int), .int .u8 ((Mo.c s.1 : Nat) : Int), .int .u8 ((Mo.n s.1 : Nat) : Int), .int .u8 ((Mo.d s.1 : Nat) : Int)] 123 (0, 0)) ∧ v.heap[g12]? = some (.cells #[.int .u8 ((Mo.m s.1 : Nat) : Int), .int .u16 ((Mo.s s.1 : Nat) : Int), .int .u8 ((Mo.c s.1 : Nat) : Int), .int .u8 ((Mo.n s.1 : Nat) : Int), .int .u8 ((Mo.d s.1 : Nat) : Int)] 129 (0, 0))) ⟨b10, b12⟩
            have HJ := Lib.hid hIW
            have HW := Lib.hid hWI
            clear hWI hIW
            have hq := HQ.out.step (show Below w9.heap.size w9 w9.drew from ⟨rfl, rfl, rfl, Nat.le_refl _, fun _ _ => rfl⟩)
            have r5 := hq.of 1 rfl
            have hq2 := hq.put 1 rfl #[.int .u8 ((Mo.m s.1 : Nat) : Int), .int .u16 ((Mo.s s.1 : Nat) : Int), .int .u8 ((Mo.c s.1 : Nat) : Int), .int .u8 ((Mo.n s.1 : Nat) : Int), .int .u8 ((Mo.d s.1 : Nat) : Int)]
            have r6 := hq2.of 2 rfl
            have HV := Lib.hid (hq2.put 2 rfl #[.int .u8 ((Mo.m s.1 : Nat) : Int), .int .u16 ((Mo.s s.1 : Nat) : Int), .int .u8 ((Mo.c s.1 : Nat) : Int), .int .u8 ((Mo.n s.1 : Nat) : Int), .int .u8 ((Mo.d s.1 : Nat) : Int)])
            have d10 := hq2.of 4 rfl
            have d12 := hq2.of 5 rfl
            have e10 := HV.out.of 4 rfl
            have e12 := HV.out.of 5 rfl
            clear hq hq2
            refine Go.Mix.wp_region (fun w' => ∃ i, w' = W i) (by kernel_rfl) (by kernel_rfl) (HJ.out _ ⟨b10, b12⟩) ?_
            simp only []
            (refine Go.Mix.walk_calm rfl ?_ (fun K hK => ?_); (first | exact Go.Mix.wanted_none rfl | exact Go.Mix.wanted_tt rfl rfl rfl | exact Go.Mix.wanted_ff rfl rfl rfl); refine Go.Flo.quiet_load_row 123 _ rfl _ rfl _ #[.int .u8 ((Mo.m s.1 : Nat) : Int), .int .u16 ((Mo.s s.1 : Nat) : Int), .int .u8 ((Mo.c s.1 : Nat) : Int), .int .u8 ((Mo.n s.1 : Nat) : Int), .int .u8 ((Mo.d s.1 : Nat) : Int)] _ (by rintro _ ⟨i, rfl⟩; exact (HW.out i).1) Try.underlying123 rfl size_mo ?_; go_simp; refine hK _ ?_; clear hK K)
            (refine Go.Mix.walk_calm rfl ?_ (fun K hK => ?_); (first | exact Go.Mix.wanted_none rfl | exact Go.Mix.wanted_tt rfl rfl rfl | exact Go.Mix.wanted_ff rfl rfl rfl); refine Go.Flo.quiet_load_row 129 _ rfl _ rfl _ #[.int .u8 ((Mo.m s.1 : Nat) : Int), .int .u16 ((Mo.s s.1 : Nat) : Int), .int .u8 ((Mo.c s.1 : Nat) : Int), .int .u8 ((Mo.n s.1 : Nat) : Int), .int .u8 ((Mo.d s.1 : Nat) : Int)] _ (by rintro _ ⟨i, rfl⟩; exact (HW.out i).2) Try.underlying129 rfl size_mr ?_; go_simp; refine hK _ ?_; clear hK K)
            (refine Go.Mix.walk_loud rfl ?_ (fun K hK => ?_); (first | exact Go.Mix.wanted_none rfl | exact Go.Mix.wanted_tt rfl rfl rfl | exact Go.Mix.wanted_ff rfl rfl rfl); refine wp_store_row 123 _ _ rfl _ #[.int .u8 ((Mo.m s.1 : Nat) : Int), .int .u16 ((Mo.s s.1 : Nat) : Int), .int .u8 ((Mo.c s.1 : Nat) : Int), .int .u8 ((Mo.n s.1 : Nat) : Int), .int .u8 ((Mo.d s.1 : Nat) : Int)] rfl rfl 123 _ r5 size_mo rfl (by simp [Value.oneCell']) (hK _ _ (HJ.out _ ⟨d10, d12⟩) ?_); clear hK K)
            (refine Go.Mix.walk_loud rfl ?_ (fun K hK => ?_); (first | exact Go.Mix.wanted_none rfl | exact Go.Mix.wanted_tt rfl rfl rfl | exact Go.Mix.wanted_ff rfl rfl rfl); refine wp_store_row 129 _ _ rfl _ #[.int .u8 ((Mo.m s.1 : Nat) : Int), .int .u16 ((Mo.s s.1 : Nat) : Int), .int .u8 ((Mo.c s.1 : Nat) : Int), .int .u8 ((Mo.n s.1 : Nat) : Int), .int .u8 ((Mo.d s.1 : Nat) : Int)] rfl rfl 129 _ r6 size_mr rfl (by simp [Value.oneCell']) (hK _ _ (HJ.out _ ⟨e10, e12⟩) ?_); clear hK K)
            refine Go.Mix.walk_nil ?_
            simp only [Act.put]
            clear HJ HW hne b10 b12 d10 d12 e10 e12 r5 r6
            clear W I
            go_wp2_with fail
            go_meet
            case rel =>
              rw [HA1.out]
              exact Bq.front (bs := [(g2, #[.int .u8 ((Cf.calm c : Nat) : Int), .int .u8 ((Cf.seen c : Nat) : Int), .int .u8 ((Cf.lost c : Nat) : Int), .int .u16 ((Cf.t c 0 : Nat) : Int), .int .u16 ((Cf.t c 1 : Nat) : Int), .int .u16 ((Cf.t c 2 : Nat) : Int), .int .u16 ((Cf.t c 3 : Nat) : Int)], 126), (g5, #[.int .u8 ((Mo.m s.1 : Nat) : Int), .int .u16 ((Mo.s s.1 : Nat) : Int), .int .u8 ((Mo.c s.1 : Nat) : Int), .int .u8 ((Mo.n s.1 : Nat) : Int), .int .u8 ((Mo.d s.1 : Nat) : Int)], 123), (g6, #[.int .u8 ((Mo.m s.1 : Nat) : Int), .int .u16 ((Mo.s s.1 : Nat) : Int), .int .u8 ((Mo.c s.1 : Nat) : Int), .int .u8 ((Mo.n s.1 : Nat) : Int), .int .u8 ((Mo.d s.1 : Nat) : Int)], 129), (g8, #[.int .u8 ((Ac.k x : Nat) : Int), .bool (Ac.c x), .bool (Ac.n x), .bool (Ac.f x)], 143)]) (cs := [(g10, #[.int .u8 ((Mo.m s.1 : Nat) : Int), .int .u16 ((Mo.s s.1 : Nat) : Int), .int .u8 ((Mo.c s.1 : Nat) : Int), .int .u8 ((Mo.n s.1 : Nat) : Int), .int .u8 ((Mo.d s.1 : Nat) : Int)], 123), (g12, #[.int .u8 ((Mo.m s.1 : Nat) : Int), .int .u16 ((Mo.s s.1 : Nat) : Int), .int .u8 ((Mo.c s.1 : Nat) : Int), .int .u8 ((Mo.n s.1 : Nat) : Int), .int .u8 ((Mo.d s.1 : Nat) : Int)], 129)]) HV.out
        · have hA1 := HAA.out
          rw [if_neg h4] at hA1
          have HA1 := Lib.hid hA1
          clear hA1
          go_wp2_with fail
          go_meet
          case rel => rw [HA1.out]; exact HQ6.out
      case rest =>
      have HQ7 := Lib.hid hcut
      clear hcut HQ6 HAA HA c0 k0
      have c0 : wc.cell? ⟨g5, 0, none⟩ = some (.int .u8 ((A.m : Nat) : Int)) := cell_of_row _ _ 0 _ _ _ (HQ7.out.of 1 rfl)
      have k1 : wc.cell? ⟨g8, 1, none⟩ = some (.bool x.c) := cell_of_row _ _ 1 _ _ _ (HQ7.out.of 3 rfl)
      have k2 : wc.cell? ⟨g8, 2, none⟩ = some (.bool x.n) := cell_of_row _ _ 2 _ _ _ (HQ7.out.of 3 rfl)
      have k3 : wc.cell? ⟨g8, 3, none⟩ = some (.bool x.f) := cell_of_row _ _ 3 _ _ _ (HQ7.out.of 3 rfl)
      have b2 := HQ7.out.of 0 rfl
      have b5 := HQ7.out.of 1 rfl
      have HS1 := Lib.hid (fun w => Step_any A c x.c x.n x.f w HAO.out HC.out)
      have HS2 := Lib.hid (fun w => rStep_any A c x.c x.n x.f w HAO.out HC.out)
      have HRO := Lib.hid (step_ok HAO.out c x.c x.n x.f)
      have HPL := Lib.hid (step_plays A c x.c x.n x.f)
      obtain ⟨r, hr⟩ : ∃ r, stepM A c x.c x.n x.f = r := ⟨_, rfl⟩
      rw [hr] at HS1 HS2 HRO HPL
      clear hr
      go_wp2_with (first | ((with_reducible show wpList _ _ _ (_ :: _) _ _); refine wpList_load_row rfl 123 _ rfl _ rfl _ _ _ _ b5 Try.underlying123 rfl (by exact size_mo) ?_; (try go_simp)) | ((with_reducible show wpList _ _ _ (_ :: _) _ _); refine wpList_load_row rfl 126 _ rfl _ rfl _ _ _ _ b2 Try.underlying126 rfl (by exact size_cf) ?_; (try go_simp)))
      refine (HS1.out _).mono ?_
      rintro e w6 ⟨rfl, hb⟩
      have hq := HQ7.out.step hb
      have b5 := hq.of 1 rfl
      have HV := Lib.hid (hq.put 1 rfl #[.int .u8 ((Mo.m r.1 : Nat) : Int), .int .u16 ((Mo.s r.1 : Nat) : Int), .int .u8 ((Mo.c r.1 : Nat) : Int), .int .u8 ((Mo.n r.1 : Nat) : Int), .int .u8 ((Mo.d r.1 : Nat) : Int)])
      clear hb b2 HQ7 HS1 hq c0 k1 k2 k3
      go_upto_region 20 with ((with_reducible show wpList _ _ _ (_ :: _) _ _); refine wpList_store_row rfl 123 _ _ rfl _ _ rfl rfl _ _ b5 (by exact size_mo) (by rfl) (by simp [Value.oneCell']) ?_)
      obtain ⟨w7, hw7⟩ : ∃ w1, w1 = w6.setRow g5 #[.int .u8 ((Mo.m r.1 : Nat) : Int), .int .u16 ((Mo.s r.1 : Nat) : Int), .int .u8 ((Mo.c r.1 : Nat) : Int), .int .u8 ((Mo.n r.1 : Nat) : Int), .int .u8 ((Mo.d r.1 : Nat) : Int)] := ⟨_, rfl⟩
      have HQ8 := Lib.hid (show Bq w w7 [(g2, #[.int .u8 ((Cf.calm c : Nat) : Int), .int .u8 ((Cf.seen c : Nat) : Int), .int .u8 ((Cf.lost c : Nat) : Int), .int .u16 ((Cf.t c 0 : Nat) : Int), .int .u16 ((Cf.t c 1 : Nat) : Int), .int .u16 ((Cf.t c 2 : Nat) : Int), .int .u16 ((Cf.t c 3 : Nat) : Int)], 126), (g5, #[.int .u8 ((Mo.m r.1 : Nat) : Int), .int .u16 ((Mo.s r.1 : Nat) : Int), .int .u8 ((Mo.c r.1 : Nat) : Int), .int .u8 ((Mo.n r.1 : Nat) : Int), .int .u8 ((Mo.d r.1 : Nat) : Int)], 123), (g6, #[.int .u8 ((Mo.m A : Nat) : Int), .int .u16 ((Mo.s A : Nat) : Int), .int .u8 ((Mo.c A : Nat) : Int), .int .u8 ((Mo.n A : Nat) : Int), .int .u8 ((Mo.d A : Nat) : Int)], 129), (g8, #[.int .u8 ((Ac.k x : Nat) : Int), .bool (Ac.c x), .bool (Ac.n x), .bool (Ac.f x)], 143)] by rw [hw7]; exact HV.out)
      rw [← hw7]
      clear hw7 HV b5
      have k1 : w7.cell? ⟨g8, 1, none⟩ = some (.bool x.c) := cell_of_row _ _ 1 _ _ _ (HQ8.out.of 3 rfl)
      have k2 : w7.cell? ⟨g8, 2, none⟩ = some (.bool x.n) := cell_of_row _ _ 2 _ _ _ (HQ8.out.of 3 rfl)
      have k3 : w7.cell? ⟨g8, 3, none⟩ = some (.bool x.f) := cell_of_row _ _ 3 _ _ _ (HQ8.out.of 3 rfl)
      have b2 := HQ8.out.of 0 rfl
      have b6 := HQ8.out.of 2 rfl
      go_wp2_with (first | ((with_reducible show wpList _ _ _ (_ :: _) _ _); refine wpList_load_row rfl 129 _ rfl _ rfl _ _ _ _ b6 Try.underlying129 rfl (by exact size_mr) ?_; (try go_simp)) | ((with_reducible show wpList _ _ _ (_ :: _) _ _); refine wpList_load_row rfl 126 _ rfl _ rfl _ _ _ _ b2 Try.underlying126 rfl (by exact size_cf) ?_; (try go_simp)))
      refine (HS2.out _).mono ?_
      rintro e w8 ⟨rfl, hb⟩
      have hq := HQ8.out.step hb
      have b6 := hq.of 2 rfl
      have HV := Lib.hid (hq.put 2 rfl #[.int .u8 ((Mo.m r.1 : Nat) : Int), .int .u16 ((Mo.s r.1 : Nat) : Int), .int .u8 ((Mo.c r.1 : Nat) : Int), .int .u8 ((Mo.n r.1 : Nat) : Int), .int .u8 ((Mo.d r.1 : Nat) : Int)])
      clear hb b2 HQ8 HS2 hq k1 k2 k3
      go_upto_region 21 with ((with_reducible show wpList _ _ _ (_ :: _) _ _); refine wpList_store_row rfl 129 _ _ rfl _ _ rfl rfl _ _ b6 (by exact size_mr) (by rfl) (by simp [Value.oneCell']) ?_)
      obtain ⟨w9, hw9⟩ : ∃ w1, w1 = w8.setRow g6 #[.int .u8 ((Mo.m r.1 : Nat) : Int), .int .u16 ((Mo.s r.1 : Nat) : Int), .int .u8 ((Mo.c r.1 : Nat) : Int), .int .u8 ((Mo.n r.1 : Nat) : Int), .int .u8 ((Mo.d r.1 : Nat) : Int)] := ⟨_, rfl⟩
      have HQ9 := Lib.hid (show Bq w w9 [(g2, #[.int .u8 ((Cf.calm c : Nat) : Int), .int .u8 ((Cf.seen c : Nat) : Int), .int .u8 ((Cf.lost c : Nat) : Int), .int .u16 ((Cf.t c 0 : Nat) : Int), .int .u16 ((Cf.t c 1 : Nat) : Int), .int .u16 ((Cf.t c 2 : Nat) : Int), .int .u16 ((Cf.t c 3 : Nat) : Int)], 126), (g5, #[.int .u8 ((Mo.m r.1 : Nat) : Int), .int .u16 ((Mo.s r.1 : Nat) : Int), .int .u8 ((Mo.c r.1 : Nat) : Int), .int .u8 ((Mo.n r.1 : Nat) : Int), .int .u8 ((Mo.d r.1 : Nat) : Int)], 123), (g6, #[.int .u8 ((Mo.m r.1 : Nat) : Int), .int .u16 ((Mo.s r.1 : Nat) : Int), .int .u8 ((Mo.c r.1 : Nat) : Int), .int .u8 ((Mo.n r.1 : Nat) : Int), .int .u8 ((Mo.d r.1 : Nat) : Int)], 129), (g8, #[.int .u8 ((Ac.k x : Nat) : Int), .bool (Ac.c x), .bool (Ac.n x), .bool (Ac.f x)], 143)] by rw [hw9]; exact HV.out)
      rw [← hw9]
      clear hw9 HV b6
      simp only [Act.put]
      have b5 := HQ9.out.of 1 rfl
      have b6 := HQ9.out.of 2 rfl
      have p0 : w9.cell? ⟨g5, 0, none⟩ = some (.int .u8 ((r.1.m : Nat) : Int)) := cell_of_row _ _ 0 _ _ _ (HQ9.out.of 1 rfl)
      have k3 : w9.cell? ⟨g8, 3, none⟩ = some (.bool x.f) := cell_of_row _ _ 3 _ _ _ (HQ9.out.of 3 rfl)
      have hne := neqMr HRO.out
      obtain ⟨z5, hz5⟩ : ∃ z, ((r.2 : Int) != 0) = z := ⟨_, rfl⟩
      have hz6 : ((r.1.m : Int) != (A.m : Int)) = z5 := by
        have h := HPL.out.2.2.2
        rw [← hz5, Bool.eq_iff_iff, bne_iff_ne, bne_iff_ne]
        omega
      have hbn : (z5 != z5) = false := by cases z5 <;> rfl
      obtain ⟨fs, hfs⟩ : ∃ t, t = x.f := ⟨_, rfl⟩
      rw [← hfs] at k3
      have HFS := Lib.hid hfs
      clear hfs
      obtain ⟨pl1, pl2, pl3, _⟩ := HPL.out
      by_cases hA0 : A.m = 0
      · have hp := pl1 hA0
        have e1 : ((A.m : Int) == 0) = true := by rw [beq_iff_eq]; omega
        have e2 : ((r.1.m : Int) != 0) = false := by rw [hp]; rfl
        have e3 : ((r.1.m : Int) == 3) = false := by rw [hp]; rfl
        clear pl1 pl2 pl3 hA0 hp
        cases fs
        all_goals
          go_wp2_with (first | ((with_reducible show wpList _ _ _ (_ :: _) _ _); refine wpList_load_row rfl 123 _ rfl _ rfl _ _ _ _ b5 Try.underlying123 rfl (by exact size_mo) ?_; (try go_simp)) | ((with_reducible show wpList _ _ _ (_ :: _) _ _); refine wpList_load_row rfl 129 _ rfl _ rfl _ _ _ _ b6 Try.underlying129 rfl (by exact size_mr) ?_; (try go_simp)))
          go_roundw
          case rel => exact ⟨i + 1, r.1, by omega, HRO.out, by go_num, Bq.front (bs := [(g2, #[.int .u8 ((Cf.calm c : Nat) : Int), .int .u8 ((Cf.seen c : Nat) : Int), .int .u8 ((Cf.lost c : Nat) : Int), .int .u16 ((Cf.t c 0 : Nat) : Int), .int .u16 ((Cf.t c 1 : Nat) : Int), .int .u16 ((Cf.t c 2 : Nat) : Int), .int .u16 ((Cf.t c 3 : Nat) : Int)], 126), (g5, #[.int .u8 ((Mo.m r.1 : Nat) : Int), .int .u16 ((Mo.s r.1 : Nat) : Int), .int .u8 ((Mo.c r.1 : Nat) : Int), .int .u8 ((Mo.n r.1 : Nat) : Int), .int .u8 ((Mo.d r.1 : Nat) : Int)], 123), (g6, #[.int .u8 ((Mo.m r.1 : Nat) : Int), .int .u16 ((Mo.s r.1 : Nat) : Int), .int .u8 ((Mo.c r.1 : Nat) : Int), .int .u8 ((Mo.n r.1 : Nat) : Int), .int .u8 ((Mo.d r.1 : Nat) : Int)], 129)]) (cs := [(g8, #[.int .u8 ((Ac.k x : Nat) : Int), .bool (Ac.c x), .bool (Ac.n x), .bool (Ac.f x)], 143)]) HQ9.out⟩
          case measure => simp [intOf]; omega
      · have e1 : ((A.m : Int) == 0) = false := by rw [beq_eq_false_iff_ne]; omega
        by_cases hp3 : r.1.m = 3
        · have hA3 := pl2 hp3
          have e3 : ((r.1.m : Int) == 3) = true := by rw [beq_iff_eq]; omega
          have e4 : ((A.m : Int) != 3) = false := by rw [hA3]; rfl
          obtain rfl : fs = false := by
            cases fs
            · rfl
            · have := pl3 HFS.out.symm; omega
          clear pl1 pl2 pl3 hA0 hp3 hA3
          go_wp2_with (first | ((with_reducible show wpList _ _ _ (_ :: _) _ _); refine wpList_load_row rfl 123 _ rfl _ rfl _ _ _ _ b5 Try.underlying123 rfl (by exact size_mo) ?_; (try go_simp)) | ((with_reducible show wpList _ _ _ (_ :: _) _ _); refine wpList_load_row rfl 129 _ rfl _ rfl _ _ _ _ b6 Try.underlying129 rfl (by exact size_mr) ?_; (try go_simp)))
          go_roundw
          case rel => exact ⟨i + 1, r.1, by omega, HRO.out, by go_num, Bq.front (bs := [(g2, #[.int .u8 ((Cf.calm c : Nat) : Int), .int .u8 ((Cf.seen c : Nat) : Int), .int .u8 ((Cf.lost c : Nat) : Int), .int .u16 ((Cf.t c 0 : Nat) : Int), .int .u16 ((Cf.t c 1 : Nat) : Int), .int .u16 ((Cf.t c 2 : Nat) : Int), .int .u16 ((Cf.t c 3 : Nat) : Int)], 126), (g5, #[.int .u8 ((Mo.m r.1 : Nat) : Int), .int .u16 ((Mo.s r.1 : Nat) : Int), .int .u8 ((Mo.c r.1 : Nat) : Int), .int .u8 ((Mo.n r.1 : Nat) : Int), .int .u8 ((Mo.d r.1 : Nat) : Int)], 123), (g6, #[.int .u8 ((Mo.m r.1 : Nat) : Int), .int .u16 ((Mo.s r.1 : Nat) : Int), .int .u8 ((Mo.c r.1 : Nat) : Int), .int .u8 ((Mo.n r.1 : Nat) : Int), .int .u8 ((Mo.d r.1 : Nat) : Int)], 129)]) (cs := [(g8, #[.int .u8 ((Ac.k x : Nat) : Int), .bool (Ac.c x), .bool (Ac.n x), .bool (Ac.f x)], 143)]) HQ9.out⟩
          case measure => simp [intOf]; omega
        · have e3 : ((r.1.m : Int) == 3) = false := by rw [beq_eq_false_iff_ne]; omega
          cases fs
          · clear pl1 pl2 pl3 hA0 hp3
            go_wp2_with (first | ((with_reducible show wpList _ _ _ (_ :: _) _ _); refine wpList_load_row rfl 123 _ rfl _ rfl _ _ _ _ b5 Try.underlying123 rfl (by exact size_mo) ?_; (try go_simp)) | ((with_reducible show wpList _ _ _ (_ :: _) _ _); refine wpList_load_row rfl 129 _ rfl _ rfl _ _ _ _ b6 Try.underlying129 rfl (by exact size_mr) ?_; (try go_simp)))
            go_roundw
            case rel => exact ⟨i + 1, r.1, by omega, HRO.out, by go_num, Bq.front (bs := [(g2, #[.int .u8 ((Cf.calm c : Nat) : Int), .int .u8 ((Cf.seen c : Nat) : Int), .int .u8 ((Cf.lost c : Nat) : Int), .int .u16 ((Cf.t c 0 : Nat) : Int), .int .u16 ((Cf.t c 1 : Nat) : Int), .int .u16 ((Cf.t c 2 : Nat) : Int), .int .u16 ((Cf.t c 3 : Nat) : Int)], 126), (g5, #[.int .u8 ((Mo.m r.1 : Nat) : Int), .int .u16 ((Mo.s r.1 : Nat) : Int), .int .u8 ((Mo.c r.1 : Nat) : Int), .int .u8 ((Mo.n r.1 : Nat) : Int), .int .u8 ((Mo.d r.1 : Nat) : Int)], 123), (g6, #[.int .u8 ((Mo.m r.1 : Nat) : Int), .int .u16 ((Mo.s r.1 : Nat) : Int), .int .u8 ((Mo.c r.1 : Nat) : Int), .int .u8 ((Mo.n r.1 : Nat) : Int), .int .u8 ((Mo.d r.1 : Nat) : Int)], 129)]) (cs := [(g8, #[.int .u8 ((Ac.k x : Nat) : Int), .bool (Ac.c x), .bool (Ac.n x), .bool (Ac.f x)], 143)]) HQ9.out⟩
            case measure => simp [intOf]; omega
          · have e2 : ((r.1.m : Int) != 0) = false := by rw [pl3 HFS.out.symm]; rfl
            clear pl1 pl2 pl3 hA0 hp3
            go_wp2_with (first | ((with_reducible show wpList _ _ _ (_ :: _) _ _); refine wpList_load_row rfl 123 _ rfl _ rfl _ _ _ _ b5 Try.underlying123 rfl (by exact size_mo) ?_; (try go_simp)) | ((with_reducible show wpList _ _ _ (_ :: _) _ _); refine wpList_load_row rfl 129 _ rfl _ rfl _ _ _ _ b6 Try.underlying129 rfl (by exact size_mr) ?_; (try go_simp)))
            go_roundw
            case rel => exact ⟨i + 1, r.1, by omega, HRO.out, by go_num, Bq.front (bs := [(g2, #[.int .u8 ((Cf.calm c : Nat) : Int), .int .u8 ((Cf.seen c : Nat) : Int), .int .u8 ((Cf.lost c : Nat) : Int), .int .u16 ((Cf.t c 0 : Nat) : Int), .int .u16 ((Cf.t c 1 : Nat) : Int), .int .u16 ((Cf.t c 2 : Nat) : Int), .int .u16 ((Cf.t c 3 : Nat) : Int)], 126), (g5, #[.int .u8 ((Mo.m r.1 : Nat) : Int), .int .u16 ((Mo.s r.1 : Nat) : Int), .int .u8 ((Mo.c r.1 : Nat) : Int), .int .u8 ((Mo.n r.1 : Nat) : Int), .int .u8 ((Mo.d r.1 : Nat) : Int)], 123), (g6, #[.int .u8 ((Mo.m r.1 : Nat) : Int), .int .u16 ((Mo.s r.1 : Nat) : Int), .int .u8 ((Mo.c r.1 : Nat) : Int), .int .u8 ((Mo.n r.1 : Nat) : Int), .int .u8 ((Mo.d r.1 : Nat) : Int)], 129)]) (cs := [(g8, #[.int .u8 ((Ac.k x : Nat) : Int), .bool (Ac.c x), .bool (Ac.n x), .bool (Ac.f x)], 143)]) HQ9.out⟩
            case measure => simp [intOf]; omega
    · obtain rfl : i = len1 := by omega
      clear hlt hi
      go_wp2
      go_ret
      exact ⟨rfl, HQ.out.be⟩
end Go.Proofs.Ytnjkpamjjdkmoaa
