/- Layer 6: which of two is newer; the example. -/
import Derived.Test.YtifjnpmkcgbniaaCel5
namespace Go.Proofs.Ytifjnpmkcgbniaa
open Go.RowKit Go.Own
set_option linter.unusedVariables false
set_option linter.unusedSimpArgs false

/-- Is the one newer than the other? -/
def newer (a b : List Nat) : Bool := decide (perr a = 0 ∧ (perr b ≠ 0 ∨ pseq b < pseq a))
set_option maxRecDepth 100000 in
set_option maxHeartbeats 4000000 in
theorem Newer_any (a b : Option Addr) (la lb ca cb n : Nat) (l r : List Nat) (w : World) (hn : n ≤ w.heap.size) (hl : l.length = la) (hr : r.length = lb)
    (ra : Rd n w a la ca (bv l)) (rb : Rd n w b lb cb (bv r)) (bl' : bytes l) (br' : bytes r) :
    Calls Try.prog 26 #[.slice a la ca, .slice b lb cb] w fun e w' => e = .returned (.bool (newer l r)) ∧ Below w.heap.size w w' := by
  have hzc := zero_content
  have hzt := zero_tab
  go_enter Try.func26, Try.ntmps26
  go_wp2_with fail
  go_at_call 60
  refine (Make_any _).mono ?_
  rintro e w1 ⟨rfl, hb1⟩
  go_wp2_with (first | (refine wpList_store_row rfl 98 _ _ rfl w1.heap.size tabV rfl rfl 98 (rowV 0) (heap_alloc_new _ _) size_tab' (by rw [rowV_size, tabV_size]) tabV_one' ?_; rw [World.setRow_alloc_new]) | (refine wpList_load_row rfl 98 _ rfl w1.heap.size rfl _ _ _ _ (IsTab.new w1) Try.underlying98 rfl size_tab' ?_))
  obtain ⟨gt, hgt⟩ : ∃ gt, gt = w1.heap.size := ⟨_, rfl⟩
  obtain ⟨W0, hW0⟩ : ∃ W0, W0 = w1.alloc (.cells tabV 98) := ⟨_, rfl⟩
  have hT0 : IsTab W0 gt := by rw [hW0, hgt]; exact IsTab.new w1
  have hB0 : Below w.heap.size w W0 := by rw [hW0]; exact hb1.alloc hb1.size _
  have hs0 : gt < W0.heap.size := by rw [hW0, hgt]; simp
  have hg0 : w.heap.size ≤ gt := by rw [hgt]; exact hb1.size
  rw [← hW0, ← hgt]
  clear hW0 hgt hb1
  go_at_call 62
  refine (open_any _ _ _ n l _ hl (Nat.le_trans hn hB0.size) (ra.below' hB0 hn) bl').mono ?_
  rintro e w2 ⟨hb2, hpo⟩
  have hB2 := hB0.trans (hb2.mono hB0.size)
  have hT2 := hT0.below hb2 (by omega)
  have hs2 := Nat.lt_of_lt_of_le hs0 hb2.size
  clear hT0 hb2
  rcases hpo with ⟨he, x2, c2, rfl, hrd2⟩ | ⟨he, rfl⟩
  · obtain ⟨q2, hq2⟩ : ∃ q2, q2 = pseq l := ⟨_, rfl⟩
    obtain ⟨m2, hm2⟩ : ∃ m2, m2 = (pdat l).length := ⟨_, rfl⟩
    rw [← hm2] at hrd2 ⊢
    rw [← hq2]
    have hb3 : Below w2.heap.size w2 (w2.alloc (.cells #[.int .u32 (q2 : Int), .slice x2 m2 c2] 102)) := (Below.refl _ _).alloc (Nat.le_refl _) _
    have hx3 : Box2 (w2.alloc (.cells #[.int .u32 (q2 : Int), .slice x2 m2 c2] 102)) w2.heap.size (.int .u32 (q2 : Int)) (.slice x2 m2 c2) := Box2.of (heap_alloc_new _ _)
    have hs3 : w2.heap.size < (w2.alloc (.cells #[.int .u32 (q2 : Int), .slice x2 m2 c2] 102)).heap.size := by simp
    have hT3 := hT2.below hb3 (by omega)
    have hB3 := hB2.trans (hb3.mono hB2.size)
    have HQ := Lib.hid hq2
    have HE := Lib.hid he
    have HB3 := Lib.hid hB3
    have HX3 := Lib.hid hx3
    have HS3 := Lib.hid hs3
    have HN3 := Lib.hid (Nat.le_trans hn hB3.size)
    clear hq2 hm2 hrd2 he hb3 hx3 hs3 hB3 hB2 hT2
    go_wp2_with (refine wpList_load_row rfl 98 _ rfl gt rfl _ _ _ _ hT3 Try.underlying98 rfl size_tab' ?_)
    go_at_call 62
    refine (open_any _ _ _ n r _ hr HN3.out (rb.below' HB3.out hn) br').mono ?_
    rintro e w4 ⟨hb4, hpo2⟩
    have hx4 := HX3.out.below hb4 HS3.out
    have hs4 := Nat.lt_of_lt_of_le HS3.out hb4.size
    have HB4 := Lib.hid (HB3.out.trans (hb4.mono HB3.out.size))
    obtain ⟨k0, k1, k2, k3⟩ := hx4
    clear k1 k2 k3 hT3 hb4
    rcases hpo2 with ⟨he2, x4, c4, rfl, hrd4⟩ | ⟨he2, rfl⟩
    · have e : newer l r = decide (pseq r < q2) := by unfold newer; rw [HQ.out]; simp [HE.out, he2]
      obtain ⟨q4, hq4⟩ : ∃ q4, q4 = pseq r := ⟨_, rfl⟩
      obtain ⟨m4, hm4⟩ : ∃ m4, m4 = (pdat r).length := ⟨_, rfl⟩
      rw [← hq4] at e
      rw [← hm4, ← hq4]
      have HEQ := Lib.hid e
      clear hm4 hq4 e he2 hrd4
      by_cases hlt : q4 < q2
      · have edI : decide ((q4 : Int) < (q2 : Int)) = true := by simp [hlt]
        go_wp2
        go_ret
        exact ⟨by rw [HEQ.out]; simp [hlt], HB4.out.alloc HB4.out.size _⟩
      · have edI : decide ((q4 : Int) < (q2 : Int)) = false := by simp [hlt]
        go_wp2
        go_ret
        exact ⟨by rw [HEQ.out]; simp [hlt], HB4.out.alloc HB4.out.size _⟩
    · have e : newer l r = true := by unfold newer; simp [HE.out, he2]
      have HEQ := Lib.hid e
      obtain ⟨q4, hq4⟩ : ∃ q4, q4 = perr r := ⟨_, rfl⟩
      rw [← hq4] at he2 ⊢
      clear e hq4
      go_wp2
      go_ret
      exact ⟨by rw [HEQ.out]; rfl, HB4.out.alloc HB4.out.size _⟩
  · have e : newer l r = false := by unfold newer; simp [he]
    have HEQ := Lib.hid e
    obtain ⟨q2, hq2⟩ : ∃ q2, q2 = perr l := ⟨_, rfl⟩
    rw [← hq2] at he ⊢
    clear e hq2
    go_wp2
    go_ret
    exact ⟨by rw [HEQ.out]; rfl, hB2.alloc hB2.size _⟩
end Go.Proofs.Ytifjnpmkcgbniaa
