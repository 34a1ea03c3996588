/- Commands and reports in their packets: Send, Tell. -/
import Derived.Test.YtmihhapedpalmaaPs3
namespace Go.Proofs.Ytmihhapedpalmaa
open Go.RowKit Go.Own
set_option linter.unusedVariables false
set_option linter.unusedSimpArgs false

def sdErr (ap ct a len : Nat) : Nat := if cmBad a len ≠ 0 then cmBad a len else pkRight ap ct (len + 5)
def tlErr (ap ct len : Nat) : Nat := if rpBad len ≠ 0 then rpBad len else pkRight ap ct (len + 11)
def Sent (w : World) (er m : Nat) (K : List Nat) (e : Ending) (w' : World) : Prop :=
  Below w.heap.size w w' ∧ ((er ≠ 0 ∧ e = .returned (.tuple #[.slice none 0 0, .int .i64 (er : Nat)])) ∨
    (er = 0 ∧ ∃ v, e = .returned (.tuple #[v, .int .i64 0]) ∧ w'.ownsRow w.heap.size 5 1 v m (bl K)))
/- #1 the box's cells, #2 its type, #3 the contract of Bytes, #4 the packet's flag, #5 bad -/
set_option maxRecDepth 100000 in
set_option maxHeartbeats 2000000 in
theorem Send_any (ap ct a s u c : Nat) (x : Option Addr) (len cap n : Nat) (d : List Nat) (w : World) (hap : ap < 65536) (hct : ct < 65536) (ha : a < 256) (hs : s < 256) (hu : u < 256) (hc : c < 65536) (hl : d.length = len) (hn : n ≤ w.heap.size) (hr : Rd n w x len cap (bv d)) (hb : bytes d) :
    Calls Try.prog 28 #[.int .u16 ap, .int .u16 ct, .agg #[.int .u8 (a : Nat), .int .u8 (s : Nat), .int .u8 (u : Nat), .int .u16 (c : Nat), .slice x len cap]] w (Sent w (sdErr ap ct a len) (len + 13) (mkPkt 1 ap ct (cmB a s u c d))) := by
  have HR := Lib.hid hr
  have HL := Lib.hid hl
  clear hr hl
  go_enter Try.func28, Try.ntmps28
  skip
  go_wp2_with fail
  have hal : Below w.heap.size w (w.alloc (.cells #[.int .u8 (a : Nat), .int .u8 (s : Nat), .int .u8 (u : Nat), .int .u16 (c : Nat), .slice x len cap] 56)) := (Below.refl _ _).alloc (Nat.le_refl _) _
  have HR1 := Lib.hid ((HR.out.below' hal hn).mono (Nat.le_trans hn hal.size))
  go_at_call 64
  refine (cBytes_any a s u c x len cap _ d _ ha hs hu hc HL.out (Nat.le_refl _) (HR1.out.mono (Nat.le_refl _))).mono ?_
  rintro e w1 ⟨hb1, ⟨hne, rfl⟩ | ⟨h0, v, rfl, hown⟩⟩
  · have hB := Lib.hid (hal.trans (hb1.mono hal.size))
    have HE := Lib.hid (show sdErr ap ct a len = cmBad a len by unfold sdErr; rw [if_pos hne])
    obtain ⟨er, her⟩ : ∃ er, er = cmBad a len := ⟨_, rfl⟩
    rw [← her] at hne HE ⊢
    have heI : ((er : Int) != 0) = true := by simp [bne]; omega
    clear her hal hb1
    go_wp2
    go_ret2
    exact ⟨hB.out, .inl ⟨by rw [HE.out]; exact hne, by rw [HE.out]; rfl⟩⟩
  · have ha16 : a < 16 := by
      unfold cmBad at h0
      split at h0
      · cases h0
      · omega
    skip
    obtain ⟨va, vc, rfl⟩ := own_form hown
    have HB := Lib.hid (hal.trans (hb1.mono hal.size))
    have HE := Lib.hid (show sdErr ap ct a len = pkRight ap ct (len + 5) by unfold sdErr; rw [if_neg (by rw [h0]; decide)])
    obtain ⟨K, hK⟩ : ∃ K, K = cmB a s u c d := ⟨_, rfl⟩
    obtain ⟨M, hM⟩ : ∃ M, M = len + 5 := ⟨_, rfl⟩
    have hKl : K.length = M := by rw [hK, cmB_len, HL.out, hM]
    have hKb : bytes K := by rw [hK]; exact cmB_bytes ha16 hs hu hb
    rw [← hK] at hown
    rw [← hM] at hown HE ⊢
    have HKL := Lib.hid hKl
    have HRK := Lib.hid (rd_of_own (f := bv K) hown (fun i hi => bl_at K (by rw [HKL.out]; exact hi)))
    have HK := Lib.hid hK
    have HM := Lib.hid hM
    have hs1 : w.heap.size ≤ w1.heap.size := HB.out.size
    clear hal hb1 hK hM hKl hown h0
    go_wp2_with fail
    go_at_call 65
    refine (pBytes_any true ap ct va M vc _ K _ hap hct HKL.out (Nat.le_refl _) HRK.out hKb).mono ?_
    rintro e w2 ⟨hb2, ⟨hne, rfl⟩ | ⟨h0, v, rfl, hown⟩⟩
    · have hB := Lib.hid (HB.out.trans (hb2.mono hs1))
      obtain ⟨er, her⟩ : ∃ er, er = pkRight ap ct M := ⟨_, rfl⟩
      rw [← her] at hne HE ⊢
      clear her hb2
      go_wp2
      go_ret2
      exact ⟨hB.out, .inl ⟨by rw [HE.out]; exact hne, by rw [HE.out]; rfl⟩⟩
    · have hB := Lib.hid (HB.out.trans (hb2.mono hs1))
      have HO := Lib.hid (own_base hown hs1)
      have HE0 := Lib.hid (HE.out.trans h0)
      clear hb2 hown h0
      go_wp2
      go_ret2
      refine ⟨hB.out, .inr ⟨HE0.out, _, rfl, ?_⟩⟩
      rw [← HK.out, show len + 13 = M + 8 by have := HM.out; omega]
      exact HO.out
end Go.Proofs.Ytmihhapedpalmaa
