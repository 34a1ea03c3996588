/- Commands and reports: one form for what is told either way. -/
import Derived.Test.YtfolebogfapmaaaLaw10c
import Derived.Test.YtfolebogfapmaaaPs9
import Derived.Test.YtfolebogfapmaaaPk8
namespace Go.Proofs.Ytfolebogfapmaaa
open Go.RowKit Go.Own
set_option linter.unusedVariables false
set_option linter.unusedSimpArgs false

def cmOut (a s u c : Nat) (d : List Nat) : List Nat := if cmBad a d.length = 0 then cmB a s u c d else []
def rpOut (s u c t : Nat) (d : List Nat) : List Nat := if rpBad d.length = 0 then rpB s u c t d else []
def sent (er : Nat) (K : List Nat) : List Nat := if er = 0 then K else []
def cmp0 (l : List Nat) : Nat := if cmErr l = 0 then l.getD 0 0 % 16 else 0
def cmp1 (l : List Nat) : Nat := if cmErr l = 0 then l.getD 1 0 else 0
def cmp2 (l : List Nat) : Nat := if cmErr l = 0 then l.getD 2 0 else 0
def cmp3 (l : List Nat) : Nat := if cmErr l = 0 then at2 l 3 else 0
def cmpD (l : List Nat) : List Nat := if cmErr l = 0 then l.drop 5 else []
def rpp0 (l : List Nat) : Nat := if rpErr l = 0 then l.getD 1 0 else 0
def rpp1 (l : List Nat) : Nat := if rpErr l = 0 then l.getD 2 0 else 0
def rpp2 (l : List Nat) : Nat := if rpErr l = 0 then at2 l 3 else 0
def rpp3 (l : List Nat) : Nat := if rpErr l = 0 then at4 l 7 else 0
def rppD (l : List Nat) : List Nat := if rpErr l = 0 then l.drop 11 else []
theorem cmpD_bytes {l : List Nat} (h : bytes l) : bytes (cmpD l) := by
  unfold cmpD
  split
  · exact h.drop 5
  · intro b hb; cases hb
theorem rppD_bytes {l : List Nat} (h : bytes l) : bytes (rppD l) := by
  unfold rppD
  split
  · exact h.drop 11
  · intro b hb; cases hb
theorem cmBad_ok {a n : Nat} (h : cmBad a n = 0) : a ≤ 15 ∧ n ≤ 195 := by
  unfold cmBad at h
  split at h
  · cases h
  · split at h
    · cases h
    · omega
theorem rpBad_ok {n : Nat} (h : rpBad n = 0) : n ≤ 189 := by
  unfold rpBad at h
  split at h
  · cases h
  · omega
theorem cmOut_len (a s u c : Nat) (d : List Nat) : (cmOut a s u c d).length ≤ 200 := by
  unfold cmOut
  by_cases h : cmBad a d.length = 0
  · have := cmBad_ok h
    rw [if_pos h, cmB_len]; omega
  · rw [if_neg h]; simp
theorem rpOut_len (s u c t : Nat) (d : List Nat) : (rpOut s u c t d).length ≤ 200 := by
  unfold rpOut
  by_cases h : rpBad d.length = 0
  · have := rpBad_ok h
    rw [if_pos h, rpB_len]; omega
  · rw [if_neg h]; simp
theorem cmOut_bytes {a s u c : Nat} {d : List Nat} (hs : s < 256) (hu : u < 256) (hd : bytes d) : bytes (cmOut a s u c d) := by
  unfold cmOut
  by_cases h : cmBad a d.length = 0
  · have := cmBad_ok h
    rw [if_pos h]; exact cmB_bytes (by omega) hs hu hd
  · rw [if_neg h]; intro b hb; cases hb
theorem rpOut_bytes {s u c t : Nat} {d : List Nat} (hs : s < 256) (hu : u < 256) (hd : bytes d) : bytes (rpOut s u c t d) := by
  unfold rpOut
  by_cases h : rpBad d.length = 0
  · rw [if_pos h]; exact rpB_bytes hs hu hd
  · rw [if_neg h]; intro b hb; cases hb
theorem rd_own {w : World} {base m : Nat} {v : Value} {l : List Nat} (h : w.ownsRow base 5 1 v m (bl l)) (hl : l.length = m) : ∃ a c, v = .slice a l.length c ∧ Rd w.heap.size w a l.length c (bv l) := by
  subst hl
  obtain ⟨a, c, rfl⟩ := own_form h
  exact ⟨a, c, rfl, rd_of_own h (fun i hi => bl_at l hi)⟩
theorem CmBytes.uni {w w' : World} {a s u c len : Nat} {d : List Nat} {e : Ending} (hl : d.length = len) (h : CmBytes w a s u c len d e w') : Below w.heap.size w w' ∧ ∃ x q, e = .returned (.tuple #[.slice x (cmOut a s u c d).length q, .int .i64 (cmBad a len : Nat)]) ∧ Rd w'.heap.size w' x (cmOut a s u c d).length q (bv (cmOut a s u c d)) := by
  subst hl
  obtain ⟨hb, ⟨hne, rfl⟩ | ⟨h0, v, rfl, hown⟩⟩ := h
  · refine ⟨hb, ?_⟩
    unfold cmOut
    rw [if_neg hne]
    exact ⟨none, 0, rfl, Rd.none_ _ _ _⟩
  · refine ⟨hb, ?_⟩
    unfold cmOut
    rw [if_pos h0]
    obtain ⟨x, q, rfl, hr⟩ := rd_own hown (by rw [cmB_len])
    exact ⟨x, q, by rw [h0]; rfl, hr⟩
theorem CmTold.uni {w w' : World} {a s u c len : Nat} {d : List Nat} {e : Ending} (hl : d.length = len) (h : CmTold w a s u c len d e w') : Below w.heap.size w w' ∧ ∃ x q, e = .returned (.tuple #[.slice x (cmOut a s u c d).length q, .int .i64 (cmBad a len : Nat)]) ∧ Rd w'.heap.size w' x (cmOut a s u c d).length q (bv (cmOut a s u c d)) :=
  CmBytes.uni hl h
theorem RpBytes.uni {w w' : World} {s u c t len : Nat} {d : List Nat} {e : Ending} (hl : d.length = len) (h : RpBytes w s u c t len d e w') : Below w.heap.size w w' ∧ ∃ x q, e = .returned (.tuple #[.slice x (rpOut s u c t d).length q, .int .i64 (rpBad len : Nat)]) ∧ Rd w'.heap.size w' x (rpOut s u c t d).length q (bv (rpOut s u c t d)) := by
  subst hl
  obtain ⟨hb, ⟨hne, rfl⟩ | ⟨h0, v, rfl, hown⟩⟩ := h
  · refine ⟨hb, ?_⟩
    unfold rpOut
    rw [if_neg hne]
    exact ⟨none, 0, rfl, Rd.none_ _ _ _⟩
  · refine ⟨hb, ?_⟩
    unfold rpOut
    rw [if_pos h0]
    obtain ⟨x, q, rfl, hr⟩ := rd_own hown (by rw [rpB_len])
    exact ⟨x, q, by rw [h0]; rfl, hr⟩
theorem RpTold.uni {w w' : World} {s u c t len : Nat} {d : List Nat} {e : Ending} (hl : d.length = len) (h : RpTold w s u c t len d e w') : Below w.heap.size w w' ∧ ∃ x q, e = .returned (.tuple #[.slice x (rpOut s u c t d).length q, .int .i64 (rpBad len : Nat)]) ∧ Rd w'.heap.size w' x (rpOut s u c t d).length q (bv (rpOut s u c t d)) :=
  RpBytes.uni hl h
theorem Sent.uni {w w' : World} {er m : Nat} {K : List Nat} {e : Ending} (hl : K.length = m) (h : Sent w er m K e w') : Below w.heap.size w w' ∧ ∃ x q, e = .returned (.tuple #[.slice x (sent er K).length q, .int .i64 (er : Nat)]) ∧ Rd w'.heap.size w' x (sent er K).length q (bv (sent er K)) := by
  obtain ⟨hb, ⟨hne, rfl⟩ | ⟨h0, v, rfl, hown⟩⟩ := h
  · refine ⟨hb, ?_⟩
    unfold sent
    rw [if_neg hne]
    exact ⟨none, 0, rfl, Rd.none_ _ _ _⟩
  · refine ⟨hb, ?_⟩
    unfold sent
    rw [if_pos h0]
    obtain ⟨x, q, rfl, hr⟩ := rd_own hown hl
    exact ⟨x, q, by rw [h0]; rfl, hr⟩
theorem CmParse.one {w w' : World} {l : List Nat} {e : Ending} (h : CmParse w l e w') : Below w.heap.size w w' ∧ ∃ x q, e = .returned (.tuple #[.agg #[.int .u8 ((cmp0 l) : Nat), .int .u8 ((cmp1 l) : Nat), .int .u8 ((cmp2 l) : Nat), .int .u16 ((cmp3 l) : Nat), .slice x (cmpD l).length q], .int .i64 (cmErr l : Nat)]) ∧ Rd w'.heap.size w' x (cmpD l).length q (bv (cmpD l)) := by
  obtain ⟨hb, ⟨h0, x, c, rfl, hr⟩ | ⟨hne, rfl⟩⟩ := h
  · refine ⟨hb, ?_⟩
    unfold cmp0 cmp1 cmp2 cmp3 cmpD
    simp only [h0, if_true, List.length_drop]
    exact ⟨x, c, rfl, hr⟩
  · refine ⟨hb, ?_⟩
    unfold cmp0 cmp1 cmp2 cmp3 cmpD
    simp only [if_neg hne]
    exact ⟨none, 0, rfl, Rd.none_ _ _ _⟩
theorem RpParse.one {w w' : World} {l : List Nat} {e : Ending} (h : RpParse w l e w') : Below w.heap.size w w' ∧ ∃ x q, e = .returned (.tuple #[.agg #[.int .u8 ((rpp0 l) : Nat), .int .u8 ((rpp1 l) : Nat), .int .u16 ((rpp2 l) : Nat), .int .u32 ((rpp3 l) : Nat), .slice x (rppD l).length q], .int .i64 (rpErr l : Nat)]) ∧ Rd w'.heap.size w' x (rppD l).length q (bv (rppD l)) := by
  obtain ⟨hb, ⟨h0, x, c, rfl, hr⟩ | ⟨hne, rfl⟩⟩ := h
  · refine ⟨hb, ?_⟩
    unfold rpp0 rpp1 rpp2 rpp3 rppD
    simp only [h0, if_true, List.length_drop]
    exact ⟨x, c, rfl, hr⟩
  · refine ⟨hb, ?_⟩
    unfold rpp0 rpp1 rpp2 rpp3 rppD
    simp only [if_neg hne]
    exact ⟨none, 0, rfl, Rd.none_ _ _ _⟩
end Go.Proofs.Ytfolebogfapmaaa
