/- Bytes as texts; bytes.Equal. -/
import Derived.Test.YtmihhapedpalmaaCelF
import Derived.Laws.BytesArg
namespace Go.Proofs.Ytmihhapedpalmaa
open Go.RowKit Go.Own
set_option linter.unusedVariables false
set_option linter.unusedSimpArgs false

/-- The text of these bytes. -/
def strB (l : List Nat) : ByteArray := strOfNums (l.map Int.ofNat)
theorem strB_inj {l m : List Nat} (hl : bytes l) (hm : bytes m) : ((strB l).toList == (strB m).toList) = decide (l = m) := by
  rw [Bool.eq_iff_iff]
  simp only [decide_eq_true_eq, beq_iff_eq]
  constructor
  · intro h
    rw [ByteArray.toList_eq, ByteArray.toList_eq] at h
    unfold strB at h
    rw [strOfNums_data, strOfNums_data, List.map_map, List.map_map] at h
    have hlen := congrArg List.length h
    simp at hlen
    apply List.ext_getElem? 
    intro i
    by_cases hi : i < l.length
    · have h2 := congrArg (fun x => x[i]?) h
      simp only [List.getElem?_map] at h2
      rw [List.getElem?_eq_getElem hi, List.getElem?_eq_getElem (by omega)] at h2 ⊢
      simp only [Option.map_some, Option.some.injEq, Function.comp_apply] at h2
      have a := hl _ (List.getElem_mem hi)
      have b := hm _ (List.getElem_mem (show i < m.length by omega))
      have h3 := congrArg UInt8.toNat h2
      simp at h3
      rw [Nat.mod_eq_of_lt a, Nat.mod_eq_of_lt b] at h3
      rw [h3]
    · rw [List.getElem?_eq_none (by omega), List.getElem?_eq_none (by omega)]
  · rintro rfl; rfl
set_option maxRecDepth 100000 in
theorem conv_own {w : World} {B len cap : Nat} {a : Option Addr} {l : List Nat} (hl : l.length = len) (ho : w.ownsRow B 5 1 (.slice a len cap) len (bl l)) : (convert 54 9 (.slice a len cap)).run Try.prog w = .ok (.string (strB l)) w := by
  rcases ho.2 with ⟨hv, hn⟩ | ⟨g, c, cur, hv, hb, hg, hle, hm, hs, ht⟩
  · injection hv with h1 h2 h3
    subst h1 h2 h3
    obtain rfl : l = [] := List.eq_nil_of_length_eq_zero hl
    exact run_convert_bytes_nil w 54 5 Try.underlying54 Try.underlying5 0 0 9 Try.underlying9
  · injection hv with h1 h2 h3
    subst h1 h3
    refine run_convert_bytes_arg w 54 5 Try.underlying54 Try.underlying5 g 0 len cap (l.map Int.ofNat) (by simpa using hl) (fun i hi => ?_) 9 Try.underlying9
    rw [Nat.zero_add, ho.cellAt i (by omega), bl_at l (by omega)]
    simp [bv, List.getD, show i < l.length by omega]
end Go.Proofs.Ytmihhapedpalmaa
