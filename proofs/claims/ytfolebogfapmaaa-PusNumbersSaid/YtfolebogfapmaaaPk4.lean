/- Space packets: any bytes are read. -/
import Derived.Test.YtfolebogfapmaaaPk3
import Derived.Laws.ResultCell
import Derived.Laws.Tables
import Derived.Deep.WholeRow
namespace Go.Proofs.Ytfolebogfapmaaa
open Go.RowKit Go.Own
set_option linter.unusedVariables false
set_option linter.unusedSimpArgs false

theorem results_cell_tmp3 {P : Program} {fn : Func} {p u : Tmp} {ty : TypeId} (h : fn.results = #[.cell p ty, .tmp u]) (tmps : Array Value) (w : World) (g : Nat) (t : TypeId) (cs : Array Value) (fr : Nat × Nat) {d : TypeDesc}
    (hp : tmps.getD p undef = .pointer (some ⟨g, 0, none⟩)) (hg : w.heap[g]? = some (.cells cs t fr))
    (hu : P.underlying ty = some d) (hd : (match d with | .struct _ | .array _ _ => true | _ => false) = true) (hi : (P.info? ty).map (·.size) = some cs.size) :
    (results fn tmps).run P w = .ok (.tuple #[.agg cs, tmps.getD u undef]) w := by
  rw [results_cell_tmp h]
  have hp' : tmps[p]?.getD undef = .pointer (some ⟨g, 0, none⟩) := by simpa using hp
  simp [hp', asAddr, run_loadVar_row w g t ty cs fr d hg hu hd hi]
theorem below_setRow {B : Nat} {a w : World} (h : Below B a w) {g : Nat} (hg : B ≤ g) (c : Array Value) : Below B a (w.setRow g c) :=
  ⟨h.os, h.tape, h.output, by have := h.size; simpa using this, fun k hk => (setRow_other w g k c (by omega)).trans (h.block k hk)⟩
theorem zero_pk (w : World) : (zeroValue 28).run Try.prog w = .ok (.agg #[.bool false, .int .u16 0, .int .u16 0, .slice none 0 0]) w := by kernel_rfl
theorem size_pk : (Try.prog.info? 28).map (·.size) = some 4 := by kernel_rfl
theorem and232 : ∀ x, x < 256 → ((x &&& 232 = 8) ↔ (x < 32 ∧ x / 8 % 2 = 1)) := by decide +kernel
theorem and192 : ∀ x, x < 256 → ((x &&& 192 = 192) ↔ 192 ≤ x) := by decide +kernel
theorem and16a : ∀ x, x < 32 → ((x &&& 16 = 0) ↔ x < 16) := by decide +kernel
theorem and8u (a b : Nat) (ha : a < 256) (hb : b < 256) : bits .and .u8 (a : Int) (b : Int) = ((a &&& b : Nat) : Int) := andNatJ .u8 8 (by decide) (fun n h0 h1 => by rw [IntKind.wrap_u8]; omega) a b ha hb
theorem and_lt8 (a b : Nat) (hb : b < 256) : a &&& b < 256 := Nat.lt_of_le_of_lt Nat.and_le_right hb
theorem rd_drop {n len cap b off k : Nat} {l : List Nat} {w : World} (h : Rd n w (some ⟨b, off, none⟩) len cap (bv l)) (hk : k ≤ len) (hk2 : 0 < k ∧ k < cap) : Rd n w (some ⟨b, off + k, none⟩) (len - k) (cap - k) (bv (l.drop k)) := by
  have hrr := Rd.rest (k := k) h hk
  rw [if_neg (by omega)] at hrr
  have e : (Option.map (fun x => x.add k) (some (⟨b, off, none⟩ : Addr))) = some ⟨b, off + k, none⟩ := by
    simp [Addr.add]; omega
  rw [e] at hrr
  refine hrr.same fun i hi => ?_
  unfold bv
  simp [List.getD, List.getElem?_drop]
theorem grown_setRow (w : World) (g : Nat) (c : Array Value) : w.grownBy (w.setRow g c) (some g) := ⟨rfl, rfl, rfl, by simp, fun k _ hk => setRow_other w g k c (fun e => hk (by rw [e]))⟩
/-- What Parse hands back. -/
def PkParse (w : World) (l : List Nat) (e : Ending) (w' : World) : Prop :=
  Below w.heap.size w w' ∧ ((pkErr l = 0 ∧ ∃ x c, e = .returned (.tuple #[.agg #[.bool (pkK l), .int .u16 (pkA l : Nat), .int .u16 (pkC l : Nat), .slice x (pdat l).length c], .int .i64 0]) ∧ Rd w'.heap.size w' x (pdat l).length c (bv (pdat l))) ∨
    (pkErr l ≠ 0 ∧ e = .returned (.tuple #[.agg #[.bool false, .int .u16 0, .int .u16 0, .slice none 0 0], .int .i64 (pkErr l : Nat)])))

end Go.Proofs.Ytfolebogfapmaaa
