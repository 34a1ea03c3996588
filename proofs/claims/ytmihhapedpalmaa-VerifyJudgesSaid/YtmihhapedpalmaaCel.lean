/- Contracts of layer 6 (cells). -/
import Derived.Test.YtmihhapedpalmaaCrc2
namespace Go.Proofs.Ytmihhapedpalmaa
open Go.RowKit Go.Own
set_option linter.unusedVariables false
set_option linter.unusedSimpArgs false

theorem wraps_u32 (n : Int) (h0 : 0 ≤ n) (h1 : n < 2 ^ 32) : IntKind.u32.wrap n = n := by rw [IntKind.wrap_u32]; omega
theorem orI (x y : Nat) (hx : x < 256) (hy : y < 256) : bits .or .i64 ((x : Int) * 256) (y : Int) = ((x * 256 + y : Nat) : Int) :=
  (bits_join .i64 16 (by decide) wraps_i64_16 8 _ _ (by omega) (by omega) (by omega) (by omega) (by omega) (by omega)).trans (by omega)
theorem or32 (i : Nat) (x y : Int) (h0 : 0 ≤ x) (hx : x % 2 ^ i = 0) (h1 : x < 4294967296) (h2 : 0 ≤ y) (h3 : y < 2 ^ i) (h4 : y < 4294967296) : bits .or .u32 x y = x + y :=
  bits_join .u32 32 (by decide) wraps_u32 i x y h0 hx h1 h2 h3 h4
theorem or_u32a (a b : Nat) (ha : a < 256) (hb : b < 256) : bits .or .u32 ((a : Int) * 16777216) ((b : Int) * 65536) = (a : Int) * 16777216 + b * 65536 := or32 24 _ _ (by omega) (by omega) (by omega) (by omega) (by omega) (by omega)
theorem or_u32b (a b c : Nat) (ha : a < 256) (hb : b < 256) (hc : c < 256) : bits .or .u32 ((a : Int) * 16777216 + b * 65536) ((c : Int) * 256) = (a : Int) * 16777216 + b * 65536 + c * 256 := or32 16 _ _ (by omega) (by omega) (by omega) (by omega) (by omega) (by omega)
theorem or_u32c (a b c d : Nat) (ha : a < 256) (hb : b < 256) (hc : c < 256) (hd : d < 256) : bits .or .u32 ((a : Int) * 16777216 + b * 65536 + c * 256) (d : Int) = ((a * 16777216 + b * 65536 + c * 256 + d : Nat) : Int) := (or32 8 _ _ (by omega) (by omega) (by omega) (by omega) (by omega) (by omega)).trans (by omega)

/-- How many bytes of data a cell states; its number; its data; its error. -/
def psize (l : List Nat) : Nat := l.getD 4 0 * 256 + l.getD 5 0
def pseq (l : List Nat) : Nat := l.getD 0 0 * 16777216 + l.getD 1 0 * 65536 + l.getD 2 0 * 256 + l.getD 3 0
def pdat (l : List Nat) : List Nat := (l.drop 6).take (l.length - 8)
def perr (l : List Nat) : Nat := if l.length < 8 ∨ psize l + 8 ≠ l.length then 2 else if rightB l = true then (if 200 < psize l then 4 else 0) else 5
theorem pseq_lt {l : List Nat} (h : bytes l) : pseq l < 4294967296 := by
  have a := h.at 0
  have b := h.at 1
  have c := h.at 2
  have d := h.at 3
  unfold pseq
  omega
theorem pdat_len {l : List Nat} (h : 8 ≤ l.length) : (pdat l).length = l.length - 8 := by simp [pdat]; omega
theorem pdat_bytes {l : List Nat} (h : bytes l) : bytes (pdat l) := (h.drop 6).take _
def OpenPost (n : Nat) (w : World) (l : List Nat) (e : Ending) (w' : World) : Prop :=
  Below w.heap.size w w' ∧ ((perr l = 0 ∧ ∃ x c, e = .returned (.tuple #[.agg #[.int .u32 (pseq l : Nat), .slice x (pdat l).length c], .int .i64 0]) ∧ Rd n w' x (pdat l).length c (bv (pdat l))) ∨
    (perr l ≠ 0 ∧ e = .returned (.tuple #[.agg #[.int .u32 0, .slice none 0 0], .int .i64 (perr l : Nat)])))

theorem set_two {w : World} {g : Nat} {u v : Value} (u' v' : Value) (h0 : w.cell? ⟨g, 0, none⟩ = some u) (h1 : w.cell? ⟨g, 1, none⟩ = some v) : (w.setCell ⟨g, 0, none⟩ u').cell? ⟨g, 0, none⟩ = some u' ∧ ((w.setCell ⟨g, 0, none⟩ u').setCell ⟨g, 1, none⟩ v').cell? ⟨g, 1, none⟩ = some v' := by
  constructor <;> go_simp
theorem sub_rd {n len cap b off k : Nat} {l : List Nat} {w : World} (hl : l.length = len) (h : Rd n w (some ⟨b, off, none⟩) len cap (bv l)) (hk : (pdat l).length = k) (hz : len = k + 8) : Rd n w (some ⟨b, off + 6, none⟩) (pdat l).length (cap - 6) (bv (pdat l)) := by
  have h1 := h.le
  have h2 := h.top
  obtain ⟨b', off', e, hb, hc⟩ := h.row (by omega)
  cases e
  rw [hk]
  refine ⟨by omega, by omega, fun h => (by cases h), fun _ => ⟨b, off + 6, rfl, hb, fun i hi => ?_⟩⟩
  rw [show off + 6 + i = off + (6 + i) by omega, hc (6 + i) (by omega)]
  unfold bv pdat
  simp only [List.getD, List.getElem?_take, List.getElem?_drop]
  rw [if_pos (by omega)]
theorem below_drews (B : Nat) (w : World) (n : Nat) : Below B w (w.drewN n) := ⟨rfl, rfl, rfl, Nat.le_refl _, fun _ _ => rfl⟩
end Go.Proofs.Ytmihhapedpalmaa
