/- Space packets: contracts of get, stated, Next, Same; append to a full row. -/
import Derived.Test.YtmihhapedpalmaaPk
import Derived.Test.YtmihhapedpalmaaMemE
import Derived.Laws.Append
namespace Go.Proofs.Ytmihhapedpalmaa
open Go.RowKit Go.Own
set_option linter.unusedVariables false
set_option linter.unusedSimpArgs false

theorem or16s (x y : Nat) (hx : x < 256) (hy : y < 256) : bits .or .u16 ((x : Int) * 256) (y : Int) = ((x * 256 + y : Nat) : Int) := by
  rw [orJoin x y hx hy]; omega
set_option maxHeartbeats 1000000 in
theorem pget_any (a : Option Addr) (len cap n : Nat) (l : List Nat) (w : World) (hl : l.length = len) (h2 : 2 ≤ len) (hr : Rd n w a len cap (bv l)) (hb : bytes l) :
    Calls Try.prog 96 #[.slice a len cap] w fun e w' => e = .returned (.int .u16 (l.getD 0 0 * 256 + l.getD 1 0 : Nat)) ∧ ∃ j, w' = w.drewN j := by
  have h1 := hr.le
  have h3 := hr.top
  unfold maxLen at h3
  obtain ⟨b, off, rfl, _, hc⟩ := hr.row (by omega)
  have c0 := hc 0 (by omega)
  have c1 := hc 1 (by omega)
  unfold bv at c0 c1
  have hx := hb.at 0
  have hy := hb.at 1
  obtain ⟨x, hx'⟩ : ∃ x, x = l.getD 0 0 := ⟨_, rfl⟩
  obtain ⟨y, hy'⟩ : ∃ y, y = l.getD 1 0 := ⟨_, rfl⟩
  rw [← hx'] at c0 hx ⊢
  rw [← hy'] at c1 hy ⊢
  have hor := or16s x y hx hy
  rw [Nat.add_zero] at c0
  clear hx' hy' hr hc hl hb
  go_enter Try.func96, Try.ntmps96
  go_wp2
  go_quiet (fail)
  all_goals
    go_wp2
    go_ret
    exact ⟨rfl, _, rfl⟩
set_option maxHeartbeats 1000000 in
theorem pstated_any (a : Option Addr) (len cap n : Nat) (l : List Nat) (w : World) (hl : l.length = len) (h2 : 6 ≤ len) (hr : Rd n w a len cap (bv l)) (hb : bytes l) :
    Calls Try.prog 94 #[.slice a len cap] w fun e w' => e = .returned (.int .i64 (psize l + 7 : Nat)) ∧ ∃ j, w' = w.drewN j := by
  have h1 := hr.le
  have h3 := hr.top
  unfold maxLen at h3
  obtain ⟨b, off, rfl, hbn, hc⟩ := hr.row (by omega)
  have hrr := Rd.rest (k := 4) hr (by omega)
  rw [if_neg (by omega)] at hrr
  have hr4 : Rd n w (some ⟨b, off + 4, none⟩) (len - 4) (cap - 4) (bv (l.drop 4)) := by
    have e : (Option.map (fun x => x.add 4) (some (⟨b, off, none⟩ : Addr))) = some ⟨b, off + 4, none⟩ := by simp [Addr.add]
    rw [e] at hrr
    refine hrr.same fun i hi => ?_
    unfold bv
    simp [List.getD, List.getElem?_drop]
  have hps : psize l = (l.drop 4).getD 0 0 * 256 + (l.drop 4).getD 1 0 := by unfold psize; simp [List.getD, List.getElem?_drop]
  have hl4 : (l.drop 4).length = len - 4 := by rw [List.length_drop, hl]
  have hb4 := hb.drop 4
  have hx := hb4.at 0
  have hy := hb4.at 1
  obtain ⟨z, hz⟩ : ∃ z, z = psize l := ⟨_, rfl⟩
  have hz2 : z < 65536 := by rw [hz, hps]; omega
  rw [← hz] at hps ⊢
  have HPS := Lib.hid hps
  have HR4 := Lib.hid hr4
  have HL4 := Lib.hid hl4
  have hIc : (cap : Int) - 4 = ((cap - 4 : Nat) : Int) := by omega
  clear hz hr hc hl hps hr4 hl4 hrr hx hy
  go_enter Try.func94, Try.ntmps94
  go_wp2_with fail
  go_at_call 96
  refine (pget_any (some ⟨b, off + 4, none⟩) (len - 4) (cap - 4) n (l.drop 4) _ HL4.out (by omega) HR4.out hb4).mono ?_
  rintro e w' ⟨rfl, j, rfl⟩
  rw [← HPS.out]
  go_wp2
  go_ret
  exact ⟨by go_num, _, rfl⟩
set_option maxRecDepth 100000 in
/-- Append of whatever reads, to a row that is full. -/
theorem run_append_full {w : World} {g n len cap : Nat} {a : Option Addr} {l m : List Nat} {k : Nat} (hl : l.length = k) (hm : m.length = len) (h : w.heap[g]? = some (.cells (bl l).toArray 5 (0, 0))) (hr : Rd n w a len cap (bv m)) (hn : n ≤ w.heap.size) (hg : k + len ≤ 100000) (t : TypeId) :
    ∃ b c' w', (Builtin.append_ #[54, 54] t #[.slice (some ⟨g, 0, none⟩) k k, .slice a len cap]).run Try.prog w = .ok (.slice b (k + len) c') w' ∧ Rd w'.heap.size w' b (k + len) c' (bv (l ++ m)) ∧ Below w.heap.size w w' := by
  obtain ⟨i0, hi, hz0, hz1, hz2⟩ := info_parts info_u8
  have hgl : g < w.heap.size := (Array.getElem?_eq_some_iff.1 h).1
  have hself : Rd w.heap.size w (some ⟨g, 0, none⟩) k k (bv l) :=
    ⟨Nat.le_refl _, by unfold maxLen; omega, fun h => (by cases h), fun _ => ⟨g, 0, rfl, hgl, fun i hi => by
      rw [Nat.zero_add, cell_of_row _ _ i _ _ _ h]
      simp only [List.getElem?_toArray]
      exact bl_at l (by omega)⟩⟩
  have hown : w.ownsRow 0 5 1 (.slice (some ⟨g, 0, none⟩) k k) k (bl l) :=
    ⟨by simp [bl, hl], .inr ⟨g, k, _, rfl, Nat.zero_le _, h, Nat.le_refl _, by unfold maxLen; omega, by simp [bl, hl], by rw [Nat.mul_one]; exact List.take_of_length_le (by simp [bl, hl])⟩⟩
  rcases Nat.eq_zero_or_pos len with rfl | hp
  · have hm0 : m = [] := List.eq_nil_of_length_eq_zero hm
    subst hm0
    rw [List.append_nil, Nat.add_zero]
    cases a with
    | none =>
      have hc := hr.nil_ rfl
      subst hc
      exact ⟨_, _, _, run_append_owned_none (P := Try.prog) (w := w) 0 54 t 5 i0 1 Try.underlying54 hi _ _ _ hown, hself, Below.refl _ _⟩
    | some ad =>
      have h1 := run_append_room (P := Try.prog) w 54 t 5 i0 Try.underlying54 hi g k k _ h ad 0 cap [] (by simp) (fun j u hj => by simp at hj) (fun u hu => by cases hu) (by omega) (by simp [hz1, bl, hl])
      have e : ((bl l).toArray.toList.take (k * i0.size) ++ [] ++ (bl l).toArray.toList.drop (k * i0.size + ([] : List Value).length)).toArray = (bl l).toArray := by simp
      rw [e, setRow_self w g _ _ _ h] at h1
      exact ⟨_, _, _, h1, hself, Below.refl _ _⟩
  · obtain ⟨ad, rfl⟩ : ∃ ad, a = some ad := by
      obtain ⟨b, off, e, _⟩ := hr.row hp
      exact ⟨_, e⟩
    have holds : ∀ j u, (bl l)[j]? = some u → w.cell? ((⟨g, 0, none⟩ : Addr).add j) = some u := hown.cells (g := g) rfl
    have hnews : ∀ j u, (bl m)[j]? = some u → w.cell? (ad.add j) = some u := by
      intro j u hj
      have hjl : j < len := by
        have := (List.getElem?_eq_some_iff.1 hj).1
        rw [bl_len] at this; omega
      obtain ⟨b, off, he, hb, hc⟩ := hr.at hjl
      injection he with he
      subst he
      have hadd : (⟨b, off, none⟩ : Addr).add j = ⟨b, off + j, none⟩ := by
        unfold Addr.add
        split
        · rename_i e; subst e; rfl
        · rfl
      rw [hadd, hc, ← hj, bl_at m (by omega)]
    have h1 := run_append_grow (P := Try.prog) w 54 t 5 i0 (.int .u8 0) Try.underlying54 hi hz0 ⟨g, 0, none⟩ k k (bl l) (by rw [bl_len, hl, hz1, Nat.mul_one]) holds ad len cap (bl m) (by rw [bl_len, hm, hz1, Nat.mul_one]) hnews (by omega) (by omega) (growslice_fits (by omega) (by rw [hz2]; omega))
    refine ⟨_, _, _, h1, ?_, ((Below.refl _ _).drew).alloc (Nat.le_refl _) _⟩
    have hge := grownCap_ge w (k + len) k 5
    have hcm : grownCap w (k + len) k 5 ≤ maxLen := grownCap_le_maxLen w (k + len) k 5 (by unfold maxLen; omega)
    refine ⟨hge, hcm, fun h => (by cases h), fun _ => ⟨w.heap.size, 0, rfl, by simp, fun i hi => ?_⟩⟩
    have hh := heap_alloc_new w.drew (.cells ((bl l).toArray ++ (bl m).toArray ++ Builtin.zeroCells (Value.int .u8 0).cells (grownCap w (k + len) k 5 - (k + len))) 5)
    rw [Nat.zero_add, cell_of_row _ w.heap.size i _ _ _ hh]
    rw [Array.getElem?_append_left (by simp [bl, hl, hm]; omega)]
    rw [show (bl l).toArray ++ (bl m).toArray = (bl (l ++ m)).toArray by rw [bl_append]; simp]
    simp only [List.getElem?_toArray]
    exact bl_at _ (by rw [List.length_append, hl, hm]; exact hi)
end Go.Proofs.Ytmihhapedpalmaa
