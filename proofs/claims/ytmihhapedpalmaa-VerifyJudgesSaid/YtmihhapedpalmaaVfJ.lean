/- Verification: judge of a table. -/
import Derived.Test.YtmihhapedpalmaaVfT
import Derived.Maps.OwnSet
namespace Go.Proofs.Ytmihhapedpalmaa
open Go.RowKit Go.Own Go.Maps
set_option linter.unusedVariables false
set_option linter.unusedSimpArgs false
/-- Is a kind of the service there? -/
def knB (T : Nat → Nat → Option (Int × Int)) (s : Nat) : Bool := (List.range 256).any fun u => (T s u).isSome
theorem knB_iff (T : Nat → Nat → Option (Int × Int)) (s : Nat) : knB T s = true ↔ KnowsT T s := by
  unfold knB KnowsT
  rw [List.any_eq_true]
  exact ⟨fun ⟨u, hu, h⟩ => ⟨u, List.mem_range.1 hu, h⟩, fun ⟨u, hu, h⟩ => ⟨u, List.mem_range.2 hu, h⟩⟩
/-- The code of a command whose data have that length. -/
def jdT (T : Nat → Nat → Option (Int × Int)) (s u len : Nat) : Nat :=
  if knB T s = false then 4 else match T s u with
  | none => 5
  | some x => if (len : Int) < x.1 ∨ x.2 < (len : Int) then 6 else 0
theorem jdT_no {T : Nat → Nat → Option (Int × Int)} {s u len : Nat} (h : knB T s = false) : jdT T s u len = 4 := by unfold jdT; rw [if_pos h]
theorem jdT_none {T : Nat → Nat → Option (Int × Int)} {s u len : Nat} (h : knB T s = true) (ht : T s u = none) : jdT T s u len = 5 := by unfold jdT; rw [if_neg (by rw [h]; decide), ht]
theorem jdT_some {T : Nat → Nat → Option (Int × Int)} {s u len : Nat} {p q : Int} (h : knB T s = true) (ht : T s u = some (p, q)) : jdT T s u len = if (len : Int) < p ∨ q < (len : Int) then 6 else 0 := by unfold jdT; rw [if_neg (by rw [h]; decide), ht]
theorem jdT_lt (T : Nat → Nat → Option (Int × Int)) (s u len : Nat) : jdT T s u len < 7 := by
  unfold jdT
  split
  · omega
  · split
    · omega
    · split <;> omega
set_option maxRecDepth 100000 in
set_option maxHeartbeats 4000000 in
theorem vJudge_tab (b n : Nat) (T : Nat → Nat → Option (Int × Int)) (D : DataW Nat) (a s u c len cap : Nat) (x : Option Addr) (w : World) (h : Tab w b n T D) (hs : s < 256) (hu : u < 256) :
    Calls Try.prog 70 #[.map (some b), .agg #[.int .u8 (a : Nat), .int .u8 (s : Nat), .int .u8 (u : Nat), .int .u16 (c : Nat), .slice x len cap]] w fun e w' => e = .returned (.int .u8 (jdT T s u len : Nat)) ∧ Below w.heap.size w w' := by
  have hkl := kl_of hs hu
  have hbl := h.own.lt
  have HT := Lib.hid h
  have HX := fun (w1 : World) (hb : Below w.heap.size w w1) => (Known_any s b n T D w1 (h.below hb) (knB T s) (knB_iff T s) hs)
  have hh := h.has s u hs hu
  have hgt := h.get s u hs hu
  clear h
  obtain ⟨z, hz⟩ : ∃ z, z = Maps.has D (kl s u) := ⟨_, rfl⟩
  rw [← hz] at hh
  have HH := Lib.hid hh
  have HGT := Lib.hid hgt
  obtain ⟨kn, hkn⟩ : ∃ kn, kn = knB T s := ⟨_, rfl⟩
  rw [← hkn] at HX
  have HKN := Lib.hid hkn
  clear hh hgt hkn
  go_enter Try.func70, Try.ntmps70
  go_wp2_with (at_lookup; refine wpList_lookup_own_ok _ rfl _ _ _ rfl _ _ kind_keyed Try.underlying60 formR (form_zero _) (formD 0 0) [] (formR_mk 0 0) b n D rfl (HT.out.below (by repeat' (first | (with_reducible exact Below.refl _ _) | (with_reducible assumption) | (with_reducible refine Below.setCell ?_ ?_ _) | (with_reducible refine Below.alloc ?_ ?_ _) | (with_reducible refine Below.drew ?_) | (with_reducible refine Below.drawsN ?_ _) | go_size))).own _ _ rfl hkl ?_)
  intro v ps hv
  obtain ⟨pq, rfl, hpq⟩ := formR_inv hv
  have hpq := congrArg Prod.fst hpq
  simp at hpq
  have hT1 : ∀ y, T s u = some y → y = pq := fun y hy => by
    have := (HGT.out y hy (formD 0 0)).symm.trans hpq
    obtain ⟨e1, e2⟩ := formD_inj this
    exact Prod.ext e1 e2
  obtain ⟨p, q⟩ := pq
  have HT1 := Lib.hid hT1
  clear hv hpq hT1 HGT
  dsimp only
  go_wp2_with fail
  have hB1 : Below w.heap.size w ((w.alloc (.cells #[.int .u8 (a : Nat), .int .u8 (s : Nat), .int .u8 (u : Nat), .int .u16 (c : Nat), .slice x len cap] 56)).alloc (.cells #[.int .i64 p, .int .i64 q] 118)) := by repeat' (first | (with_reducible exact Below.refl _ _) | (with_reducible assumption) | (with_reducible refine Below.setCell ?_ ?_ _) | (with_reducible refine Below.alloc ?_ ?_ _) | (with_reducible refine Below.drew ?_) | (with_reducible refine Below.drawsN ?_ _) | go_size)
  have hX := heap_alloc2_old w (.cells #[.int .u8 (a : Nat), .int .u8 (s : Nat), .int .u8 (u : Nat), .int .u16 (c : Nat), .slice x len cap] 56) (.cells #[.int .i64 p, .int .i64 q] 118)
  have hY := heap_alloc2_new w (.cells #[.int .u8 (a : Nat), .int .u8 (s : Nat), .int .u8 (u : Nat), .int .u16 (c : Nat), .slice x len cap] 56) (.cells #[.int .i64 p, .int .i64 q] 118)
  obtain ⟨w1, hw1⟩ : ∃ w1, w1 = ((w.alloc (.cells #[.int .u8 (a : Nat), .int .u8 (s : Nat), .int .u8 (u : Nat), .int .u16 (c : Nat), .slice x len cap] 56)).alloc (.cells #[.int .i64 p, .int .i64 q] 118)) := ⟨_, rfl⟩
  have hsz : w1.heap.size = w.heap.size + 2 := by rw [hw1]; simp
  rw [← hw1] at hB1 hX hY ⊢
  rw [← hz]
  refine (HX w1 hB1).mono ?_
  rintro e w2 ⟨rfl, hb⟩
  have hX2 := (hb.block w.heap.size (by omega)).trans hX
  have hY2 := (hb.block (w.heap.size + 1) (by omega)).trans hY
  have k4 := cell_of_row w2 _ 4 _ _ _ hX2 
  have p0 := cell_of_row w2 _ 0 _ _ _ hY2
  have p1 := cell_of_row w2 _ 1 _ _ _ hY2
  simp at k4 p0 p1
  have HB := Lib.hid (hB1.trans (hb.mono (by omega)))
  have HS := Lib.hid hb.size
  clear hX2 hY2 hX hY hB1 hw1 hsz hb hz hkl hpq HX
  cases kn with
  | false =>
    have he := jdT_no (u := u) (len := len) HKN.out.symm
    have HE := Lib.hid he
    clear he
    go_wp2
    go_ret
    exact ⟨by rw [HE.out]; rfl, HB.out⟩
  | true =>
    cases hT : T s u with
    | none =>
      have hz : z = false := by rw [HH.out, hT]; rfl
      subst hz
      have he := jdT_none (len := len) HKN.out.symm hT
      have HE := Lib.hid he
      clear he
      go_wp2
      go_ret
      exact ⟨by rw [HE.out]; rfl, HB.out⟩
    | some y =>
      have hz : z = true := by rw [HH.out, hT]; rfl
      subst hz
      have hy := HT1.out y hT
      subst hy
      have he := jdT_some (len := len) HKN.out.symm hT
      have HE := Lib.hid he
      clear he hT
      by_cases h1 : (len : Int) < p
      · go_wp2
        go_ret
        exact ⟨by rw [HE.out, if_pos (.inl h1)]; rfl, HB.out⟩
      · by_cases h2 : q < (len : Int)
        · go_wp2
          go_ret
          exact ⟨by rw [HE.out, if_pos (.inr h2)]; rfl, HB.out⟩
        · go_wp2
          go_ret
          exact ⟨by rw [HE.out, if_neg (by omega)]; rfl, HB.out⟩
end Go.Proofs.Ytmihhapedpalmaa
