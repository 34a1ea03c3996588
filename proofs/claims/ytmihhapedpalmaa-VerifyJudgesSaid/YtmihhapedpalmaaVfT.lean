/- Verification: tables. -/
import Derived.Test.YtmihhapedpalmaaVfK2
import Derived.Maps.RangeWalk
import Derived.Maps.Views
import Derived.Maps.OwnOps
namespace Go.Proofs.Ytmihhapedpalmaa
open Go.RowKit Go.Own Go.Maps
set_option linter.unusedVariables false
set_option linter.unusedSimpArgs false
def formD (a b : Int) : DataW Nat := .agg [.lit (.int .i64 a), .lit (.int .i64 b)]
/-- How a form reads. -/
def formR : Value → Option (DataW Nat × List MemPlace)
  | .agg cs => match cs.toList with
    | [.int .i64 a, .int .i64 b] => some (formD a b, [])
    | _ => none
  | _ => none
theorem formR_mk (a b : Int) : formR (.agg #[.int .i64 a, .int .i64 b]) = some (formD a b, []) := rfl
theorem formR_inv {v : Value} {y : DataW Nat × List MemPlace} (h : formR v = some y) : ∃ x : Int × Int, v = .agg #[.int .i64 x.1, .int .i64 x.2] ∧ y = (formD x.1 x.2, []) := by
  unfold formR at h
  split at h
  · rename_i cs
    split at h
    · rename_i a b e
      refine ⟨(a, b), ?_, by simpa using h.symm⟩
      congr 1
      apply Array.toList_inj.1
      rw [e]
    · cases h
  · cases h
theorem formD_inj {a b a' b' : Int} (h : formD a b = formD a' b') : a = a' ∧ b = b' := by
  unfold formD at h
  injection h with h
  injection h with h1 h2
  injection h2 with h2 _
  injection h1 with h1
  injection h2 with h2
  injection h1 with _ h1
  injection h2 with _ h2
  exact ⟨h1, h2⟩
/-- The key of a kind. -/
def kl (s u : Nat) : Lit := .string (keyBytes [.int .u8 (s : Nat), .int .u8 (u : Nat)])
theorem kl_of {s u : Nat} (hs : s < 256) (hu : u < 256) : keyOf Try.prog 116 (.agg #[.int .u8 (s : Nat), .int .u8 (u : Nat)]) = some (kl s u) := by
  unfold keyOf
  rw [Try.underlying116]
  dsimp only
  rw [if_pos (by rw [show Try.prog.keyType 116 = true by kernel_rfl]; simp [Value.formed, Try.underlying116, show Try.prog.cellsOf 116 = 2 by kernel_rfl])]
  have hk : Try.prog.keyLits (Try.prog.types.size + 1) 116 (Value.agg #[.int .u8 (s : Nat), .int .u8 (u : Nat)]).cells.toList = some [.int .u8 (s : Nat), .int .u8 (u : Nat)] := by
    obtain ⟨m, hm⟩ : ∃ m, Try.prog.types.size = m + 1 := Nat.exists_eq_succ_of_ne_zero (Nat.ne_of_gt (Nat.lt_of_le_of_lt (Nat.zero_le _) kind_row))
    have c1 : Try.prog.cellsOf 116 = 2 := by kernel_rfl
    have c2 : Try.prog.cellsOf 5 = 1 := by kernel_rfl
    have w1 : (Lit.int .u8 (s : Nat)).wf = true := wf8 _ (by omega)
    have w2 : (Lit.int .u8 (u : Nat)).wf = true := wf8 _ (by omega)
    rw [hm]
    simp [Program.keyLits, Try.underlying116, Try.underlying5, c1, c2, Value.cells, w1, w2]
  rw [hk]
  rfl
theorem kl_inj {s u s' u' : Nat} (hs : s < 256) (hu : u < 256) (hs' : s' < 256) (hu' : u' < 256) (h : kl s u = kl s' u') : s = s' ∧ u = u' := by
  have h1 := kl_of hs hu
  have h2 := kl_of hs' hu'
  rw [← h] at h2
  have := kind_keyed.inj h1 h2
  simp at this
  omega
theorem bounds_u8T {z : Int} (h : (Lit.int .u8 z).wf = true) : 0 ≤ z ∧ z ≤ 255 := by
  simp [Lit.wf, IntKind.min, IntKind.max, IntKind.signed, IntKind.bits] at h
  omega
theorem wf8_inv {z : Int} (h : (Lit.int .u8 z).wf = true) : ∃ n : Nat, n < 256 ∧ z = (n : Nat) := by
  obtain ⟨h1, h2⟩ := bounds_u8T h
  exact ⟨z.toNat, by omega, by omega⟩
set_option maxRecDepth 100000 in
theorem lit8 {m : Nat} {v : Value} {l : List Lit} (h : Try.prog.keyLits (m + 1) 5 [v] = some l) : ∃ n : Nat, n < 256 ∧ v = .int .u8 (n : Nat) ∧ l = [.int .u8 (n : Nat)] := by
  unfold Program.keyLits at h
  rw [Try.underlying5] at h
  cases v with
  | int k z =>
    dsimp only at h
    split at h
    · rename_i hc
      obtain ⟨rfl, hw⟩ := hc
      obtain ⟨n, hn, rfl⟩ := wf8_inv hw
      exact ⟨n, hn, rfl, by simpa using h.symm⟩
    · cases h
  | _ => simp at h
set_option maxRecDepth 100000 in
theorem key_inv {key : Value} {k : Lit} (h : keyOf Try.prog 116 key = some k) : ∃ x : Nat × Nat, x.1 < 256 ∧ x.2 < 256 ∧ key = .agg #[.int .u8 (x.1 : Nat), .int .u8 (x.2 : Nat)] ∧ k = kl x.1 x.2 := by
  have h0 := h
  unfold keyOf at h
  rw [Try.underlying116] at h
  dsimp only at h
  split at h
  · rename_i hf
    rw [Bool.and_eq_true] at hf
    have hf2 := hf.2
    have c2 : Try.prog.cellsOf 116 = 2 := by kernel_rfl
    have c1 : Try.prog.cellsOf 5 = 1 := by kernel_rfl
    cases key with
    | agg cs =>
      simp only [Value.formed, Try.underlying116, c2, beq_iff_eq] at hf2
      obtain ⟨a, b, hab⟩ : ∃ a b, cs = #[a, b] := by
        obtain ⟨l⟩ := cs
        match l, hf2 with
        | [a, b], _ => exact ⟨a, b, rfl⟩
      subst hab
      cases hk : Try.prog.keyLits (Try.prog.types.size + 1) 116 (Value.agg #[a, b]).cells.toList with
      | none => rw [hk] at h; cases h
      | some ls =>
        obtain ⟨m, hm⟩ : ∃ m, Try.prog.types.size = m + 1 := Nat.exists_eq_succ_of_ne_zero (Nat.ne_of_gt (Nat.lt_of_le_of_lt (Nat.zero_le _) kind_row))
        rw [hm] at hk
        unfold Program.keyLits at hk
        simp [Try.underlying116, c1, c2, Value.cells] at hk
        cases ha : Try.prog.keyLits (m + 1) 5 [a] with
        | none => rw [ha] at hk; simp at hk
        | some la =>
          cases hb : Try.prog.keyLits (m + 1) 5 [b] with
          | none => rw [ha, hb] at hk; simp at hk
          | some lb =>
            obtain ⟨n1, h1, rfl, _⟩ := lit8 ha
            obtain ⟨n2, h2, rfl, _⟩ := lit8 hb
            have := (kl_of h1 h2).symm.trans h0
            exact ⟨(n1, n2), h1, h2, rfl, (Option.some.inj this).symm⟩
    | _ => simp [Value.formed, Try.underlying116] at hf2
  · cases h
/-- A table: block b, at most n kinds; T: what it has. -/
structure Tab (w : World) (b n : Nat) (T : Nat → Nat → Option (Int × Int)) (D : DataW Nat) : Prop where
  own : w.ownsMap Try.prog 116 formR b n D
  has : ∀ s u, s < 256 → u < 256 → Maps.has D (kl s u) = (T s u).isSome
  get : ∀ s u, s < 256 → u < 256 → ∀ x, T s u = some x → ∀ zd, D.atKey (kl s u) zd = formD x.1 x.2
theorem Tab.kept {w w' : World} {b n : Nat} {T : Nat → Nat → Option (Int × Int)} {D : DataW Nat} {row : Option Nat} (h : Tab w b n T D) (hg : w.grownBy w' row) (hne : some b ≠ row) : Tab w' b n T D := ⟨h.own.kept hg hne, h.has, h.get⟩
theorem grown_belowT {w w' : World} (h : Below w.heap.size w w') : w.grownBy w' none := ⟨h.os, h.tape, h.output, h.size, fun k hk _ => h.block k hk⟩
theorem Tab.below {w w' : World} {b n : Nat} {T : Nat → Nat → Option (Int × Int)} {D : DataW Nat} (h : Tab w b n T D) (hb : Below w.heap.size w w') : Tab w' b n T D := h.kept (grown_belowT hb) (by simp)
theorem tab_made (w : World) : Tab (w.alloc (.map #[] 0)) w.heap.size 0 (fun _ _ => none) (.map []) :=
  ⟨World.ownsMap_made w _ _ _, fun _ _ _ _ => rfl, fun _ _ _ _ x hx => by cases hx⟩
def updT (T : Nat → Nat → Option (Int × Int)) (s u : Nat) (x : Int × Int) : Nat → Nat → Option (Int × Int) := fun s' u' => if s' = s ∧ u' = u then some x else T s' u'
theorem Tab.put {w w' : World} {b n n' s u : Nat} {T : Nat → Nat → Option (Int × Int)} {D : DataW Nat} (h : Tab w b n T D) (hs : s < 256) (hu : u < 256) (x : Int × Int) (h' : w'.ownsMap Try.prog 116 formR b n' (D.put (kl s u) (formD x.1 x.2))) : Tab w' b n' (updT T s u x) (D.put (kl s u) (formD x.1 x.2)) := by
  have hm := h.own.isMap
  have hk := kind_keyed.key (kl_of hs hu)
  refine ⟨h', fun s' u' hs' hu' => ?_, fun s' u' hs' hu' y hy zd => ?_⟩
  · by_cases e : s' = s ∧ u' = u
    · obtain ⟨rfl, rfl⟩ := e
      rw [Maps.has_put_same hm hk]
      simp [updT]
    · rw [Maps.has_put_other (fun e' => e (by have := kl_inj hs' hu' hs hu e'; exact this)), h.has s' u' hs' hu']
      simp only [updT, if_neg e]
  · by_cases e : s' = s ∧ u' = u
    · obtain ⟨rfl, rfl⟩ := e
      rw [Maps.atKey_put_same hm hk]
      have hy2 : some x = some y := by simpa [updT] using hy
      cases hy2
      rfl
    · rw [Maps.atKey_put_other (fun e' => e (by have := kl_inj hs' hu' hs hu e'; exact this))]
      exact h.get s' u' hs' hu' y (by simpa only [updT, if_neg e] using hy) zd
/-- Does it have a kind of the service? -/
def KnowsT (T : Nat → Nat → Option (Int × Int)) (s : Nat) : Prop := ∃ u, u < 256 ∧ (T s u).isSome = true
theorem kind_zero (w : World) : (zeroValue 116).run Try.prog w = .ok (.agg #[.int .u8 0, .int .u8 0]) w := by kernel_rfl
theorem size_kind : (Try.prog.info? 116).map (·.size) = some 2 := by kernel_rfl
set_option maxRecDepth 100000 in
set_option maxHeartbeats 4000000 in
theorem Known_any (s b n : Nat) (T : Nat → Nat → Option (Int × Int)) (D : DataW Nat) (w : World) (h : Tab w b n T D) (t : Bool) (ht : t = true ↔ KnowsT T s) (hs : s < 256) :
    Calls Try.prog 39 #[.map (some b), .int .u8 (s : Nat)] w fun e w' => e = .returned (.bool t) ∧ Below w.heap.size w w' := by
  have hbl := h.own.lt
  go_enter Try.func39, Try.ntmps39
  go_wp2_with (at_range; refine wpList_range_own _ rfl _ _ rfl 116 118 kind_keyed Try.underlying60 formR b n D rfl h.own ?_; intro w1 hrg hgr hsz)
  have hb1 : Below w.heap.size w w1 := ⟨hgr.os, hgr.tape, hgr.output, hgr.size, fun k hk => hgr.block k hk (by simp)⟩
  have hb1' : Below w.heap.size w w1 := hb1
  have HT := Lib.hid h
  have HTT := Lib.hid ht
  clear h ht hgr
  go_frame
  obtain ⟨r, hr⟩ : ∃ r, r = w.heap.size := ⟨_, rfl⟩
  rw [← hr] at hrg ⊢
  have HR := Lib.hid hr
  have HRG := Lib.hid hrg
  clear hr hsz hb1'
  go_loopw [8] (fun v wr => ∃ left cnt, wr.ranges Try.prog 116 formR b r n D left cnt ∧ Below w.heap.size w wr ∧ ∀ u, u < 256 → Maps.has D (kl s u) = true → left (kl s u) = true) (fun _ wr => wr.rangeLeft b r)
  case atStart => exact ⟨_, _, HRG.out, hb1, fun u _ hu => hu⟩
  case round =>
    clear HRG hb1
    obtain ⟨left, cnt, hrg, hB, hall⟩ := hrel
    have HALL := Lib.hid hall
    have HB := Lib.hid hB
    have HRG := Lib.hid hrg
    clear hall hB hrg
    go_wp2_with (at_next; refine wpList_next_ranges _ rfl _ rfl 116 kind_keyed formR (fun x : Nat × Nat => Value.agg #[.int .u8 (x.1 : Nat), .int .u8 (x.2 : Nat)]) (fun x : Int × Int => Value.agg #[.int .i64 x.1, .int .i64 x.2]) (fun key k hk => by obtain ⟨x, _, _, e, _⟩ := key_inv hk; exact ⟨x, e⟩) (fun v y hv => by obtain ⟨x, e, _⟩ := formR_inv hv; exact ⟨x, e⟩) b r n D left cnt rfl HRG.out ?done ?more)
    case done =>
      intro h0 hno
      have hnk : t = false := by
        cases ht : t with
        | false => rfl
        | true =>
          obtain ⟨u, hu, hsm⟩ := HTT.out.1 ht
          have := HALL.out u hu (by rw [HT.out.has s u hs hu]; exact hsm)
          rw [hno] at this
          cases this
      have HNK := Lib.hid hnk
      clear hno h0 hnk
      go_wp2
      go_ret
      exact ⟨by rw [HNK.out]; rfl, HB.out⟩
    case more =>
      intro xs xu ca cb k y1 y2 w2 cnt2 hkey hleft hR hat hrg2 hcnt hgr2 hsz2 hen
      obtain ⟨x', hx1, hx2, hxe, rfl⟩ := key_inv hkey
      simp at hxe
      obtain ⟨e1, e2⟩ := hxe
      have e1 : xs = x'.1 := by omega
      have e2 : xu = x'.2 := by omega
      subst e1 e2
      have hhas : Maps.has D (kl x'.1 x'.2) = true := Maps.has_true_of_atKey hat
      have hT : (T x'.1 x'.2).isSome = true := by rw [← HT.out.has _ _ hx1 hx2]; exact hhas
      have hB2 : Below w.heap.size w w2 := HB.out.grown hgr2 HB.out.size (fun j hj => by cases hj; have := HR.out; omega)
      have hrl := HRG.out.left_eq
      obtain ⟨x1, hxx1⟩ : ∃ x1, x1 = x'.1 := ⟨_, rfl⟩
      obtain ⟨x2, hxx2⟩ : ∃ x2, x2 = x'.2 := ⟨_, rfl⟩
      rw [← hxx1, ← hxx2] at hrg2 hen hT
      rw [← hxx1, ← hxx2]
      rw [← hxx1] at hx1
      rw [← hxx2] at hx2
      have HRG2 := Lib.hid hrg2
      have HB2 := Lib.hid hB2
      have HT2 := Lib.hid hT
      have HRL := Lib.hid hrl
      clear hkey hR hat hhas hleft hrg2 hB2 hT hgr2 hsz2 HRG HB hrl hxx1 hxx2
      by_cases hxs : x1 = s
      · subst hxs
        have htt : t = true := HTT.out.2 ⟨x2, hx2, HT2.out⟩
        have HTT2 := Lib.hid htt
        clear htt
        go_wp2
        go_ret
        exact ⟨by rw [HTT2.out]; rfl, HB2.out.alloc HB2.out.size _⟩
      · have hne : ((x1 : Int) == (s : Int)) = false := by rw [beq_eq_false_iff_ne]; omega
        have hall2 : ∀ u, u < 256 → Maps.has D (kl s u) = true → (left (kl s u) && !(kl s u).sameKey (kl x1 x2)) = true := fun u hu hh => by
          rw [HALL.out u hu hh, Maps.sameKey_ne (fun e => hxs (kl_inj hs hu hx1 hx2 e).1.symm)]
          rfl
        have HALL2 := Lib.hid hall2
        clear hall2 HALL
        go_wp2
        exact ⟨⟨_, _, HRG2.out.alloc _, HB2.out.alloc HB2.out.size _, HALL2.out⟩, by rw [HRL.out]; exact Nat.lt_of_le_of_lt (Nat.le_of_eq (HRG2.out.alloc _).left_eq) hcnt⟩
end Go.Proofs.Ytmihhapedpalmaa
