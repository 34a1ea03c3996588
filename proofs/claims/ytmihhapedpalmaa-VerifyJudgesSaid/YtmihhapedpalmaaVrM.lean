/- Layer 12: rows of kinds, their table, the document's Last (Vr, Vr2, Vr3, Vr4 in one text: a claim has at most 60 files). -/
import Derived.Test.YtmihhapedpalmaaVfT
import Derived.Test.YtmihhapedpalmaaFlat
import Derived.Test.YtmihhapedpalmaaKeep
import Derived.Test.YtmihhapedpalmaaOwn
import Derived.Deep.MidRow
import Derived.Deep.CutBlock
import Derived.Deep.DeepCutAuto
import Derived.Test.YtmihhapedpalmaaVfV
namespace Go.Proofs.Ytmihhapedpalmaa
open Go.RowKit Go.Own Go.Maps
set_option linter.unusedVariables false
set_option linter.unusedSimpArgs false

/-- A row: a kind, and how many bytes it has. -/
structure Rw where
  s : Nat
  u : Nat
  p : Int
  q : Int
def rw0 : Rw := ⟨0, 0, 0, 0⟩
def Rw.cs (r : Rw) : List Value := [.int .u8 (r.s : Nat), .int .u8 (r.u : Nat), .int .i64 r.p, .int .i64 r.q]
theorem Rw.len (r : Rw) : r.cs.length = 4 := rfl
def rwl (l : List Rw) : List Value := l.flatMap Rw.cs
theorem rwl_len (l : List Rw) : (rwl l).length = l.length * 4 := by
  induction l with
  | nil => rfl
  | cons x r ih => simp only [rwl, List.flatMap_cons, List.length_append, Rw.len, List.length_cons] at ih ⊢; omega
theorem rwl_at (l : List Rw) : ∀ (i : Nat), i < l.length → ∀ j, j < 4 → (rwl l)[i * 4 + j]? = (l.getD i rw0).cs[j]? := by
  induction l with
  | nil => intro i hi; simp at hi
  | cons x r ih =>
    intro i hi j hj
    have e : rwl (x :: r) = x.cs ++ rwl r := by simp [rwl]
    rw [e]
    rcases Nat.eq_zero_or_pos i with h0 | h0
    · subst h0
      rw [List.getElem?_append_left (by rw [Rw.len]; omega)]
      simp
    · obtain ⟨k, rfl⟩ : ∃ k, i = k + 1 := ⟨i - 1, by omega⟩
      rw [List.getElem?_append_right (by rw [Rw.len]; omega), Rw.len, show (k + 1) * 4 + j - 4 = k * 4 + j by omega, ih k (by simpa using hi) j hj]
      simp
/-- What a row may be. -/
def RwOk (l : List Rw) : Prop := ∀ r ∈ l, r.s < 256 ∧ r.u < 256
theorem RwOk.at {l : List Rw} (h : RwOk l) {k : Nat} (hk : k < l.length) : (l.getD k rw0).s < 256 ∧ (l.getD k rw0).u < 256 := by
  refine h _ ?_
  unfold List.getD
  rw [List.getElem?_eq_getElem hk]
  exact List.getElem_mem _
/-- Rows in memory. -/
structure RwS (lo n : Nat) (w : World) (a : Option Addr) (cap : Nat) (l : List Rw) : Prop where
  le : l.length ≤ cap
  top : cap ≤ maxLen
  at_ : 0 < l.length → ∃ b off, a = some ⟨b, off, none⟩ ∧ lo ≤ b ∧ b < n ∧ ∀ i, i < l.length → ∀ j v, (l.getD i rw0).cs[j]? = some v → w.cell? ⟨b, off + i * 4 + j, none⟩ = some v
theorem RwS.below {lo n : Nat} {w w' : World} {a : Option Addr} {cap k : Nat} {l : List Rw} (h : RwS lo n w a cap l) (hb : Below k w w') (hk : n ≤ k) : RwS lo n w' a cap l :=
  ⟨h.le, h.top, fun hl => by
    obtain ⟨b, off, e, hlo, hlt, hc⟩ := h.at_ hl
    exact ⟨b, off, e, hlo, hlt, fun i hi j v hv => (hb.cell (p := ⟨b, off + i * 4 + j, none⟩) (Nat.lt_of_lt_of_le hlt hk)).trans (hc i hi j v hv)⟩⟩
theorem fit_consV {w : World} {k : Leaf} {ks : List Leaf} {cs : List Value} (h : Fit w (k :: ks) cs) : ∃ v vs, cs = v :: vs ∧ k.fits w v ∧ Fit w ks vs := by
  cases cs with
  | nil => exact h.elim
  | cons v vs => exact ⟨v, vs, rfl, h.1, h.2⟩
theorem fit_nilV {w : World} {cs : List Value} (h : Fit w [] cs) : cs = [] := by
  cases cs with
  | nil => rfl
  | cons v vs => exact h.elim
theorem rws_flat {w : World} {a : Option Addr} {len cap m : Nat} (h : IsFlat [.int .u8, .int .u8, .int .i64, .int .i64] w a len cap) (hm : m ≤ len) : ∃ l : List Rw, l.length = m ∧ RwOk l ∧ RwS 0 w.heap.size w a cap l := by
  obtain ⟨h1, h2, _, h4⟩ := h
  by_cases h0 : 0 < len
  · obtain ⟨b, off, e, hb, hx⟩ := h4 h0
    have each : ∀ i, i < len → ∃ r : Rw, (r.s < 256 ∧ r.u < 256) ∧ ∀ j v, r.cs[j]? = some v → w.cell? ⟨b, off + i * 4 + j, none⟩ = some v := by
      intro i hi
      obtain ⟨cs, hf, hc⟩ := hx i hi
      obtain ⟨_, v1, rfl, ⟨z0, rfl, k0⟩, h1⟩ := fit_consV hf
      obtain ⟨_, v2, rfl, ⟨z1, rfl, k1⟩, h2⟩ := fit_consV h1
      obtain ⟨_, v3, rfl, ⟨z2, rfl, k2⟩, h3⟩ := fit_consV h2
      obtain ⟨_, v4, rfl, ⟨z3, rfl, k3⟩, h4⟩ := fit_consV h3
      obtain rfl := fit_nilV h4
      have b0 := bounds_u8 k0
      have b1 := bounds_u8 k1
      obtain ⟨s, rfl⟩ := Int.eq_ofNat_of_zero_le b0.1
      obtain ⟨u, rfl⟩ := Int.eq_ofNat_of_zero_le b1.1
      exact ⟨⟨s, u, z2, z3⟩, ⟨show s < 256 by omega, show u < 256 by omega⟩, hc⟩
    have ex : ∃ f : Nat → Rw, ∀ i, i < len → ((f i).s < 256 ∧ (f i).u < 256) ∧ ∀ j v, (f i).cs[j]? = some v → w.cell? ⟨b, off + i * 4 + j, none⟩ = some v :=
      ⟨fun i => if hi : i < len then Classical.choose (each i hi) else rw0, fun i hi => by simp only [dif_pos hi]; exact Classical.choose_spec (each i hi)⟩
    obtain ⟨f, hf⟩ := ex
    have hg : ∀ i, i < m → ((List.range m).map f).getD i rw0 = f i := fun i hi => by simp [List.getD, hi]
    refine ⟨(List.range m).map f, by simp, fun r hr => ?_, ⟨by simp; omega, h2, fun _ => ⟨b, off, e, Nat.zero_le _, hb, fun i hi j v hv => ?_⟩⟩⟩
    · obtain ⟨i, hi, rfl⟩ := List.mem_map.1 hr
      exact (hf i (by have := List.mem_range.1 hi; omega)).1
    · have hi' : i < m := by simpa using hi
      rw [hg i hi'] at hv
      exact (hf i (by omega)).2 j v hv
  · exact ⟨[], by simp; omega, fun r hr => absurd hr (by simp), ⟨Nat.zero_le _, h2, fun h => absurd h (by simp)⟩⟩
theorem rws_own {w : World} {base m : Nat} {a : Option Addr} {c : Nat} {l : List Rw} (h : w.ownsRow base 84 4 (.slice a m c) m (rwl l)) (hl : l.length = m) : RwS base w.heap.size w a c l := by
  rcases h.2 with ⟨hv, hx⟩ | ⟨g, cap, cur, hv, hb, hg, hn, hm, hs, ht⟩
  · injection hv with h1 h2 h3
    refine ⟨by omega, by rw [h3]; exact Nat.zero_le _, fun h => by omega⟩
  · simp only [Value.slice.injEq] at hv
    obtain ⟨rfl, _, rfl⟩ := hv
    refine ⟨by omega, hm, fun _ => ⟨g, 0, rfl, hb, box_lt hg, fun i hi j v hv => ?_⟩⟩
    have hj : j < 4 := (List.getElem?_eq_some_iff.1 hv).1
    rw [cell_of_row w g (0 + i * 4 + j) _ _ _ hg]
    have e := rwl_at l i hi j hj
    rw [hv, ← ht, List.getElem?_take, if_pos (by omega)] at e
    simpa using e
theorem RwS.kept {lo n b : Nat} {w w' : World} {a : Option Addr} {cap : Nat} {l : List Rw} (h : RwS lo n w a cap l) (hg : w.grownBy w' (some b)) (hn : n ≤ w.heap.size) (hb : b < lo) : RwS lo n w' a cap l :=
  ⟨h.le, h.top, fun hl => by
    obtain ⟨x, off, e, hlo, hlt, hc⟩ := h.at_ hl
    exact ⟨x, off, e, hlo, hlt, fun i hi j v hv => (World.cell?_of_block (a := ⟨x, off + i * 4 + j, none⟩) (hg.block x (by omega) (fun e => by injection e with e; omega))).trans (hc i hi j v hv)⟩⟩
/-- The table of some rows: the last one of a kind counts. -/
def tabL (l : List Rw) : Nat → Nat → Option (Int × Int) := l.foldl (fun T r => updT T r.s r.u (r.p, r.q)) (fun _ _ => none)
theorem tabL_snoc (l : List Rw) (r : Rw) : tabL (l ++ [r]) = updT (tabL l) r.s r.u (r.p, r.q) := by simp [tabL]
theorem tabL_some (l : List Rw) (s u : Nat) : (tabL l s u).isSome = true ↔ ∃ r ∈ l, r.s = s ∧ r.u = u := by
  have k : ∀ (l : List Rw) (T : Nat → Nat → Option (Int × Int)), (l.foldl (fun T r => updT T r.s r.u (r.p, r.q)) T s u).isSome = true ↔ (∃ r ∈ l, r.s = s ∧ r.u = u) ∨ (T s u).isSome = true := by
    intro l
    induction l with
    | nil => intro T; simp
    | cons x l ih =>
      intro T
      rw [List.foldl_cons, ih]
      unfold updT
      by_cases e : s = x.s ∧ u = x.u
      · rw [if_pos e]
        simp [e.1, e.2]
      · rw [if_neg e]
        constructor
        · rintro (⟨r, hr, h1, h2⟩ | h)
          · exact .inl ⟨r, by simp [hr], h1, h2⟩
          · exact .inr h
        · rintro (⟨r, hr, h1, h2⟩ | h)
          · rcases List.mem_cons.1 hr with rfl | hr
            · exact absurd ⟨h1.symm, h2.symm⟩ e
            · exact .inl ⟨r, hr, h1, h2⟩
          · exact .inr h
  have := k l (fun _ _ => none)
  simpa [tabL] using this
theorem tabL_knows {l : List Rw} (h : RwOk l) (s : Nat) : KnowsT (tabL l) s ↔ ∃ r ∈ l, r.s = s := by
  unfold KnowsT
  constructor
  · rintro ⟨u, hu, hs⟩
    obtain ⟨r, hr, h1, _⟩ := (tabL_some l s u).1 hs
    exact ⟨r, hr, h1⟩
  · rintro ⟨r, hr, h1⟩
    exact ⟨r.u, (h r hr).2, (tabL_some l s r.u).2 ⟨r, hr, h1, rfl⟩⟩


theorem min_litV {P : Program} (ats : Array TypeId) (ty : TypeId) (k : IntKind) (a b : Int) (w : World) : (Builtin.min_ ats ty #[.int k a, .int k b]).run P w = .ok (.int k (min a b)) w := by
  have e2 : (Builtin.min2 (.int k a) (.int k b)).run P w = .ok (.int k (min a b)) w := by
    unfold Builtin.min2
    by_cases h : b < a
    · have e : min a b = b := by omega
      simp [e, h]
    · have e : min a b = a := by omega
      simp [e, h]
  simp [Builtin.min_, e2]
theorem info_row12 : (Try.prog.info? 84).map (fun i => (i.zero, i.size, i.bytes)) = some (some (.agg #[.int .u8 0, .int .u8 0, .int .i64 0, .int .i64 0]), 4, 24) := by kernel_rfl
theorem size_row12 : (Try.prog.info? 84).map (·.size) = some 4 := by kernel_rfl
theorem zero_row12 (w : World) : (zeroValue 84).run Try.prog w = .ok (.agg #[.int .u8 0, .int .u8 0, .int .i64 0, .int .i64 0]) w := by kernel_rfl
set_option maxRecDepth 100000 in
set_option maxHeartbeats 4000000 in
theorem table_any (a : Option Addr) (len cap m : Nat) (L : List Rw) (w : World) (hm : m = min len 12) (hlc : len ≤ cap) (hn : a = none → cap = 0) (hL : L.length = m) (hok : RwOk L) (hr : RwS 0 w.heap.size w a cap L) :
    Calls Try.prog 27 #[.slice a len cap] w fun e w' => ∃ (b n : Nat) (D : DataW Nat) (x : Option Addr) (c : Nat), e = .returned (.tuple #[.map (some b), .slice x m c]) ∧ Tab w' b n (tabL L) D ∧ RwS 0 w'.heap.size w' x c L ∧ Below w.heap.size w w' := by
  obtain ⟨i0, hi, hz0, hz1, hz2⟩ := info_parts info_row12
  have hmm := @run_makeMap Try.prog
  have hzr := zero_row12
  have hcap := hr.top
  unfold maxLen at hcap
  have hmn := fun (w : World) => min_litV (P := Try.prog) #[3, 3] 3 .i64 (len : Int) 12 w
  rw [show min (len : Int) 12 = (m : Int) by omega] at hmn
  have hm12 : m ≤ 12 := by omega
  have hml : m ≤ len := by omega
  have HM := Lib.hid hm
  have HR := Lib.hid hr
  have HL := Lib.hid hL
  have HOK := Lib.hid hok
  have HN := Lib.hid hn
  have ht0 := tab_made w
  have hal := (Below.refl w.heap.size w).alloc (Nat.le_refl _) (.map #[] 0)
  clear hm hr hL hok hn
  go_enter Try.func27, Try.ntmps27
  go_upto_region 2 with fail
  obtain ⟨b, hb⟩ : ∃ b, b = w.heap.size := ⟨_, rfl⟩
  obtain ⟨w1, hw1⟩ : ∃ w1, w1 = w.alloc (.map #[] 0) := ⟨_, rfl⟩
  have hs1 : b < w1.heap.size := by rw [hw1, hb]; simp
  rw [← hw1] at ht0 hal ⊢
  rw [← hb] at ht0 ⊢
  have HT := Lib.hid ht0
  have HA := Lib.hid hal
  have HBE := Lib.hid hb
  clear hw1 hb ht0 hal
  go_cut [0] (fun v wx => ∃ (x : Option Addr) (c : Nat), v = .slice x m c ∧ RwS w1.heap.size wx.heap.size wx x c L ∧ Below w1.heap.size w1 wx)
  case first =>
    by_cases hnn : a = none
    · have hc0 := HN.out hnn
      subst hnn
      obtain rfl : cap = 0 := hc0
      obtain rfl : len = 0 := by omega
      obtain rfl : m = 0 := by omega
      clear hmn
      have hmn := fun (w : World) => min_litV (P := Try.prog) #[3, 3] 3 .i64 (0 : Int) 12 w
      rw [show min (0 : Int) 12 = 0 by decide] at hmn
      go_wp2
      go_meet
      case rel => exact ⟨_, 0, rfl, ⟨by have := HL.out; omega, Nat.zero_le _, fun h => by have := HL.out; omega⟩, (Below.refl _ _).alloc (Nat.le_refl _) _⟩
    · obtain ⟨x, rfl⟩ := Option.ne_none_iff_exists'.1 hnn
      have hrw : ∀ i v, (rwl L)[i]? = some v → (w1.alloc (.cells #[] 84)).cell? (x.add i) = some v := by
        intro i v hv
        have hil : i < (rwl L).length := (List.getElem?_eq_some_iff.1 hv).1
        rw [rwl_len] at hil
        obtain ⟨bb, off, e, _, hlt, hc⟩ := HR.out.at_ (by omega)
        cases e
        have h1 := rwl_at L (i / 4) (by omega) (i % 4) (Nat.mod_lt _ (by decide))
        rw [show i / 4 * 4 + i % 4 = i by omega, hv] at h1
        have h2 := hc (i / 4) (by omega) (i % 4) v h1.symm
        rw [Addr.add_mid]
        rw [show off + i / 4 * 4 + i % 4 = off + i by omega] at h2
        have hbl : Below w.heap.size w (w1.alloc (.cells #[] 84)) := HA.out.alloc HA.out.size _
        exact (hbl.cell (p := ⟨bb, off + i, none⟩) hlt).trans h2
      go_wp2_with (at_builtin; refine wpList_append_own _ rfl _ _ 57 rfl w1.heap.size 84 i0 (.agg #[.int .u8 0, .int .u8 0, .int .i64 0, .int .i64 0]) 4 24 Try.underlying57 hi hz0 hz1 hz2 rfl (by decide) _ _ _ rfl (World.ownsRow_made _ #[] 0 ?c0 (by decide) rfl) x m cap (rwl L) rfl ?c1 ?c2 ?c6 ?c3 ?c4 ?c5 ?_)
      case c0 => exact Nat.le_refl _
      case c1 => rw [rwl_len, HL.out]
      case c2 => exact hrw
      case c6 => 
        intro v hv
        obtain ⟨r, hr, hv⟩ := List.mem_flatMap.1 hv
        simp [Rw.cs] at hv
        rcases hv with rfl | rfl | rfl | rfl <;> rfl
      case c3 => unfold maxLen; omega
      case c4 => omega
      case c5 => simp
      intro v' w2 hown hgrow hnil
      have hb2 : Below w1.heap.size w1 w2 := ((Below.refl _ _).alloc (Nat.le_refl _) _).grown hgrow (by simp) (fun k hk => by simp [Value.ownBlock] at hk; omega)
      obtain ⟨y, c, rfl⟩ : ∃ y c, v' = .slice y m c := by
        obtain ⟨h1, h2 | ⟨g, cp, cur, hv, _⟩⟩ := hown
        · exact absurd h2.1 hnil
        · exact ⟨_, _, hv⟩
      have HRW := Lib.hid (rws_own hown HL.out)
      have HB2 := Lib.hid hb2
      clear hown hgrow hnil hb2 hrw
      go_wp2
      go_meet
      case rel => exact ⟨_, _, rfl, HRW.out, HB2.out⟩
  case rest =>
    obtain ⟨x, c, rfl, hrw, hB⟩ := hcut
    obtain ⟨wd, hwd⟩ : ∃ wd, wd = wc := ⟨_, rfl⟩
    rw [← hwd] at hrw hB ⊢
    have HRW := Lib.hid hrw
    have HBD := Lib.hid (HA.out.trans (hB.mono HA.out.size))
    have HTD := Lib.hid (HT.out.below hB)
    have hle := hrw.le
    have htop := hrw.top
    have hlm := HL.out
    unfold maxLen at htop
    rw [hlm] at hle
    obtain ⟨n, hn⟩ : ∃ n, n = wd.heap.size := ⟨_, rfl⟩
    rw [← hn] at HRW
    have HN2 := Lib.hid hn
    clear hwd hrw hB hn hmn HT HR HN hlm
    go_wp2_with fail
    go_loopw [17] (fun v wr => ∃ (k : Nat) (D : DataW Nat), k ≤ m ∧ v = .int .i64 (k : Nat) ∧ Tab wr b k (tabL (L.take k)) D ∧ RwS w1.heap.size n wr x c L ∧ n ≤ wr.heap.size ∧ Below w.heap.size w wr) (fun v _ => m - (intOf v).toNat)
    case atStart => exact ⟨0, _, Nat.zero_le _, rfl, HTD.out, HRW.out, Nat.le_of_eq HN2.out, HBD.out⟩
    case round =>
      clear HTD HRW HBD HN2
      obtain ⟨k, D, hk, rfl, ht, hrw, hnw, hB⟩ := hrel
      have HT := Lib.hid ht
      have HRW := Lib.hid hrw
      have HB := Lib.hid hB
      have HNW := Lib.hid hnw
      clear ht hrw hB hnw
      by_cases hlt : k < m
      · have hkl : k < L.length := by have := HL.out; omega
        obtain ⟨bb, off, rfl, hlo, hbn, hc⟩ := HRW.out.at_ (by omega)
        obtain ⟨hs, hu⟩ := HOK.out.at hkl
        have htk : L.take (k + 1) = L.take k ++ [L.getD k rw0] := by
          rw [List.take_add_one, List.getElem?_eq_getElem hkl]
          simp [List.getD, hkl]
        have hrg := hc k hkl
        obtain ⟨r, hr⟩ : ∃ r, r = L.getD k rw0 := ⟨_, rfl⟩
        rw [← hr] at hs hu htk hrg
        have hrange : wr.rangeAt bb (off + k * 4) (Rw.cs r) := hrg
        have HRG := Lib.hid hrange
        have HTK := Lib.hid htk
        have hal := (Below.refl wr.heap.size wr).alloc (Nat.le_refl _) (.cells #[.int .u8 (r.s : Nat), .int .u8 (r.u : Nat), .int .i64 r.p, .int .i64 r.q] 84)
        have h6 := heap_alloc_new wr (.cells #[.int .u8 (r.s : Nat), .int .u8 (r.u : Nat), .int .i64 r.p, .int .i64 r.q] 84)
        obtain ⟨we, hwe⟩ : ∃ we, wr.alloc (.cells #[.int .u8 (r.s : Nat), .int .u8 (r.u : Nat), .int .i64 r.p, .int .i64 r.q] 84) = we := ⟨_, rfl⟩
        rw [hwe] at hal h6
        have HT2 := Lib.hid (HT.out.below hal)
        have HRW2 := Lib.hid (HRW.out.below hal HNW.out)
        have HB2 := Lib.hid (HB.out.trans (hal.mono HB.out.size))
        have hnw2 := Nat.le_trans HNW.out hal.size
        have HNW2 := Lib.hid hnw2
        clear hr hrange htk hc hrg hal HT HRW HB HNW hnw2
        have hrl := HRG.out
        go_upto_region 6 with (first | ((with_reducible show wpList _ _ _ (_ :: _) _ _); refine wpList_load_mid rfl 84 _ rfl _ (off + k * 4) rfl (Rw.cs r) _ hrl Try.underlying84 rfl size_row12 ?_; rw [show (Rw.cs r).toArray = #[.int .u8 (r.s : Nat), .int .u8 (r.u : Nat), .int .i64 r.p, .int .i64 r.q] from rfl]; (try go_simp)) | ((with_reducible show wpList _ _ _ (_ :: _) _ _); refine wpList_store_row rfl 84 _ _ rfl _ _ rfl rfl _ _ (heap_alloc_new _ _) (by exact size_row12) (by rfl) (by simp [Value.oneCell']) ?_; rw [World.setRow_alloc_new, hwe]))
        clear hrl hwe HRG
        obtain ⟨g6, hg6⟩ : ∃ g, g = wr.heap.size := ⟨_, rfl⟩
        rw [← hg6] at h6 ⊢
        clear hg6
        have c0 := cell_of_row _ g6 0 _ _ _ h6
        have c1 := cell_of_row _ g6 1 _ _ _ h6
        have c2 := cell_of_row _ g6 2 _ _ _ h6
        have c3 := cell_of_row _ g6 3 _ _ _ h6
        have hkey := kl_of hs hu
        have hkm : k < maxLen := by unfold maxLen; omega
        go_wp2_with (at_mapUpdate; refine wpList_mapUpdate_own _ rfl _ _ _ 60 rfl _ _ kind_keyed Try.underlying60 formR b k D rfl HT2.out.own hkm _ _ _ rfl rfl hkey (formD r.p r.q) [] (formR_mk r.p r.q) ?_; intro wu hown hgr)
        have ht2 := HT2.out.put hs hu (r.p, r.q) hown
        rw [← tabL_snoc, ← HTK.out] at ht2
        have hB3 := HB2.out.grown hgr HB2.out.size (fun j hj => by cases hj; have := HBE.out; omega)
        have hrw3 := HRW2.out.kept hgr HNW2.out hs1
        go_roundw
        case rel => exact ⟨k + 1, _, by omega, by go_num, ht2, hrw3, Nat.le_trans HNW2.out hgr.size, hB3⟩
        case measure => simp [intOf]; omega
      · obtain rfl : k = m := by omega
        have hLk : L.take k = L := List.take_of_length_le (by have := HL.out; omega)
        have ht := HT.out
        rw [hLk] at ht
        have HT3 := Lib.hid ht
        clear ht hLk
        go_wp2_with fail
        go_ret2
        exact ⟨b, k, D, _, _, rfl, HT3.out, ⟨HRW.out.le, HRW.out.top, fun h => by
          obtain ⟨bb, off, e, _, hbn, hc⟩ := HRW.out.at_ h
          exact ⟨bb, off, e, Nat.zero_le _, Nat.lt_of_lt_of_le hbn HNW.out, hc⟩⟩, HB.out⟩


/-- Rows of one kind. -/
def kinB (a b : Rw) : Bool := ((a.s : Int) == (b.s : Int)) && ((a.u : Int) == (b.u : Int))
theorem kinB_iff (a b : Rw) : kinB a b = true ↔ a.s = b.s ∧ a.u = b.u := by
  unfold kinB
  rw [Bool.and_eq_true, beq_iff_eq, beq_iff_eq]
  omega
/-- Is there a later one of the k-th row's kind? -/
def latB (L : List Rw) (k : Nat) : Bool := (L.drop (k + 1)).any (kinB (L.getD k rw0))
/-- The rows that count, of the first k. -/
def lastK (L : List Rw) : Nat → List Rw
  | 0 => []
  | k + 1 => if latB L k then lastK L k else lastK L k ++ [L.getD k rw0]
theorem lastK_le (L : List Rw) : ∀ k, (lastK L k).length ≤ k
  | 0 => Nat.le_refl _
  | k + 1 => by
    have := lastK_le L k
    unfold lastK
    split
    · omega
    · simp; omega
theorem lastK_mem (L : List Rw) : ∀ k i, i < k → latB L i = false → L.getD i rw0 ∈ lastK L k
  | 0, i, h, _ => absurd h (Nat.not_lt_zero _)
  | k + 1, i, h, hl => by
    unfold lastK
    by_cases e : i = k
    · subst e
      rw [if_neg (by rw [hl]; decide)]
      simp
    · have := lastK_mem L k i (by omega) hl
      split
      · exact this
      · exact List.mem_append_left _ this
theorem lastK_of (L : List Rw) : ∀ k r, r ∈ lastK L k → ∃ i, i < k ∧ latB L i = false ∧ r = L.getD i rw0
  | 0, r, h => absurd h (by simp [lastK])
  | k + 1, r, h => by
    unfold lastK at h
    split at h
    · obtain ⟨i, hi, h1, h2⟩ := lastK_of L k r h
      exact ⟨i, by omega, h1, h2⟩
    · rename_i hl
      rcases List.mem_append.1 h with h | h
      · obtain ⟨i, hi, h1, h2⟩ := lastK_of L k r h
        exact ⟨i, by omega, h1, h2⟩
      · exact ⟨k, by omega, by simpa using hl, by simpa using h⟩
theorem fold_other (l : List Rw) : ∀ (T : Nat → Nat → Option (Int × Int)) (s u : Nat), (∀ r ∈ l, ¬ (r.s = s ∧ r.u = u)) → l.foldl (fun T r => updT T r.s r.u (r.p, r.q)) T s u = T s u := by
  induction l with
  | nil => intro T s u _; rfl
  | cons x l ih =>
    intro T s u h
    rw [List.foldl_cons, ih _ s u (fun r hr => h r (by simp [hr]))]
    unfold updT
    rw [if_neg (fun e => h x (by simp) ⟨e.1.symm, e.2.symm⟩)]
theorem tabL_at (L : List Rw) {i : Nat} (hi : i < L.length) (hl : latB L i = false) : tabL L (L.getD i rw0).s (L.getD i rw0).u = some ((L.getD i rw0).p, (L.getD i rw0).q) := by
  have e : L = L.take i ++ [L.getD i rw0] ++ L.drop (i + 1) := by
    have h1 : L.getD i rw0 = L[i] := by simp [List.getD, hi]
    rw [h1, List.append_assoc, List.singleton_append, List.getElem_cons_drop, List.take_append_drop]
  obtain ⟨r, hr⟩ : ∃ r, r = L.getD i rw0 := ⟨_, rfl⟩
  have hno : ∀ x ∈ L.drop (i + 1), ¬ (x.s = r.s ∧ x.u = r.u) := by
    intro x hx h
    have : latB L i = true := by
      unfold latB
      rw [List.any_eq_true]
      exact ⟨x, hx, (kinB_iff _ _).2 (by rw [← hr]; exact ⟨h.1.symm, h.2.symm⟩)⟩
    rw [hl] at this; cases this
  rw [← hr] at e ⊢
  generalize L.take i = A at e
  generalize L.drop (i + 1) = D at e hno
  subst e
  unfold tabL
  rw [List.foldl_append, fold_other _ _ _ _ hno, List.foldl_append]
  simp [updT]
theorem lastK_tab (L : List Rw) {r : Rw} (h : r ∈ lastK L L.length) : tabL L r.s r.u = some (r.p, r.q) := by
  obtain ⟨i, hi, hl, rfl⟩ := lastK_of L _ r h
  exact tabL_at L hi hl
theorem lastK_has (L : List Rw) {s u : Nat} (h : (tabL L s u).isSome = true) : ∃ r ∈ lastK L L.length, r.s = s ∧ r.u = u := by
  have k : ∀ n i, i < L.length → L.length - n ≤ i → (L.getD i rw0).s = s → (L.getD i rw0).u = u → ∃ r ∈ lastK L L.length, r.s = s ∧ r.u = u := by
    intro n
    induction n with
    | zero => intro i h1 h2; omega
    | succ n ih =>
      intro i h1 h2 h3 h4
      by_cases hl : latB L i = true
      · unfold latB at hl
        obtain ⟨x, hx, hk⟩ := List.any_eq_true.1 hl
        obtain ⟨hs, hu⟩ := (kinB_iff _ _).1 hk
        obtain ⟨j, hj, hjx⟩ := List.mem_iff_getElem.1 hx
        rw [List.length_drop] at hj
        rw [List.getElem_drop] at hjx
        have e : L.getD (i + 1 + j) rw0 = x := by rw [← hjx]; simp [List.getD, show i + 1 + j < L.length by omega]
        exact ih (i + 1 + j) (by omega) (by omega) (by rw [e, ← hs, h3]) (by rw [e, ← hu, h4])
      · exact ⟨_, lastK_mem L _ i h1 (by simpa using hl), h3, h4⟩
  obtain ⟨x, hx, h1, h2⟩ := (tabL_some L s u).1 h
  obtain ⟨i, hi, hix⟩ := List.mem_iff_getElem.1 hx
  have e : L.getD i rw0 = x := by rw [← hix]; simp [List.getD, hi]
  exact k L.length i hi (by omega) (by rw [e, h1]) (by rw [e, h2])
/-- What the document's loop has found in the first rows: none of just that kind; one of that service. -/
def djN (R : List Rw) (s u : Nat) : Bool := !(R.any fun r => r.s == s && r.u == u)
def djC (R : List Rw) (s : Nat) : Nat := if R.any (fun r => r.s == s) then 5 else 4
theorem dj_end {L : List Rw} (hok : RwOk L) {s u len : Nat} (h : djN (lastK L L.length) s u = true) : djC (lastK L L.length) s = jdT (tabL L) s u len := by
  have hn : tabL L s u = none := by
    cases e : tabL L s u with
    | none => rfl
    | some v =>
      obtain ⟨r, hr, h1, h2⟩ := lastK_has L (s := s) (u := u) (by rw [e]; rfl)
      unfold djN at h
      rw [Bool.not_eq_true'] at h
      have := List.any_eq_false.1 h r hr
      simp [h1, h2] at this
  unfold djC
  by_cases hk : knB (tabL L) s = true
  · rw [jdT_none hk hn, if_pos]
    obtain ⟨r, hr, h1⟩ := (tabL_knows hok s).1 ((knB_iff _ _).1 hk)
    obtain ⟨x, hx, h2, _⟩ := lastK_has L (s := r.s) (u := r.u) ((tabL_some L _ _).2 ⟨r, hr, rfl, rfl⟩)
    exact List.any_eq_true.2 ⟨x, hx, by simp [h2, h1]⟩
  · rw [jdT_no (by simpa using hk), if_neg]
    intro ha
    obtain ⟨x, hx, h2⟩ := List.any_eq_true.1 ha
    obtain ⟨i, hi, _, rfl⟩ := lastK_of L _ x hx
    refine hk ((knB_iff _ _).2 ((tabL_knows hok s).2 ⟨L.getD i rw0, ?_, by simpa using h2⟩))
    unfold List.getD
    rw [List.getElem?_eq_getElem hi]
    exact List.getElem_mem _
theorem dj_hit {L : List Rw} (hok : RwOk L) {r : Rw} {s u len : Nat} (h : r ∈ lastK L L.length) (hs : r.s = s) (hu : r.u = u) : jdT (tabL L) s u len = if (len : Int) < r.p ∨ r.q < (len : Int) then 6 else 0 := by
  have ht := lastK_tab L h
  rw [hs, hu] at ht
  refine jdT_some ((knB_iff _ _).2 ((tabL_knows hok s).2 ?_)) ht
  obtain ⟨i, hi, _, rfl⟩ := lastK_of L _ r h
  refine ⟨L.getD i rw0, ?_, hs⟩
  unfold List.getD
  rw [List.getElem?_eq_getElem hi]
  exact List.getElem_mem _


theorem rw_newV (w : World) (x : Rw) : ∀ (i : Nat) (u : Value), x.cs[i]? = some u → (w.alloc (.cells #[.int .u8 (x.s : Nat), .int .u8 (x.u : Nat), .int .i64 x.p, .int .i64 x.q] 84)).cell? ((⟨w.heap.size, 0, none⟩ : Addr).add i) = some u := by
  intro i u hu
  rw [Addr.add_mid]
  have := cell_of_row _ _ (0 + i) _ _ _ (heap_alloc_new w (.cells #[.int .u8 (x.s : Nat), .int .u8 (x.u : Nat), .int .i64 x.p, .int .i64 x.q] 84))
  rw [this, Nat.zero_add]
  exact (List.getElem?_toArray (xs := x.cs)).trans hu
theorem rwl_snoc (l : List Rw) (r : Rw) : rwl (l ++ [r]) = rwl l ++ r.cs := by simp [rwl]
theorem RwS.drop {lo n : Nat} {w : World} {a : Option Addr} {cap : Nat} {l : List Rw} (h : RwS lo n w a cap l) (k : Nat) (hk : k ≤ l.length) : RwS lo n w (if cap = k then a else a.map (·.add (k * 4))) (cap - k) (l.drop k) := by
  have hle := h.le
  refine ⟨by rw [List.length_drop]; omega, Nat.le_trans (Nat.sub_le _ _) h.top, fun h0 => ?_⟩
  rw [List.length_drop] at h0
  obtain ⟨b, off, rfl, h1, h2, h3⟩ := h.at_ (by omega)
  rw [if_neg (by omega)]
  refine ⟨b, off + k * 4, by simp [Addr.add_mid], h1, h2, fun i hi j v hv => ?_⟩
  rw [List.length_drop] at hi
  have e : (l.drop k).getD i rw0 = l.getD (k + i) rw0 := by simp [List.getD]
  rw [e] at hv
  have := h3 (k + i) (by omega) j v hv
  rw [show off + k * 4 + i * 4 = off + (k + i) * 4 by omega]
  exact this
theorem slice_rw (a : Option Addr) (len cap k : Nat) (hk : k ≤ len) (w : World) : (Instr.slice 57 (.slice a len cap) (some (.int .i64 (k : Nat))) none none).run Try.prog w = .ok (.slice (if cap = k then a else a.map (·.add (k * 4))) (len - k) (cap - k)) w := by
  rw [run_slice_l w 57 a len cap (by kernel_rfl) .i64 _ (by omega) (by omega)]
  have hz : (sizeOf (Try.prog.elem 57)).run Try.prog w = .ok 4 w := by kernel_rfl
  rw [hz]
  simp [sliced, Result.andThen]
theorem own_keep4 {w w' : World} {B n : Nat} {e : TypeId} {v : Value} {xs : List Value} (h : w.ownsRow B e 4 v n xs) (hb : Below w.heap.size w w') : w'.ownsRow B e 4 v n xs := by
  obtain ⟨h1, h2 | ⟨g, cap, cur, hv, hB, hg, h3⟩⟩ := h
  · exact ⟨h1, .inl h2⟩
  · exact ⟨h1, .inr ⟨g, cap, cur, hv, hB, (hb.block g (box_lt hg)).trans hg, h3⟩⟩
theorem own_formR {w : World} {base n : Nat} {e : TypeId} {size : Nat} {v : Value} {xs : List Value} (h : w.ownsRow base e size v n xs) : ∃ a c, v = .slice a n c := by
  rcases h.2 with ⟨h1, h2⟩ | ⟨g, cap, cur, hv, _⟩
  · exact ⟨none, 0, by rw [h1, h2]⟩
  · exact ⟨_, _, hv⟩
def anyK (l : List Rw) (r : Rw) : Bool := l.any (kinB r)
theorem anyK_snoc (l : List Rw) (r x : Rw) : anyK (l ++ [x]) r = (anyK l r || kinB r x) := by simp [anyK]
theorem take_snocR {l : List Rw} {k : Nat} (h : k < l.length) : l.take (k + 1) = l.take k ++ [l.getD k rw0] := by
  rw [List.take_add_one, List.getElem?_eq_getElem h]
  simp [List.getD, h]
theorem getD_drop (l : List Rw) (k i : Nat) : (l.drop k).getD i rw0 = l.getD (k + i) rw0 := by simp [List.getD]
set_option maxRecDepth 100000 in
set_option maxHeartbeats 4000000 in
theorem Last_any (a : Option Addr) (m cap : Nat) (L : List Rw) (w : World) (hL : L.length = m) (hm : m ≤ 12) (hr : RwS 0 w.heap.size w a cap L) :
    Calls Try.prog 73 #[.slice a m cap] w fun e w' => ∃ (x : Option Addr) (c : Nat), e = .returned (.slice x (lastK L m).length c) ∧ w'.ownsRow w.heap.size 84 4 (.slice x (lastK L m).length c) (lastK L m).length (rwl (lastK L m)) ∧ Below w.heap.size w w' := by
  obtain ⟨i0, hi, hz0, hz1, hz2⟩ := info_parts info_row12
  have hzr := zero_row12
  have hle := hr.le
  have htop := hr.top
  unfold maxLen at htop
  rw [hL] at hle
  have HR := Lib.hid hr
  have HL := Lib.hid hL
  clear hr hL
  go_enter Try.func73, Try.ntmps73
  go_wp2_with fail
  go_loopw [3, 11] (fun s3 s11 wr => ∃ (j : Nat) (x : Option Addr) (c : Nat), j ≤ m ∧ s11 = .int .i64 (j : Nat) ∧ s3 = .slice x (lastK L j).length c ∧ wr.ownsRow w.heap.size 84 4 (.slice x (lastK L j).length c) (lastK L j).length (rwl (lastK L j)) ∧ Below w.heap.size w wr) (fun _ v _ => m - (intOf v).toNat)
  case atStart => exact ⟨0, none, 0, Nat.zero_le _, rfl, rfl, ⟨rfl, .inl ⟨rfl, rfl⟩⟩, Below.refl _ _⟩
  case round =>
    obtain ⟨j, ox, oc, hj, rfl, rfl, hown, hB⟩ := hrel
    have HO := Lib.hid hown
    have HB := Lib.hid hB
    clear hown hB
    have hll := lastK_le L j
    by_cases hlt : j < m
    · have hkl : j < L.length := by have := HL.out; omega
      have hrj := HR.out.below HB.out (Nat.le_refl _)
      obtain ⟨bb, off, rfl, hlo, hbn, hc⟩ := hrj.at_ (by omega)
      have hsub := hrj.drop (j + 1) (by omega)
      have hdl : (L.drop (j + 1)).length = m - (j + 1) := by rw [List.length_drop, HL.out]
      have hsl := fun w => slice_rw (some ⟨bb, off, none⟩) m cap (j + 1) (by omega) w
      have hrg := hc j hkl
      obtain ⟨r, hr⟩ : ∃ r, r = L.getD j rw0 := ⟨_, rfl⟩
      rw [← hr] at hrg
      have hrl : wr.rangeAt bb (off + j * 4) (Rw.cs r) := hrg
      have hlat : latB L j = anyK (L.drop (j + 1)) r := by unfold latB anyK; rw [hr]
      have hnxt : lastK L (j + 1) = if anyK (L.drop (j + 1)) r then lastK L j else lastK L j ++ [r] := by rw [← hlat, hr]; rfl
      obtain ⟨S, hS⟩ : ∃ S, S = L.drop (j + 1) := ⟨_, rfl⟩
      rw [← hS] at hsub hdl hnxt
      obtain ⟨q, hq⟩ : ∃ q, q = m - (j + 1) := ⟨_, rfl⟩
      rw [← hq] at hdl
      obtain ⟨sa, hsa⟩ : ∃ sa : Option Addr, sa = (if cap = j + 1 then (some ⟨bb, off, none⟩ : Option Addr) else (some (⟨bb, off, none⟩ : Addr)).map (·.add ((j + 1) * 4))) := ⟨_, rfl⟩
      rw [← hsa] at hsub
      simp only [← hsa, ← hq] at hsl
      have hslI : ((j + 1 : Nat) : Int) = (j : Int) + 1 := by omega
      rw [hslI] at hsl
      obtain ⟨sc, hsc⟩ : ∃ sc, sc = cap - (j + 1) := ⟨_, rfl⟩
      rw [← hsc] at hsub
      simp only [← hsc] at hsl
      have HSUB := Lib.hid hsub
      have HDL := Lib.hid hdl
      have HNX := Lib.hid hnxt
      have hal := (Below.refl wr.heap.size wr).alloc (Nat.le_refl _) (.cells #[.int .u8 (r.s : Nat), .int .u8 (r.u : Nat), .int .i64 r.p, .int .i64 r.q] 84)
      have h5 := heap_alloc_new wr (.cells #[.int .u8 (r.s : Nat), .int .u8 (r.u : Nat), .int .i64 r.p, .int .i64 r.q] 84)
      obtain ⟨we, hwe⟩ : ∃ we, wr.alloc (.cells #[.int .u8 (r.s : Nat), .int .u8 (r.u : Nat), .int .i64 r.p, .int .i64 r.q] 84) = we := ⟨_, rfl⟩
      rw [hwe] at hal h5
      have HB2 := Lib.hid (HB.out.trans (hal.mono HB.out.size))
      have HAL := Lib.hid hal
      have hq12 : q ≤ 12 := by omega
      have hqs : q ≤ sc := by omega
      have hsct : sc ≤ cap := by omega
      clear hr hrg hlat hsa hS hc hsub hdl hnxt hal hrj hlo hbn hq hsc hkl hslI
      go_upto_region 6 with (first | ((with_reducible show wpList _ _ _ (_ :: _) _ _); refine wpList_load_mid rfl 84 _ rfl _ (off + j * 4) rfl (Rw.cs r) _ hrl Try.underlying84 rfl size_row12 ?_; rw [show (Rw.cs r).toArray = #[.int .u8 (r.s : Nat), .int .u8 (r.u : Nat), .int .i64 r.p, .int .i64 r.q] from rfl]; (try go_simp)) | ((with_reducible show wpList _ _ _ (_ :: _) _ _); refine wpList_store_row rfl 84 _ _ rfl _ _ rfl rfl _ _ (heap_alloc_new _ _) (by exact size_row12) (by rfl) (by simp [Value.oneCell']) ?_; rw [World.setRow_alloc_new, hwe]))
      clear hrl hwe
      obtain ⟨g5, hg5⟩ : ∃ g, g = wr.heap.size := ⟨_, rfl⟩
      rw [← hg5] at h5 ⊢
      clear hg5
      have H5 := Lib.hid h5
      clear h5
      go_wp2_with fail
      have hse : w.heap.size ≤ we.heap.size := HB2.out.size
      have HSE := Lib.hid (HSUB.out.below HAL.out HB.out.size)
      have HOE := Lib.hid (own_keep4 HO.out HAL.out)
      clear HSUB HAL HB HO
      go_loopw [6, 21] (fun s6 s21 wz => ∃ i, i ≤ q ∧ s21 = .int .i64 (i : Nat) ∧ s6 = .bool (!anyK (S.take i) r) ∧ Below we.heap.size we wz) (fun _ v _ => q - (intOf v).toNat)
      case atStart => exact ⟨0, Nat.zero_le _, rfl, rfl, Below.refl _ _⟩
      case round =>
        obtain ⟨i, hiq, rfl, rfl, hBz⟩ := hrel
        have HBZ := Lib.hid hBz
        clear hBz
        by_cases hlz : i < q
        · have hkz : i < S.length := by have := HDL.out; omega
          obtain ⟨b2, o2, rfl, _, hb2, hc2⟩ := (HSE.out.below HBZ.out hse).at_ (by omega)
          have hrg2 := hc2 i hkz
          have htk := take_snocR hkz
          obtain ⟨x, hx⟩ : ∃ x, x = S.getD i rw0 := ⟨_, rfl⟩
          rw [← hx] at hrg2 htk
          have hrl2 : wr.rangeAt b2 (o2 + i * 4) (Rw.cs x) := hrg2
          have hak := anyK_snoc (S.take i) r x
          rw [← htk] at hak
          obtain ⟨t, ht⟩ : ∃ t, t = anyK (S.take i) r := ⟨_, rfl⟩
          rw [← ht] at hak ⊢
          have HAK := Lib.hid hak
          have hal2 := (Below.refl wr.heap.size wr).alloc (Nat.le_refl _) (.cells #[.int .u8 (x.s : Nat), .int .u8 (x.u : Nat), .int .i64 x.p, .int .i64 x.q] 84)
          have h8 := heap_alloc_new wr (.cells #[.int .u8 (x.s : Nat), .int .u8 (x.u : Nat), .int .i64 x.p, .int .i64 x.q] 84)
          obtain ⟨wf, hwf⟩ : ∃ wf, wr.alloc (.cells #[.int .u8 (x.s : Nat), .int .u8 (x.u : Nat), .int .i64 x.p, .int .i64 x.q] 84) = wf := ⟨_, rfl⟩
          rw [hwf] at hal2 h8
          have h5 := ((HBZ.out.trans (hal2.mono HBZ.out.size)).block g5 (box_lt H5.out)).trans H5.out
          have HBF := Lib.hid (HBZ.out.trans (hal2.mono HBZ.out.size))
          clear hx hrg2 hc2 htk hak ht hal2 HBZ
          go_upto_region 9 with (first | ((with_reducible show wpList _ _ _ (_ :: _) _ _); refine wpList_load_mid rfl 84 _ rfl _ (o2 + i * 4) rfl (Rw.cs x) _ hrl2 Try.underlying84 rfl size_row12 ?_; rw [show (Rw.cs x).toArray = #[.int .u8 (x.s : Nat), .int .u8 (x.u : Nat), .int .i64 x.p, .int .i64 x.q] from rfl]; (try go_simp)) | ((with_reducible show wpList _ _ _ (_ :: _) _ _); refine wpList_store_row rfl 84 _ _ rfl _ _ rfl rfl _ _ (heap_alloc_new _ _) (by exact size_row12) (by rfl) (by simp [Value.oneCell']) ?_; rw [World.setRow_alloc_new, hwf]))
          clear hrl2 hwf
          obtain ⟨g8, hg8⟩ : ∃ g, g = wr.heap.size := ⟨_, rfl⟩
          rw [← hg8] at h8 ⊢
          clear hg8
          have c0 := cell_of_row _ g5 0 _ _ _ h5
          have c1 := cell_of_row _ g5 1 _ _ _ h5
          have d0 := cell_of_row _ g8 0 _ _ _ h8
          have d1 := cell_of_row _ g8 1 _ _ _ h8
          clear h5 h8
          have hiq' : i + 1 ≤ q := hlz
          obtain ⟨e1, he1⟩ : ∃ e1, e1 = ((r.s : Int) == (x.s : Int)) := ⟨_, rfl⟩
          obtain ⟨e2, he2⟩ : ∃ e2, e2 = ((r.u : Int) == (x.u : Int)) := ⟨_, rfl⟩
          have HKB := Lib.hid (show kinB r x = (e1 && e2) by rw [he1, he2]; rfl)
          have f1 := he1.symm
          have f2 := he2.symm
          clear he1 he2
          cases e1 with
          | false =>
            go_wp2
            go_roundw
            case rel => exact ⟨i + 1, hiq', by go_num, by rw [HAK.out, HKB.out]; simp, HBF.out⟩
            case measure => simp [intOf]; omega
          | true =>
            cases e2 with
            | false =>
              go_wp2
              go_roundw
              case rel => exact ⟨i + 1, hiq', by go_num, by rw [HAK.out, HKB.out]; simp, HBF.out⟩
              case measure => simp [intOf]; omega
            | true =>
              go_wp2
              go_roundw
              case rel => exact ⟨i + 1, hiq', by go_num, by rw [HAK.out, HKB.out]; simp, HBF.out⟩
              case measure => simp [intOf]; omega
        · obtain rfl : i = q := by omega
          rw [List.take_of_length_le (by have := HDL.out; omega)]
          have h5 := (HBZ.out.block g5 (box_lt H5.out)).trans H5.out
          have HB3 := Lib.hid (HB2.out.trans (HBZ.out.mono HB2.out.size))
          have hsz : w.heap.size ≤ wr.heap.size := HB3.out.size
          have hj1 : j + 1 ≤ m := hlt
          have HOZ := Lib.hid (own_keep4 HOE.out HBZ.out)
          clear HBZ HOE H5 HSE HDL
          obtain ⟨t, ht⟩ : ∃ t, t = anyK S r := ⟨_, rfl⟩
          have hnx := HNX.out
          rw [← ht] at hnx ⊢
          clear ht HNX
          cases t with
          | true =>
            rw [if_pos rfl] at hnx
            have HNX := Lib.hid hnx
            clear hnx
            go_wp2
            go_roundw
            case rel => exact ⟨j + 1, ox, oc, hj1, by go_num, by rw [HNX.out], by rw [HNX.out]; exact HOZ.out, HB3.out⟩
            case measure => simp [intOf]; omega
          | false =>
            rw [if_neg (by decide)] at hnx
            have HNX := Lib.hid hnx
            clear hnx
            go_wp2_with (first | (refine wpList_load_row rfl 84 _ rfl _ rfl _ _ _ _ h5 Try.underlying84 rfl (by exact size_row12) ?_; (try go_simp)) | (at_builtin; refine wpList_append_own _ rfl _ _ 57 rfl w.heap.size 84 i0 (.agg #[.int .u8 0, .int .u8 0, .int .i64 0, .int .i64 0]) 4 24 Try.underlying57 hi hz0 hz1 hz2 rfl (by decide) _ _ _ rfl (HOZ.out.alloc _) ⟨wr.heap.size, 0, none⟩ 1 1 r.cs rfl rfl (rw_newV _ _) (by intro v hv; simp [Rw.cs] at hv; rcases hv with rfl | rfl | rfl | rfl <;> rfl) (by unfold maxLen; omega) (by omega) (by simp; omega) ?_; intro v4 w4 hown4 hgr4 _))
            have hB4 := (HB3.out.alloc hsz (.cells #[.int .u8 (r.s : Nat), .int .u8 (r.u : Nat), .int .i64 r.p, .int .i64 r.q] 84)).grown hgr4 (by simp; omega) (fun k hk => (World.ownsRow.lt HOZ.out k hk).1)
            rw [← rwl_snoc] at hown4
            obtain ⟨ya, yc, rfl⟩ := own_formR hown4
            have HO4 := Lib.hid hown4
            have HB4 := Lib.hid hB4
            clear hown4 hB4 hgr4
            go_wp2
            go_roundw
            case rel => exact ⟨j + 1, ya, yc, hj1, by go_num, by rw [HNX.out]; simp, by rw [HNX.out]; simpa using HO4.out, HB4.out⟩
            case measure => simp [intOf]; omega
    · obtain rfl : j = m := by omega
      go_wp2
      go_ret
      exact ⟨_, _, rfl, HO.out, HB.out⟩
end Go.Proofs.Ytmihhapedpalmaa
