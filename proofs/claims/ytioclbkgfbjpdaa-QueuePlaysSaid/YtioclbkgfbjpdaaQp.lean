/- Queues: what the law's walk wants: acts; the document's queue under what others do; what All tells. -/
import Derived.Test.YtioclbkgfbjpdaaQh
import Derived.Test.YtioclbkgfbjpdaaLaw11o
import Derived.Test.YtioclbkgfbjpdaaFlat
namespace Go.Proofs.Ytioclbkgfbjpdaa
open Go.RowKit Go.Own
set_option linter.unusedVariables false
set_option linter.unusedSimpArgs false
/-- An act. -/
structure Qa where
  k : Nat
  s : Nat
  u : Nat
  t : Nat
  da : Option Addr
  dn : Nat
  dc : Nat
  l : List Nat
  M : Int
deriving Inhabited
def Qa.cs (x : Qa) : List Value := [.int .u8 ((x.k : Nat) : Int), .int .u8 ((x.s : Nat) : Int), .int .u8 ((x.u : Nat) : Int), .int .u32 ((x.t : Nat) : Int), .slice x.da x.dn x.dc, .int .i64 x.M]
structure QaOk (w : World) (x : Qa) : Prop where
  hk : x.k < 256
  hs : x.s < 256
  hu : x.u < 256
  ht : x.t < 4294967296
  len : x.l.length = x.dn
  by_ : bytes x.l
  rd : Rd w.heap.size w x.da x.dn x.dc (bv x.l)
structure QaS (w : World) (a : Option Addr) (len : Nat) (f : Nat → Qa) : Prop where
  ok : ∀ i, i < len → QaOk w (f i)
  at_ : 0 < len → ∃ b off, a = some ⟨b, off, none⟩ ∧ b < w.heap.size ∧ ∀ i, i < len → w.rangeAt b (off + i * 6) (f i).cs
theorem choose_natQ {α : Type} [Inhabited α] {n : Nat} {p : Nat → α → Prop} (h : ∀ i, i < n → ∃ v, p i v) : ∃ f : Nat → α, ∀ i, i < n → p i (f i) :=
  ⟨fun i => if hi : i < n then Classical.choose (h i hi) else default, fun i hi => by simp only [dif_pos hi]; exact Classical.choose_spec (h i hi)⟩
theorem fit_consQ {w : World} {k : Leaf} {ks : List Leaf} {cs : List Value} (h : Fit w (k :: ks) cs) : ∃ v vs, cs = v :: vs ∧ k.fits w v ∧ Fit w ks vs := by
  cases cs with
  | nil => exact h.elim
  | cons v vs => exact ⟨v, vs, rfl, h.1, h.2⟩
theorem fit_nilQ {w : World} {cs : List Value} (h : Fit w [] cs) : cs = [] := by
  cases cs with
  | nil => rfl
  | cons v vs => exact h.elim
theorem qas_flat {w : World} {a : Option Addr} {len cap : Nat} (h : IsFlat [.int .u8, .int .u8, .int .u8, .int .u32, .row .u8, .int .i64] w a len cap) : ∃ f, QaS w a len f := by
  obtain ⟨h1, h2, _, h4⟩ := h
  by_cases h0 : 0 < len
  · obtain ⟨b, off, e, hb, hx⟩ := h4 h0
    have each : ∀ i, i < len → ∃ r : Qa, QaOk w r ∧ w.rangeAt b (off + i * 6) r.cs := by
      intro i hi
      obtain ⟨cs, hf, hc⟩ := hx i hi
      obtain ⟨_, v1, rfl, ⟨z0, rfl, k0⟩, h1⟩ := fit_consQ hf
      obtain ⟨_, v2, rfl, ⟨z1, rfl, k1⟩, h2⟩ := fit_consQ h1
      obtain ⟨_, v3, rfl, ⟨z2, rfl, k2⟩, h3⟩ := fit_consQ h2
      obtain ⟨_, v4, rfl, ⟨z3, rfl, k3⟩, h4⟩ := fit_consQ h3
      obtain ⟨_, v5, rfl, ⟨da, dn, dc, zs, rfl, k4⟩, h5⟩ := fit_consQ h4
      obtain ⟨_, v6, rfl, ⟨z5, rfl, k5⟩, h6⟩ := fit_consQ h5
      obtain rfl := fit_nilQ h6
      have b0 := bounds_u8 k0
      have b1 := bounds_u8 k1
      have b2 := bounds_u8 k2
      have b3 := bounds_u32 k3
      obtain ⟨s0, rfl⟩ := Int.eq_ofNat_of_zero_le b0.1
      obtain ⟨s1, rfl⟩ := Int.eq_ofNat_of_zero_le b1.1
      obtain ⟨s2, rfl⟩ := Int.eq_ofNat_of_zero_le b2.1
      obtain ⟨s3, rfl⟩ := Int.eq_ofNat_of_zero_le b3.1
      obtain ⟨l, hl, hby, hr⟩ := isRow_rd k4
      exact ⟨⟨s0, s1, s2, s3, da, dn, dc, l, z5⟩, ⟨show s0 < 256 by omega, show s1 < 256 by omega, show s2 < 256 by omega, show s3 < 4294967296 by omega, hl, hby, hr⟩, hc⟩
    obtain ⟨f, hf⟩ := choose_natQ each
    exact ⟨f, fun i hi => (hf i hi).1, fun _ => ⟨b, off, e, hb, fun i hi => (hf i hi).2⟩⟩
  · exact ⟨fun _ => default, fun i hi => absurd hi (by omega), fun h => absurd h h0⟩
theorem XQ.below {w w' : World} {gx base n cnt d : Nat} {v : Value} {L : List Rq} (h : XQ w gx base n cnt d v L) (hb : Below w.heap.size w w') : XQ w' gx base n cnt d v L :=
  ⟨box_below h.head hb (box_lt h.head), own_keepQ h.own (fun j _ hj => hb.block j hj), h.lt, fun r hr => (h.data r hr).below hb (Nat.le_refl _)⟩
theorem XQ.kep3 {w w' : World} {gx base n cnt d gq g b : Nat} {v : Value} {L : List Rq} (h : XQ w gx base n cnt d v L) (hk : Kep3 gq g b w w') (h1 : gq < gx) (h2 : g < gx) (h3 : b < gx) : XQ w' gx base n cnt d v L := by
  have hlt := h.lt
  exact ⟨(hk.block gx (box_lt h.head) (by omega) (by omega) (by omega)).trans h.head, own_keepQ h.own (fun j hj hjs => hk.block j hjs (by omega) (by omega) (by omega)), h.lt, fun r hr => (h.data r hr).kep hk (by omega) (by omega) (by omega)⟩
theorem own_rdQ {w : World} {base c m : Nat} {a : Option Addr} {e : TypeId} {L : List Rq} (h : w.ownsRow base e 5 (.slice a m c) m (ql L)) (hm : L.length = m) : 0 < L.length → ∃ b off, a = some ⟨b, off, none⟩ ∧ b < w.heap.size ∧ ∀ j u, (ql L)[j]? = some u → w.cell? ⟨b, off + j, none⟩ = some u := fun hp => by
  rcases h.2 with ⟨hv, hx⟩ | ⟨g, cap, cur, hv, hb, hr, hn, _⟩
  · omega
  · injection hv with h1 h2 h3
    subst h1 h3
    refine ⟨g, 0, rfl, box_lt hr, fun j u hj => ?_⟩
    have := h.cells (g := g) rfl j u hj
    rw [Addr.add_mid] at this
    exact this
theorem RqOk.low {w : World} {B : Nat} {r : Rq} (h : RqOk w B r) : RqOk w 0 r := ⟨h.hs, h.hu, h.hc, h.ht, h.len, h.le, h.by_, h.rd, fun _ _ => Nat.zero_le _⟩
theorem RqOk.raise {w : World} {B : Nat} {r : Rq} {gx : Nat} (h : RqOk w B r) : RqOk w 0 r := h.low
theorem RdQ.take {w : World} {a : Option Addr} {L : List Rq} (h : RdQ w a L) (m : Nat) : RdQ w a (L.take m) :=
  ⟨fun hp => by
    obtain ⟨b, off, e, h1, h2⟩ := h.rd (by rw [List.length_take] at hp; omega)
    refine ⟨b, off, e, h1, fun j u hj => h2 j u ?_⟩
    have e2 : ql L = ql (L.take m) ++ ql (L.drop m) := by rw [← ql_append, List.take_append_drop]
    rw [e2, List.getElem?_append_left (List.getElem?_eq_some_iff.1 hj).1]
    exact hj, by have := h.len; rw [List.length_take]; omega⟩
theorem Alk.symm {x y : Rq} (h : Alk x y) : Alk y x := ⟨h.1.symm, h.2.1.symm, h.2.2.1.symm, h.2.2.2.1.symm, h.2.2.2.2.symm⟩
theorem AlkL.trans {L M N : List Rq} (h : AlkL L M) (k : AlkL M N) : AlkL L N :=
  ⟨h.1.trans k.1, fun i hi => by
    have a := h.2 i hi
    have b := k.2 i (by rw [← h.1]; exact hi)
    exact ⟨a.1.trans b.1, a.2.1.trans b.2.1, a.2.2.1.trans b.2.2.1, a.2.2.2.1.trans b.2.2.2.1, a.2.2.2.2.trans b.2.2.2.2⟩⟩
theorem map_m {Rs L : List Rq} (h : Rs.map Rq.m = L.map Rq.m) : Rs.length = L.length ∧ ∀ i, i < Rs.length → (Rs.getD i rq0).m = (L.getD i rq0).m := by
  have hl : Rs.length = L.length := by simpa using congrArg List.length h
  refine ⟨hl, fun i hi => ?_⟩
  have := congrArg (fun l => l[i]?) h
  simp only [List.getElem?_map] at this
  have h1 : i < L.length := by omega
  simp [List.getD, hi, h1] at this ⊢
  exact this
/-- What All tells, read. -/
theorem AllOf.rdq {w w' : World} {B : Nat} {v : Value} {L Rs : List Rq} (h : AllOf w w' v L Rs) (hL : ∀ r ∈ L, RqOk w B r) (hl : L.length ≤ 1000) : Rs.length = L.length ∧ (∃ a c, v = .slice a L.length c ∧ RdQ w' a Rs) ∧ (∀ r ∈ Rs, RqOk w' 0 r) ∧ AlkL Rs L := by
  obtain ⟨hlen, hm⟩ := map_m h.same
  have hmm : ∀ i, i < Rs.length → (Rs.getD i rq0).s = (L.getD i rq0).s ∧ (Rs.getD i rq0).u = (L.getD i rq0).u ∧ (Rs.getD i rq0).c = (L.getD i rq0).c ∧ (Rs.getD i rq0).t = (L.getD i rq0).t ∧ (Rs.getD i rq0).d = (L.getD i rq0).d := fun i hi => by
    have := hm i hi
    unfold Rq.m at this
    simp only [Prod.mk.injEq] at this
    exact this
  refine ⟨hlen, ?_, fun r hr => ?_, ⟨hlen, hmm⟩⟩
  · rcases h.own.2 with ⟨hv, hx⟩ | ⟨g, cap, cur, hv, hb, hrr, hn, _⟩
    · exact ⟨none, 0, by rw [hv, hx], ⟨fun hp => absurd hp (by omega), by omega⟩⟩
    · have ho := h.own
      rw [hv] at ho
      exact ⟨_, _, hv, ⟨own_rdQ ho hlen, by omega⟩⟩
  · obtain ⟨i, hi, rfl⟩ := List.mem_iff_getElem.1 hr
    have e : Rs.getD i rq0 = Rs[i] := by simp [List.getD, hi]
    obtain ⟨m1, m2, m3, m4, m5⟩ := hmm i hi
    have hr' := hL (L.getD i rq0) (getD_memQ L (by omega))
    obtain ⟨r1, r2⟩ := h.rows _ hr
    rw [e] at m1 m2 m3 m4 m5
    exact ⟨by rw [m1]; exact hr'.hs, by rw [m2]; exact hr'.hu, by rw [m3]; exact hr'.hc, by rw [m4]; exact hr'.ht, r1, by rw [← r1, m5, hr'.len]; exact hr'.le, by rw [m5]; exact hr'.by_, rd_of_own (f := bv Rs[i].d) r2 (fun j hj => bl_at _ (by rw [r1]; exact hj)), fun _ _ => Nat.zero_le _⟩
/-- What All tells, as a spec. -/
def SpAll (n : Nat) (M : List Rq) : Go.Flo.Spec :=
  ⟨fun v w => ∃ a c Rs, v = .slice a n c ∧ Rs.length = n ∧ RdQ w a Rs ∧ (∀ r ∈ Rs, RqOk w 0 r) ∧ AlkL Rs M,
   fun v w w' hb h => by
    obtain ⟨a, c, Rs, h1, h2, h3, h4, h5⟩ := h
    exact ⟨a, c, Rs, h1, h2, h3.below hb, fun r hr => (h4 r hr).below hb (Nat.le_refl _), h5⟩⟩
theorem owes_All {o : Oper} {n : Nat} {M : List Rq} {w w' : World} {v : Value} (hm : Go.Flo.makes o = false) (hb : Below w.heap.size w w') (h : (SpAll n M).says v w') : Go.Flo.owes o (SpAll n M) w v w' :=
  ⟨h, hb, fun g hg => by simp [Go.Flo.ownOf, hm] at hg⟩
theorem ex_All {C : World → Prop} {o : Oper} {n : Nat} {M : List Rq} {v : Value} {F : Go.Flo.Facts} {G : Go.Flo.Used} (h : Go.Flo.Ex C o (SpAll n M) F G v) : ∃ a c, v = .slice a n c := by
  obtain ⟨w, _, _, h1, _⟩ := h
  obtain ⟨a, c, Rs, hv, _⟩ := h1
  exact ⟨a, c, hv⟩
theorem QuS.raise {w : World} {B B' gq g b n cnt d : Nat} (h : QuS w B gq g b n cnt d []) (hB : B ≤ B') : QuS w B' gq g b n cnt d [] :=
  ⟨h.box, h.ring, h.ng, h.nb, h.hcnt, Nat.lt_of_lt_of_le h.hg hB, Nat.lt_of_lt_of_le h.hb hB, Nat.lt_of_lt_of_le h.hq hB, fun r hr => by cases hr⟩
/-- What only the document's queue changes leaves the program's. -/
theorem QuS.keptx {w w' : World} {gx gq g b n cnt d : Nat} {L : List Rq} (h : QuS w (gx + 1) gq g b n cnt d L) (hk : Kept gx gx w w') (h1 : gq < gx) (h2 : g < gx) (h3 : b < gx) : QuS w' (gx + 1) gq g b n cnt d L :=
  h.other (Kep3.of_kept hk) (by omega) (by omega) (by omega) (fun r hr y hy _ => by have := (h.data r hr).lo y hy; omega)
end Go.Proofs.Ytioclbkgfbjpdaa
