/- Monitors: Step. -/
import Derived.Test.YtkgeeohgfbacaaaMnS
import Derived.Test.YtkgeeohgfbacaaaOwn
import Derived.Deep.CutBlock
import Derived.Deep.DeepCutAuto
namespace Go.Proofs.Ytkgeeohgfbacaaa
open Go.RowKit Go.Own
set_option linter.unusedVariables false
set_option linter.unusedSimpArgs false
/-- A change. -/
structure Cg where
  i : Nat
  f : Int
  t : Int
  v : Int
def Cg.cs (c : Cg) : List Value := [.int .i64 ((c.i : Nat) : Int), .int .u8 c.f, .int .u8 c.t, .int .i32 c.v]
def cgl (l : List Cg) : List Value := l.flatMap Cg.cs
theorem cgl_snoc (l : List Cg) (c : Cg) : cgl (l ++ [c]) = cgl l ++ c.cs := by simp [cgl]
/-- The parameters. -/
def pcs (ps : Nat → Int) : Array Value := Array.ofFn (n := 16) fun k => .int .i32 (ps k)
theorem pcs_at (ps : Nat → Int) {k : Nat} (h : k < 16) : (pcs ps)[k]? = some (.int .i32 (ps k)) := by simp [pcs, Array.getElem?_ofFn, h]
theorem pcs_size (ps : Nat → Int) : (pcs ps).size = 16 := by simp [pcs]
attribute [irreducible] pcs
structure Mn.ok (p : Mn) : Prop where
  n : p.n ≤ 16
  x : ∀ i, i < p.n → (p.x i).ok
def Mn.arg (p : Mn) (ps : Nat → Int) (i : Nat) : Int := ps (p.x i).r.d.p.toNat
def Mn.nx (p : Mn) (ps : Nat → Int) (i : Nat) : Wt := if (p.x i).r.en = true then (p.x i).step (p.arg ps i) else p.x i
def Mn.stepTo (p : Mn) (ps : Nat → Int) (k : Nat) : Mn := ⟨fun i => if i < k then p.nx ps i else p.x i, p.n⟩
/-- Does it change? -/
def Mn.ch (p : Mn) (ps : Nat → Int) (i : Nat) : Bool := (p.x i).r.en && decide ((p.nx ps i).st ≠ (p.x i).st)
def Mn.chgs (p : Mn) (ps : Nat → Int) : Nat → List Cg
  | 0 => []
  | k + 1 => p.chgs ps k ++ (if p.ch ps k = true then [⟨k, (p.x k).st, (p.nx ps k).st, p.arg ps k⟩] else [])
theorem Mn.chgs_le (p : Mn) (ps : Nat → Int) : ∀ k, (p.chgs ps k).length ≤ k
  | 0 => Nat.le_refl _
  | k + 1 => by
    have := p.chgs_le ps k
    rw [Mn.chgs, List.length_append]
    split <;> simp <;> omega
theorem Mn.stepTo0 (p : Mn) (ps : Nat → Int) : p.cs = (p.stepTo ps 0).cs := Mn.ext_cs (fun i _ => (show p.x i = if i < 0 then p.nx ps i else p.x i from (if_neg (Nat.not_lt_zero i)).symm)) rfl
theorem Mn.stepTo_next (p : Mn) (ps : Nat → Int) (k : Nat) : ((p.stepTo ps k).set k (p.nx ps k)).cs = (p.stepTo ps (k + 1)).cs := by
  refine Mn.ext_cs (fun i _ => ?_) rfl
  show (if i = k then p.nx ps k else if i < k then p.nx ps i else p.x i) = if i < k + 1 then p.nx ps i else p.x i
  by_cases e : i = k
  · subst e; rw [if_pos rfl, if_pos (by omega)]
  · rw [if_neg e]
    by_cases e2 : i < k
    · rw [if_pos e2, if_pos (by omega)]
    · rw [if_neg e2, if_neg (by omega)]
theorem Mn.stepTo_same (p : Mn) (ps : Nat → Int) {k : Nat} (h : (p.x k).r.en = false) : (p.stepTo ps k).cs = (p.stepTo ps (k + 1)).cs := by
  refine Mn.ext_cs (fun i _ => ?_) rfl
  show (if i < k then p.nx ps i else p.x i) = if i < k + 1 then p.nx ps i else p.x i
  by_cases e : i = k
  · subst e
    rw [if_neg (by omega), if_pos (by omega), Mn.nx, if_neg (by rw [h]; decide)]
  · by_cases e2 : i < k
    · rw [if_pos e2, if_pos (by omega)]
    · rw [if_neg e2, if_neg (by omega)]
theorem info_chg : (Try.prog.info? 133).map (fun i => (i.zero, i.size, i.bytes)) = some (some (.agg #[.int .i64 0, .int .u8 0, .int .u8 0, .int .i32 0]), 4, 16) := by kernel_rfl
theorem own_keepC {w w' : World} {base : Nat} {e : TypeId} {size : Nat} {v : Value} {n : Nat} {xs : List Value} (h : w.ownsRow base e size v n xs) (hb : Below w.heap.size w w') : w'.ownsRow base e size v n xs := by
  obtain ⟨h1, h2 | ⟨g, cap, cur, hv, hbb, hr, ho⟩⟩ := h
  · exact ⟨h1, .inl h2⟩
  · exact ⟨h1, .inr ⟨g, cap, cur, hv, hbb, (hb.block g (Array.getElem?_eq_some_iff.1 hr).1).trans hr, ho⟩⟩
theorem heap3m (w : World) (A B C : Obj) : (((w.alloc A).alloc B).alloc C).heap[w.heap.size]? = some A ∧ (((w.alloc A).alloc B).alloc C).heap[w.heap.size + 1]? = some B ∧ (((w.alloc A).alloc B).alloc C).heap[w.heap.size + 2]? = some C :=
  ⟨(Below.heap_alloc _ C _ (by simp; omega)).trans ((Below.heap_alloc _ B _ (by simp)).trans (heap_alloc_new w A)), (Below.heap_alloc _ C _ (by simp)).trans (heap_alloc2_new w A B), by
    have := heap_alloc2_new (w.alloc A) B C
    rw [World.size_alloc] at this
    exact this⟩
theorem chg_cells (w : World) (t : TypeId) (a b c d : Value) : ∀ (j : Nat) (u : Value), [a, b, c, d][j]? = some u → (w.alloc (.cells #[a, b, c, d] t)).cell? ((⟨w.heap.size, 0, none⟩ : Addr).add j) = some u := fun j u h => by
  have hj : j < 4 := (List.getElem?_eq_some_iff.1 h).1
  rw [Addr.add_mid, Nat.zero_add]
  exact (cell_of_row _ _ j _ _ _ (heap_alloc_new w _)).trans (by rw [← h, ← Array.getElem?_toList])
/-- Where the loop stands. -/
structure MSt (w wr : World) (g2 g3 g4 : Nat) (q : Mn) (ps : Nat → Int) : Prop where
  be : Below w.heap.size w wr
  bp : MnB wr g2 q
  ba : wr.heap[g3]? = some (.cells (pcs ps) 128 (0, 0))
  bz : MnB wr g4 (Mn.empty 0)
  h2 : g2 = w.heap.size
  h3 : g3 = w.heap.size + 1
  h4 : g4 = w.heap.size + 2
theorem MSt.step {w wr w' : World} {g2 g3 g4 : Nat} {q : Mn} {ps : Nat → Int} (h : MSt w wr g2 g3 g4 q ps) (hb : Below wr.heap.size wr w') : MSt w w' g2 g3 g4 q ps :=
  ⟨h.be.trans (hb.mono h.be.size), h.bp.below hb (Nat.le_refl _), box_below h.ba hb (box_lt h.ba), h.bz.below hb (Nat.le_refl _), h.h2, h.h3, h.h4⟩
theorem MSt.same {w wr : World} {g2 g3 g4 : Nat} {q q' : Mn} {ps : Nat → Int} (h : MSt w wr g2 g3 g4 q ps) (e : q.cs = q'.cs) : MSt w wr g2 g3 g4 q' ps :=
  ⟨h.be, by have := h.bp; unfold MnB at this ⊢; rw [← e]; exact this, h.ba, h.bz, h.h2, h.h3, h.h4⟩
theorem MSt.set {w wr : World} {g2 g3 g4 i : Nat} {q : Mn} {ps : Nat → Int} (h : MSt w wr g2 g3 g4 q ps) (hi : i < 16) (x : Wt) : MSt w (wr.setCells g2 (i * 16) x.cs.toList) g2 g3 g4 (q.set i x) ps :=
  ⟨below_setCells _ _ _ _ (by rw [h.h2]; exact Nat.le_refl _) h.be, h.bp.set hi x, (heap_setCells_other _ _ _ _ _ (by rw [h.h2, h.h3]; omega)).trans h.ba, (heap_setCells_other _ _ _ _ _ (by rw [h.h2, h.h4]; omega)).trans h.bz, h.h2, h.h3, h.h4⟩
/-- An own row of changes that the loop has lives in none of the boxes. -/
def ChO (w wr : World) (v : Value) (l : List Cg) : Prop := wr.ownsRow (w.heap.size + 3) 133 4 v l.length (cgl l)
theorem ChO.sets {w wr : World} {v : Value} {l : List Cg} (h : ChO w wr v l) (o : Nat) (vs : List Value) : ChO w (wr.setCells w.heap.size o vs) v l := by
  obtain ⟨h1, h2 | ⟨g, cap, cur, hv, hb, hr, ho⟩⟩ := h
  · exact ⟨h1, .inl h2⟩
  · exact ⟨h1, .inr ⟨g, cap, cur, hv, hb, (heap_setCells_other _ _ _ _ _ (by omega)).trans hr, ho⟩⟩
theorem ChO.step {w wr w' : World} {v : Value} {l : List Cg} (h : ChO w wr v l) (hb : Below wr.heap.size wr w') : ChO w w' v l := own_keepC h hb
theorem ChO.row {w wr : World} {v : Value} {l : List Cg} (h : ChO w wr v l) {f : Nat} (hf : f < w.heap.size + 3) (cs : Array Value) : ChO w (wr.setRow f cs) v l := by
  obtain ⟨h1, h2 | ⟨g, cap, cur, hv, hb, hr, ho⟩⟩ := h
  · exact ⟨h1, .inl h2⟩
  · exact ⟨h1, .inr ⟨g, cap, cur, hv, hb, (setRow_other _ _ _ _ (by omega)).trans hr, ho⟩⟩
theorem MSt.step3 {w wr w' : World} {g2 g3 g4 : Nat} {q : Mn} {ps : Nat → Int} (h : MSt w wr g2 g3 g4 q ps) (hb : Below (w.heap.size + 3) wr w') : MSt w w' g2 g3 g4 q ps :=
  ⟨h.be.trans (hb.mono (by omega)), box_below h.bp hb (by have := h.h2; omega), box_below h.ba hb (by have := h.h3; omega), box_below h.bz hb (by have := h.h4; omega), h.h2, h.h3, h.h4⟩
set_option maxRecDepth 100000 in
set_option maxHeartbeats 8000000 in
theorem mStep (p : Mn) (ps : Nat → Int) (w : World) (hok : p.ok) (hps : ∀ i, i < 16 → -2147483648 ≤ ps i ∧ ps i ≤ 2147483647) :
    Calls Try.prog 55 #[.agg p.cs, .agg (pcs ps)] w fun e w' => ∃ v, e = .returned (.tuple #[.agg (p.stepTo ps p.n).cs, v]) ∧ ChO w w' v (p.chgs ps p.n) ∧ Below w.heap.size w w' := by
  obtain ⟨i0, hi, hz0, hz1, hz2⟩ := info_parts info_chg
  have hS0 : MSt w (((w.alloc (.cells p.cs 124)).alloc (.cells (pcs ps) 128)).alloc (.cells (Mn.empty 0).cs 124)) w.heap.size (w.heap.size + 1) (w.heap.size + 2) (p.stepTo ps 0) ps := by
    have h3 := heap3m w (.cells p.cs 124) (.cells (pcs ps) 128) (.cells (Mn.empty 0).cs 124)
    exact MSt.same ⟨by repeat' (first | (with_reducible exact Below.refl _ _) | (with_reducible assumption) | (with_reducible refine Below.setCell ?_ ?_ _) | (with_reducible refine Below.alloc ?_ ?_ _) | (with_reducible refine Below.drew ?_) | (with_reducible refine Below.drawsN ?_ _) | go_size), h3.1, h3.2.1, h3.2.2, rfl, rfl, rfl⟩ (p.stepTo0 ps)
  have c0 : _ = some (Value.int .i64 ((p.n : Nat) : Int)) := hS0.bp.cellC
  have HOK := Lib.hid hok
  have HPS := Lib.hid hps
  have hn16 := hok.n
  have HS := Lib.hid hS0
  clear hS0 hok hps
  go_enter Try.func55, Try.ntmps55
  go_wp2_with fail
  obtain ⟨g4, e4⟩ : ∃ g, g = w.heap.size + 1 + 1 := ⟨_, rfl⟩
  obtain ⟨g3, e3⟩ : ∃ g, g = w.heap.size + 1 := ⟨_, rfl⟩
  obtain ⟨g2, e2⟩ : ∃ g, g = w.heap.size := ⟨_, rfl⟩
  obtain ⟨ws, hws⟩ : ∃ ws, ws = (((w.alloc (.cells p.cs 124)).alloc (.cells (pcs ps) 128)).alloc (.cells (Mn.empty 0).cs 124)) := ⟨_, rfl⟩
  have hS1 : MSt w ws g2 g3 g4 (p.stepTo ps 0) ps := by rw [hws, e4, e3, e2]; exact HS.out
  rw [← hws, ← e4, ← e3, ← e2]
  clear HS c0 hws e4 e3 e2
  have HS := Lib.hid hS1
  clear hS1
  go_loopw [6, 13] (fun v i wr => ∃ k : Nat, k ≤ p.n ∧ i = .int .i64 (k : Nat) ∧ MSt w wr g2 g3 g4 (p.stepTo ps k) ps ∧ ChO w wr v (p.chgs ps k)) (fun _ i _ => p.n - (intOf i).toNat)
  case atStart => exact ⟨0, Nat.zero_le _, rfl, HS.out, ⟨rfl, .inl ⟨rfl, rfl⟩⟩⟩
  case round =>
    obtain ⟨k, hk, rfl, hS, hO⟩ := hrel
    clear HS
    by_cases hlt : k < p.n
    · have hk16 : k < 16 := by omega
      have hqx : (p.stepTo ps k).x k = p.x k := if_neg (Nat.lt_irrefl k)
      have hxok := HOK.out.x k hlt
      obtain ⟨x, hx⟩ : ∃ x, x = p.x k := ⟨_, rfl⟩
      rw [← hx] at hqx hxok
      have c10 : wr.cell? ⟨g2, k * 16 + 10, none⟩ = some (.bool x.r.en) := hS.bp.cell (j := 10) hk16 (by rw [hqx]; rfl)
      have HS := Lib.hid hS
      have HO := Lib.hid hO
      have HX := Lib.hid hx
      clear hS hO hx
      cases hen : x.r.en
      · have HN := Lib.hid (p.stepTo_same ps (k := k) (by rw [← HX.out]; exact hen))
        have HC := Lib.hid (show p.chgs ps (k + 1) = p.chgs ps k by rw [Mn.chgs, if_neg (by rw [Mn.ch, ← HX.out, hen]; simp), List.append_nil])
        rw [hen] at c10
        clear hen
        go_wp2_with fail
        go_roundw
        case rel => exact ⟨k + 1, by omega, by go_num, HS.out.same HN.out, by rw [HC.out]; exact HO.out⟩
        case measure => simp [intOf]; omega
      · obtain ⟨pn, hpn, hpn16⟩ : ∃ pn : Nat, x.r.d.p = pn ∧ pn < 16 := by
          have h1 := (Rl.right_rep hxok.rt).2
          simp only [Df.right, Bool.and_eq_true, decide_eq_true_eq] at h1
          exact ⟨x.r.d.p.toNat, by omega, by omega⟩
        have hv := HPS.out pn hpn16
        obtain ⟨v, hvv⟩ : ∃ v, v = ps pn := ⟨_, rfl⟩
        rw [← hvv] at hv
        obtain ⟨x2, hx2⟩ : ∃ x2, x.step v = x2 := ⟨_, rfl⟩
        have hnx : p.nx ps k = x2 := by rw [Mn.nx, ← HX.out, if_pos hen, Mn.arg, ← HX.out, hpn, Int.toNat_natCast, ← hvv, hx2]
        have hN := p.stepTo_next ps k
        rw [hnx] at hN
        have HN := Lib.hid hN
        have HC := Lib.hid (show p.chgs ps (k + 1) = p.chgs ps k ++ (if x2.st ≠ x.st then [⟨k, x.st, x2.st, v⟩] else []) by
          rw [Mn.chgs, Mn.ch, hnx, ← HX.out, hen, Mn.arg, ← HX.out, hpn, Int.toNat_natCast, ← hvv]; simp)
        have c1 : wr.cell? ⟨g2, k * 16 + 1, none⟩ = some (.int .i64 (pn : Int)) := HS.out.bp.cell (j := 1) hk16 (by rw [hqx, ← hpn]; rfl)
        have c15 : wr.cell? ⟨g2, k * 16 + 15, none⟩ = some (.int .u8 x.st) := HS.out.bp.cell (j := 15) hk16 (by rw [hqx]; rfl)
        have d0 : wr.cell? ⟨g3, pn, none⟩ = some (.int .i32 v) := by rw [hvv]; exact (cell_of_row _ _ pn _ _ _ HS.out.ba).trans (pcs_at ps hpn16)
        rw [hen] at c10
        have HH := Lib.hid (And.intro hqx (And.intro hxok hx2))
        have hxok2 := Lib.hid (Wt.step_ok hxok hv.1 hv.2)
        have HNX := Lib.hid hnx
        clear hqx hxok hx2 hnx hN hvv hpn hen
        go_wp2_with fail
        go_quiet (fail)
        all_goals
          obtain ⟨w5, hw5⟩ : ∃ w5, w5 = wr.drewN nq := ⟨_, rfl⟩
          have hdr : Below wr.heap.size wr w5 := by rw [hw5]; exact ⟨rfl, rfl, rfl, Nat.le_refl _, fun _ _ => rfl⟩
          rw [← hw5]
          have HS5 := Lib.hid (HS.out.step hdr)
          have HO5 := Lib.hid (HO.out.step hdr)
          clear hw5 hdr HS HO c1 c10 c15 d0
          have hrg := HS5.out.bp.range hk16
          rw [HH.out.1] at hrg
          go_wp2_with (refine wpList_load_mid rfl 121 _ rfl g2 (k * 16) rfl x.cs.toList _ hrg Try.underlying121 rfl (size_wt x) ?_; rw [Array.toArray_toList]; go_simp)
          go_at_call 108
          refine (wStep x v x2 _ HH.out.2.1 hv.1 hv.2 HH.out.2.2).mono ?_
          rintro e w6 ⟨rfl, hb⟩
          have HS6 := Lib.hid (HS5.out.step hb)
          have HO6 := Lib.hid (HO5.out.step hb)
          have hth := HS6.out.bp.there hk16
          clear HS5 HO5 hb hrg
          go_upto_region 9 with (refine wpList_store_mid rfl 121 _ _ rfl g2 (k * 16) x2.cs rfl rfl hth (size_wt x2) (Wt.one _) ?_; go_simp)
          have HS7 := Lib.hid ((HS6.out.set hk16 x2).same HN.out)
          have HO7 := Lib.hid (show ChO w (w6.setCells g2 (k * 16) x2.cs.toList) _ _ from by rw [HS6.out.h2]; exact HO6.out.sets _ _)
          obtain ⟨w7, hw7⟩ : ∃ w7, w7 = w6.setCells g2 (k * 16) x2.cs.toList := ⟨_, rfl⟩
          rw [← hw7] at HS7 HO7 ⊢
          have c15 : w7.cell? ⟨g2, k * 16 + 15, none⟩ = some (.int .u8 x2.st) := HS7.out.bp.cell (j := 15) hk16 (by
            rw [show (p.stepTo ps (k + 1)).x k = x2 from (if_pos (Nat.lt_succ_self k)).trans HNX.out]; rfl)
          clear hw7 hth HS6 HO6
          by_cases hst : x2.st = x.st
          · have hne : (x2.st != x.st) = false := by simp [hst]
            have HC2 := HC.out
            rw [if_neg (by simp [hst]), List.append_nil] at HC2
            have HC3 := Lib.hid HC2
            clear hst HC2
            go_wp2_with fail
            go_roundw
            case rel => exact ⟨k + 1, by omega, by go_num, HS7.out, by rw [HC3.out]; exact HO7.out⟩
            case measure => simp [intOf]; omega
          · have hne : (x2.st != x.st) = true := by simp [hst]
            have HC2 := HC.out
            rw [if_pos hst] at HC2
            have HC3 := Lib.hid HC2
            have HLE := Lib.hid (p.chgs_le ps k)
            clear hst HC2
            go_wp2_with (at_builtin; refine wpList_append_own _ rfl _ _ 129 rfl (w.heap.size + 3) 133 i0 (.agg #[.int .i64 0, .int .u8 0, .int .u8 0, .int .i32 0]) 4 16 Try.underlying129 hi hz0 hz1 hz2 rfl (by decide) _ _ _ rfl (World.ownsRow.alloc (show w7.ownsRow (w.heap.size + 3) 133 4 _ (p.chgs ps k).length (cgl (p.chgs ps k)) from HO7.out) _) ⟨w7.heap.size, 0, none⟩ 1 1 [.int .i64 (k : Int), .int .u8 x.st, .int .u8 x2.st, .int .i32 v] rfl rfl (chg_cells _ _ _ _ _ _) (by simp [Value.oneCell']) (by unfold maxLen; have := HLE.out; omega) (by have := HLE.out; omega) (by have := HS7.out.bz; have := box_lt this; have := HS7.out.h4; simp; omega) ?_)
            intro v' w8 hown8 hgrow8 _
            have hsz7 : w.heap.size + 3 ≤ w7.heap.size := by have := box_lt HS7.out.bz; have := HS7.out.h4; omega
            have hbb : Below (w.heap.size + 3) w7 w8 := ((Below.refl (w.heap.size + 3) w7).alloc hsz7 _).grown hgrow8 (by simp; omega) (fun j hj => (World.ownsRow.lt (show w7.ownsRow (w.heap.size + 3) 133 4 _ (p.chgs ps k).length (cgl (p.chgs ps k)) from HO7.out) j hj).1)
            have HS8 := Lib.hid (HS7.out.step3 hbb)
            have HO8 := Lib.hid (show ChO w w8 v' (p.chgs ps (k + 1)) by rw [HC3.out]; unfold ChO; rw [cgl_snoc, List.length_append]; exact hown8)
            clear hown8 hgrow8 hbb hsz7 HS7 HO7 c15
            go_wp2_with fail
            go_roundw
            case rel => exact ⟨k + 1, by omega, by go_num, HS8.out, HO8.out⟩
            case measure => simp [intOf]; omega
    · obtain rfl : k = p.n := by omega
      have hbp := hS.bp
      have hbz := hS.bz
      have HS1 := Lib.hid hS
      have HO1 := Lib.hid hO
      clear hS hO
      go_wp2_with (first | (refine wpList_load_row rfl 124 _ rfl _ rfl _ _ _ _ hbp Try.underlying124 rfl (by exact size_mn _) ?_; (try go_simp)) | (refine wpList_store_row rfl 124 _ _ rfl _ (Mn.cs _) rfl rfl 124 _ hbz (size_mn _) (by simp only [Mn.size]) (Mn.one _) ?_; (try go_simp)))
      refine bodyPost_ret (res_ct rfl _ _ _ _ (p.stepTo ps p.n).cs _ rfl (setRow_heap _ _ _ _ _ _ hbz) Try.underlying124 rfl (size_mn _)) rfl ?_
      exact ⟨_, rfl, HO1.out.row (by have := HS1.out.h4; omega) _, bel_row HS1.out.be (by have := HS1.out.h4; omega) _⟩
end Go.Proofs.Ytkgeeohgfbacaaa
