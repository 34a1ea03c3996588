/- Layer 17: the journal holds just the last entries: what is noted. -/
import Derived.Test.YtkgeeohgfbacaaaLaw17
import Derived.Test.YtkgeeohgfbacaaaEqU
import Derived.Test.YtkgeeohgfbacaaaFlat
import Derived.Test.YtkgeeohgfbacaaaFrame
namespace Go.Proofs.Ytkgeeohgfbacaaa.Je
open Go.RowKit Go.Own Go.Shelf
set_option linter.unusedVariables false
set_option linter.unusedSimpArgs false
/-- The notes that came in. -/
structure NoS (w : World) (a : Option Addr) (len cap : Nat) (N : Nat → En) : Prop where
  le : len ≤ cap
  top : cap ≤ maxLen
  at' : 0 < len → ∃ b off, a = some ⟨b, off, none⟩ ∧ b < w.heap.size ∧ ∀ i, i < len → w.rangeAt b (off + i * 5) (N i).cs
theorem NoS.below {w w' : World} {a : Option Addr} {len cap : Nat} {N : Nat → En} (h : NoS w a len cap N) (hb : Below w.heap.size w w') : NoS w' a len cap N :=
  ⟨h.le, h.top, fun hi => by obtain ⟨b, o, e, h1, h2⟩ := h.at' hi; exact ⟨b, o, e, Nat.lt_of_lt_of_le h1 hb.size, fun i hi => range_block (h2 i hi) (hb.block b h1)⟩⟩
theorem nos_flat {w : World} {a : Option Addr} {len cap : Nat} (h : IsFlat [.int .u32, .int .u32, .int .u8, .int .u8, .int .u32] w a len cap) : ∃ N, NoS w a len cap N := by
  obtain ⟨h1, h2, _, h4⟩ := h
  by_cases h0 : 0 < len
  · obtain ⟨b, off, e, hb, hx⟩ := h4 h0
    have each : ∀ i, i < len → ∃ x : En, w.rangeAt b (off + i * 5) x.cs := by
      intro i hi
      obtain ⟨cs, hf, hc⟩ := hx i hi
      match cs, hf with
      | [v0, v1, v2, v3, v4], ⟨⟨z0, e0, k0⟩, ⟨z1, e1, k1⟩, ⟨z2, e2, k2⟩, ⟨z3, e3, k3⟩, ⟨z4, e4, k4⟩, _⟩ =>
        subst e0 e1 e2 e3 e4
        have b0 := bounds_u32 k0
        have b1 := bounds_u32 k1
        have b2 := bounds_u8 k2
        have b3 := bounds_u8 k3
        have b4 := bounds_u32 k4
        refine ⟨⟨z0.toNat, z1.toNat, z2.toNat, z3.toNat, z4.toNat⟩, fun j v hv => hc j v ?_⟩
        rw [← hv]
        have t0 : ((z0.toNat : Nat) : Int) = z0 := by omega
        have t1 : ((z1.toNat : Nat) : Int) = z1 := by omega
        have t2 : ((z2.toNat : Nat) : Int) = z2 := by omega
        have t3 : ((z3.toNat : Nat) : Int) = z3 := by omega
        have t4 : ((z4.toNat : Nat) : Int) = z4 := by omega
        show _ = [Value.int .u32 ((z0.toNat : Nat) : Int), .int .u32 ((z1.toNat : Nat) : Int), .int .u8 ((z2.toNat : Nat) : Int), .int .u8 ((z3.toNat : Nat) : Int), .int .u32 ((z4.toNat : Nat) : Int)][j]?
        rw [t0, t1, t2, t3, t4]
    classical
    exact ⟨fun i => if hi : i < len then Classical.choose (each i hi) else en0, h1, h2, fun _ => ⟨b, off, e, hb, fun i hi => by
      simp only [hi, dif_pos]
      exact Classical.choose_spec (each i hi)⟩⟩
  · exact ⟨fun _ => en0, h1, h2, fun h => absurd h h0⟩
/-- The entries noted. -/
def noted (N : Nat → En) (n : Nat) : List En := (List.range n).map fun i => ⟨i + 1, (N i).t, (N i).e, min (N i).g 3, (N i).d⟩
theorem noted_len (N : Nat → En) (n : Nat) : (noted N n).length = n := by simp [noted]
theorem noted_succ (N : Nat → En) (n : Nat) : noted N (n + 1) = noted N n ++ [⟨n + 1, (N n).t, (N n).e, min (N n).g 3, (N n).d⟩] := by simp [noted, List.range_succ]
theorem noted_getD (N : Nat → En) {n i : Nat} (h : i < n) : (noted N n).getD i en0 = ⟨i + 1, (N i).t, (N i).e, min (N i).g 3, (N i).d⟩ := by simp [noted, List.getD, h]
theorem last_noted (N : Nat → En) (k n : Nat) (hk : 1 ≤ k) : last (lastn k (noted N (n + 1))) = ⟨n + 1, (N n).t, (N n).e, min (N n).g 3, (N n).d⟩ := by
  have hl := lastn_len k (noted N (n + 1))
  rw [noted_len] at hl
  unfold last lastn at *
  simp only [List.getD, List.getElem?_drop]
  have := noted_getD N (show n < n + 1 by omega)
  simp only [List.getD] at this
  rw [hl, noted_len, show n + 1 - k + (min k (n + 1) - 1) = n by omega]
  exact this
theorem next_noted (N : Nat → En) (k n : Nat) (hk : 1 ≤ k) (hn : n < 1000) : nextE (lastn k (noted N n)) (N n).t (N n).e (N n).g (N n).d = ⟨n + 1, (N n).t, (N n).e, min (N n).g 3, (N n).d⟩ := by
  have hq : (last (lastn k (noted N n))).q = n := by
    cases n with
    | zero =>
      have : lastn k (noted N 0) = [] := by simp [lastn, noted]
      rw [this]
      rfl
    | succ m => rw [last_noted N k m hk]
  unfold nextE
  rw [hq, Nat.mod_eq_of_lt (by omega)]
theorem own_kepE {w w' : World} {g b base n size : Nat} {e : TypeId} {v : Value} {xs : List Value} (h : w.ownsRow base e size v n xs) (hk : Kept g b w w') (hg : g < base) (hb : b < base) : w'.ownsRow base e size v n xs := by
  obtain ⟨h1, h2 | ⟨g', cap, cur, hv, hb', hr, ho⟩⟩ := h
  · exact ⟨h1, .inl h2⟩
  · exact ⟨h1, .inr ⟨g', cap, cur, hv, hb', (hk.block g' (Array.getElem?_eq_some_iff.1 hr).1 (by omega) (by omega)).trans hr, ho⟩⟩
theorem own_ltE {w : World} {base e s n : Nat} {v : Value} {xs : List Value} (h : w.ownsRow base e s v n xs) {k : Nat} (hv : v.ownBlock = some k) : k < w.heap.size := by
  obtain ⟨cur, hc⟩ := own_heapE h hv
  exact box_lt hc
theorem Kept.setNew {g b : Nat} {w w' : World} (h : Kept g b w w') {f : Nat} (hf : w.heap.size ≤ f) (i : Nat) (x : Value) : Kept g b w (w'.setCell ⟨f, i, none⟩ x) :=
  ⟨h.os, h.tape, h.output, by have := h.size; simpa using this, fun k hk h1 h2 => (heap_setCell_other w' ⟨f, i, none⟩ k x (by show k ≠ f; omega)).trans (h.block k hk h1 h2)⟩
theorem JS.low {w w' : World} {gj g b n lo B : Nat} {L : List En} (h : JS w gj g b n L lo) (hb : Below B w w') (h1 : gj < B) (h2 : g < B) (h3 : b < B) : JS w' gj g b n L lo :=
  ⟨(hb.block gj h1).trans h.box, h.ring.same (hb.block g h2) (hb.block b h3), h.ng, h.nb⟩
theorem JS.setOther {w : World} {gj g b n lo : Nat} {L : List En} (h : JS w gj g b n L lo) {f : Nat} (h1 : f ≠ gj) (h2 : f ≠ g) (h3 : f ≠ b) (i : Nat) (x : Value) : JS (w.setCell ⟨f, i, none⟩ x) gj g b n L lo :=
  ⟨(heap_setCell_other w ⟨f, i, none⟩ gj x (Ne.symm h1)).trans h.box, h.ring.same (heap_setCell_other w ⟨f, i, none⟩ g x (Ne.symm h2)) (heap_setCell_other w ⟨f, i, none⟩ b x (Ne.symm h3)), h.ng, h.nb⟩
theorem info_re : (Try.prog.info? 142).map (fun i => (i.zero, i.size, i.bytes)) = some (some (.agg #[.int .u32 (en0.q : Nat), .int .u32 (en0.t : Nat), .int .u8 (en0.e : Nat), .int .u8 (en0.g : Nat), .int .u32 (en0.d : Nat)]), 5, 16) := by kernel_rfl
theorem re_new (w : World) (x : En) : ∀ (i : Nat) (u : Value), x.cs[i]? = some u → (w.alloc (.cells #[.int .u32 (x.q : Nat), .int .u32 (x.t : Nat), .int .u8 (x.e : Nat), .int .u8 (x.g : Nat), .int .u32 (x.d : Nat)] 142)).cell? ((⟨w.heap.size, 0, none⟩ : Addr).add i) = some u := by
  intro i u hu
  rw [Addr.add_mid]
  have := cell_of_row _ _ (0 + i) _ _ _ (heap_alloc_new w (.cells #[.int .u32 (x.q : Nat), .int .u32 (x.t : Nat), .int .u8 (x.e : Nat), .int .u8 (x.g : Nat), .int .u32 (x.d : Nat)] 142))
  rw [this, Nat.zero_add]
  exact (List.getElem?_toArray (xs := x.cs)).trans hu
/-- What the append leaves. -/
theorem after_append {w7 w8 : World} {B k gx ge : Nat} {v : Value} {xs : List Value} {cx ce : Array Value} {tx te : TypeId} {tmp : Obj} (ho : w7.ownsRow B 142 5 v k xs) (hB : B ≤ w7.heap.size) (hg : (w7.alloc tmp).grownBy w8 v.ownBlock)
    (hx : w7.heap[gx]? = some (.cells cx tx (0, 0))) (he : w7.heap[ge]? = some (.cells ce te (0, 0))) (hvx : ∀ j, v.ownBlock = some j → j < gx) (hxe : gx < ge) :
    w8.heap[gx]? = some (.cells cx tx (0, 0)) ∧ w8.heap[ge]? = some (.cells ce te (0, 0)) ∧ Below B w7 w8 :=
  ⟨box_kept (box_kept hx (World.grownBy_alloc _ tmp none) (by simp)) hg (fun e => by have := hvx gx e.symm; omega),
   box_kept (box_kept he (World.grownBy_alloc _ tmp none) (by simp)) hg (fun e => by have := hvx ge e.symm; omega),
   ((Below.refl B w7).alloc hB tmp).grown hg (by simp; omega) (fun j hj => (ho.lt j hj).1)⟩
theorem take_filter (p : En → Bool) (L : List En) {j : Nat} (h : j < L.length) : (L.take (j + 1)).filter p = (L.take j).filter p ++ (if p (L.getD j en0) = true then [L.getD j en0] else []) := by
  have e : L[j] = L.getD j en0 := by simp [List.getD, h]
  rw [List.take_succ_eq_append_getElem h, List.filter_append, e]
  by_cases hp : p (L.getD j en0) = true <;> simp [List.filter_cons, hp]
set_option maxRecDepth 100000 in
set_option maxHeartbeats 8000000 in
theorem walkK (rm ev sq : Nat) (a1' : Option Addr) (len1 cap1 : Nat) (N : Nat → En) (w : World) (hrm : rm < 256) (hev : ev < 256) (hsq : sq < 4294967296) (hN : NoS w a1' len1 cap1 N) :
    Calls Try.prog 9 #[.int .u8 (rm : Nat), .slice a1' len1 cap1, .int .u8 (ev : Nat), .int .u32 (sq : Nat)] w fun z w' => z = .returned (.bool true) ∧ Below w.heap.size w w' := by
  obtain ⟨i0, hi, hz0, hz1, hz2⟩ := info_parts info_re
  have hc1 := hN.le
  have hc2 := hN.top
  unfold maxLen at hc2
  have HN := Lib.hid hN
  clear hN
  go_enter Try.func9, Try.ntmps9
  go_wp2_with fail
  go_at_call 58
  refine (awake17 _).mono ?_
  rintro z w2 ⟨rfl, hb2⟩
  have HB2 := Lib.hid hb2
  clear hb2
  go_wp2_with fail
  obtain ⟨n, hn⟩ : ∃ n : Nat, n = 1 + rm % 16 := ⟨_, rfl⟩
  rw [show (1 : Int) + (rm : Int) % 16 = ((n : Nat) : Int) from by omega]
  have hn1 : 1 ≤ n := by omega
  have hn2 : n ≤ 16 := by omega
  clear hn
  go_at_call 59
  refine (jNew_ok n w2 hn1 hn2).mono ?_
  rintro z w3 ⟨gj, g, b, rfl, h3, hj, hg, hb, hb3⟩
  have H3 := Lib.hid (show JS w3 gj g b n (lastn n (noted N 0)) (0 - n) by
    have : lastn n (noted N 0) = [] := by simp [lastn, noted]
    rw [this, Nat.zero_sub]
    exact h3)
  obtain ⟨B, hB⟩ : ∃ B, B = w3.heap.size := ⟨_, rfl⟩
  have hlt := H3.out.ring.le
  have hgB : gj < B ∧ g < B ∧ b < B := ⟨by rw [hB]; exact box_lt H3.out.box, by omega, by omega⟩
  have HG := Lib.hid (And.intro (Nat.le_trans HB2.out.size hg) (Nat.le_trans HB2.out.size hb))
  have HB3 := Lib.hid (HB2.out.trans (hb3.mono HB2.out.size))
  have hwB : w.heap.size ≤ B := by rw [hB]; exact HB3.out.size
  have HGB := Lib.hid hgB
  have hB3 : B ≤ w3.heap.size := by omega
  clear h3 hj hg hb hb3 HB2 hB hlt hgB
  go_wp2_with fail
  go_loopw [12, 42] (fun va i wr => ∃ k : Nat, k ≤ len1 ∧ k ≤ 60 ∧ i = .int .i64 (k : Nat) ∧ wr.ownsRow B 142 5 va k (ql (noted N k)) ∧ JS wr gj g b n (lastn n (noted N k)) (k - n) ∧ Below w.heap.size w wr ∧ B ≤ wr.heap.size) (fun _ i _ => len1 - (intOf i).toNat)
  case atStart => exact ⟨0, Nat.zero_le _, by omega, rfl, World.ownsRow_nil _ _ _ _, H3.out, HB3.out, hB3⟩
  case round =>
    clear H3 HB3 hB3
    obtain ⟨k, hk, hk60, rfl, hown, hS, hBe, hBw⟩ := hrel
    obtain ⟨aa, ac, rfl⟩ := own_form hown
    have HO := Lib.hid hown
    have HS := Lib.hid hS
    have HB := Lib.hid hBe
    clear hown hS hBe
    by_cases hlt : k < len1
    · obtain ⟨bb, off, rfl, hbb, hcx⟩ := HN.out.at' (by omega)
      have hx := range_block (hcx k hlt) (HB.out.block bb hbb)
      obtain ⟨x, hxe⟩ : ∃ x, x = N k := ⟨_, rfl⟩
      rw [← hxe] at hx
      have q0 := hx 0 _ rfl
      have q1 := hx 1 _ rfl
      have q2 := hx 2 _ rfl
      have q3 := hx 3 _ rfl
      have q4 := hx 4 _ rfl
      rw [Nat.add_zero] at q0
      have HXE := Lib.hid hxe
      clear hx hcx hxe
      go_upto_region 11 with fail
      have hal4 : Below wr.heap.size wr (wr.alloc (.cells #[.int .u32 (x.q : Nat), .int .u32 (x.t : Nat), .int .u8 (x.e : Nat), .int .u8 (x.g : Nat), .int .u32 (x.d : Nat)] 142)) := (Below.refl _ _).alloc (Nat.le_refl _) _
      have x4 := heap_alloc_new wr (.cells #[.int .u32 (x.q : Nat), .int .u32 (x.t : Nat), .int .u8 (x.e : Nat), .int .u8 (x.g : Nat), .int .u32 (x.d : Nat)] 142)
      have hSl := HS.out.ring.le
      have hSj := box_lt HS.out.box
      have HS4 := Lib.hid (HS.out.below hal4 (Nat.le_refl _))
      have K4 := Lib.hid (Kept.of_below (g := g) (b := b) hal4)
      have hxg : wr.heap.size ≠ gj ∧ wr.heap.size ≠ g ∧ wr.heap.size ≠ b := by omega
      obtain ⟨w4, hw4⟩ : ∃ w4, w4 = wr.alloc (.cells #[.int .u32 (x.q : Nat), .int .u32 (x.t : Nat), .int .u8 (x.e : Nat), .int .u8 (x.g : Nat), .int .u32 (x.d : Nat)] 142) := ⟨_, rfl⟩
      obtain ⟨gx, hgx⟩ : ∃ gx, gx = wr.heap.size := ⟨_, rfl⟩
      rw [← hw4] at x4 HS4 K4 ⊢
      rw [← hgx] at x4 hxg ⊢
      have hgxr : wr.heap.size ≤ gx := by omega
      clear hw4 hal4 q0 q1 q2 q3 q4 hSl hSj hgx
      by_cases h60 : 60 ≤ k
      · have HOZ := Lib.hid (own_kepE HO.out K4.out HGB.out.2.1 HGB.out.2.2)
        have HSZ := Lib.hid HS4.out
        have HBZ := Lib.hid (HB.out.trans (K4.out.below HG.out.1 HG.out.2 HB.out.size))
        obtain ⟨wz, hwz⟩ : ∃ wz, wz = w4 := ⟨_, rfl⟩
        rw [← hwz] at HOZ HSZ HBZ ⊢
        clear hwz HO HS HB HS4 K4 x4
        skip
        have hnl := noted_len N k
        obtain ⟨A, hA⟩ : ∃ A, A = noted N k := ⟨_, rfl⟩
        rw [← hA] at hnl
        have hoz := HOZ.out
        have hsz := HSZ.out
        rw [← hA] at hoz hsz
        have hkl := lastn_len n A
        obtain ⟨Kp, hKp⟩ : ∃ Kp, Kp = lastn n A := ⟨_, rfl⟩
        obtain ⟨m, hm⟩ : ∃ m, m = min n k := ⟨_, rfl⟩
        rw [← hKp] at hkl hsz
        rw [hnl, ← hm] at hkl
        have hm16 : m ≤ 16 := by omega
        have hlast := rLast aa k ac _ n A wz (rdf_of_own hoz hnl) hnl hn1 (by omega) (by omega)
        rw [← hKp, ← hm] at hlast
        have HLS := Lib.hid hlast
        have HS1 := Lib.hid hsz
        have HKL := Lib.hid hkl
        clear hA hoz hsz hkl hKp hm hlast hnl
        go_wp2_with fail
        go_at_call 64
        refine HLS.out.mono ?_
        rintro z w' ⟨⟨ka, kc, rfl, hkr⟩, rfl⟩
        have hkc1 := hkr.le
        have hkc2 := hkr.top
        unfold maxLen at hkc2
        have HKR := Lib.hid hkr
        clear hkr HLS
        go_wp2_with fail
        go_loopw [19, 20, 122] (fun cn vn i wr => ∃ j : Nat, j ≤ m ∧ i = .int .i64 (j : Nat) ∧ cn = .int .i64 ((((Kp.take j).filter (fun x => decide (x.e = ev))).length : Nat) : Int) ∧ wr.ownsRow wz.heap.size 142 5 vn ((Kp.take j).filter (fun x => decide (sq < x.q))).length (ql ((Kp.take j).filter (fun x => decide (sq < x.q)))) ∧ Below wz.heap.size wz wr) (fun _ _ i _ => m - (intOf i).toNat)
        case atStart => exact ⟨0, Nat.zero_le _, rfl, rfl, World.ownsRow_nil _ _ _ _, Below.refl _ _⟩
        case round =>
          obtain ⟨j, hj, rfl, rfl, hq, hbq⟩ := hrel
          obtain ⟨na, nc, rfl⟩ := own_form hq
          have hcb := List.length_filter_le (fun x : En => decide (x.e = ev)) (Kp.take j)
          have hnb := List.length_filter_le (fun x : En => decide (sq < x.q)) (Kp.take j)
          rw [List.length_take] at hcb hnb
          obtain ⟨cn, hcn⟩ : ∃ cn, cn = ((Kp.take j).filter (fun x => decide (x.e = ev))).length := ⟨_, rfl⟩
          obtain ⟨F, hF⟩ : ∃ F, F = (Kp.take j).filter (fun x => decide (sq < x.q)) := ⟨_, rfl⟩
          rw [← hcn] at hcb ⊢
          rw [← hF] at hnb hq ⊢
          obtain ⟨nf, hnf⟩ : ∃ nf, nf = F.length := ⟨_, rfl⟩
          rw [← hnf] at hnb hq ⊢
          have HCN := Lib.hid hcn
          have HFN := Lib.hid hF
          have HNF := Lib.hid hnf
          have HQ := Lib.hid hq
          have HBQ := Lib.hid hbq
          have hqz := hbq.size
          clear hcn hF hnf hq hbq
          by_cases hltj : j < m
          · obtain ⟨kb, ko, rfl, hkb, hkx⟩ := HKR.out.at' (by omega)
            have hx := range_block (hkx j hltj) (HBQ.out.block kb hkb)
            obtain ⟨x, hxe⟩ : ∃ x, x = Kp.getD j en0 := ⟨_, rfl⟩
            rw [← hxe] at hx
            have q0 := hx 0 _ rfl
            have q1 := hx 1 _ rfl
            have q2 := hx 2 _ rfl
            have q3 := hx 3 _ rfl
            have q4 := hx 4 _ rfl
            rw [Nat.add_zero] at q0
            have HX := Lib.hid hxe
            clear hx hkx hxe
            go_upto_region 26 with fail
            have hal5 : Below wr.heap.size wr (wr.alloc (.cells #[.int .u32 (x.q : Nat), .int .u32 (x.t : Nat), .int .u8 (x.e : Nat), .int .u8 (x.g : Nat), .int .u32 (x.d : Nat)] 142)) := (Below.refl _ _).alloc (Nat.le_refl _) _
            have x5 := heap_alloc_new wr (.cells #[.int .u32 (x.q : Nat), .int .u32 (x.t : Nat), .int .u8 (x.e : Nat), .int .u8 (x.g : Nat), .int .u32 (x.d : Nat)] 142)
            have HQ5 := Lib.hid (own_below HQ.out hal5 (Nat.le_refl _))
            have HB5 := Lib.hid (HBQ.out.trans (hal5.mono HBQ.out.size))
            have hw5z : wz.heap.size ≤ (wr.alloc (.cells #[.int .u32 (x.q : Nat), .int .u32 (x.t : Nat), .int .u8 (x.e : Nat), .int .u8 (x.g : Nat), .int .u32 (x.d : Nat)] 142)).heap.size := HB5.out.size
            obtain ⟨w5, hw5⟩ : ∃ w5, w5 = wr.alloc (.cells #[.int .u32 (x.q : Nat), .int .u32 (x.t : Nat), .int .u8 (x.e : Nat), .int .u8 (x.g : Nat), .int .u32 (x.d : Nat)] 142) := ⟨_, rfl⟩
            obtain ⟨gq, hgq⟩ : ∃ gq, gq = wr.heap.size := ⟨_, rfl⟩
            rw [← hw5] at x5 HQ5 HB5 hw5z ⊢
            rw [← hgq] at x5 ⊢
            clear hw5 hgq hal5 HQ HBQ q0 q1 q2 q3 q4 hqz
            have a0 := cell_of_row _ _ 0 _ _ _ x5
            have a1 := cell_of_row _ _ 1 _ _ _ x5
            have a2 := cell_of_row _ _ 2 _ _ _ x5
            have a3 := cell_of_row _ _ 3 _ _ _ x5
            have a4 := cell_of_row _ _ 4 _ _ _ x5
            clear x5
            have hkl := HKL.out
            by_cases he : x.e = ev
            · have hfc : ((Kp.take (j + 1)).filter (fun x => decide (x.e = ev))).length = cn + 1 := by rw [take_filter _ _ (by omega), ← HX.out, List.length_append]; simp [he, HCN.out]

              have hei : ((x.e : Int) == (ev : Int)) = true := by rw [he]; simp
              clear he
              by_cases hs : sq < x.q
              · have hfn : (Kp.take (j + 1)).filter (fun x => decide (sq < x.q)) = F ++ [x] := by rw [take_filter _ _ (by omega), ← HX.out]; simp [hs, HFN.out]

                go_wp2_with (at_builtin; refine wpList_append_own _ rfl _ _ 137 rfl wz.heap.size 142 i0 (.agg #[.int .u32 (en0.q : Nat), .int .u32 (en0.t : Nat), .int .u8 (en0.e : Nat), .int .u8 (en0.g : Nat), .int .u32 (en0.d : Nat)]) 5 16 Try.underlying137 hi hz0 hz1 hz2 rfl (by decide) _ _ _ rfl (HQ5.out.alloc _) ⟨w5.heap.size, 0, none⟩ 1 1 x.cs rfl rfl (re_new _ _) (by simp [En.cs, Value.oneCell']) (by unfold maxLen; omega) (by omega) (by simp; omega) ?_; intro v8 w8 hown8 hgrow8 _; have hb8 := ((Below.refl wz.heap.size w5).alloc hw5z (.cells #[.int .u32 (x.q : Nat), .int .u32 (x.t : Nat), .int .u8 (x.e : Nat), .int .u8 (x.g : Nat), .int .u32 (x.d : Nat)] 142)).grown hgrow8 (by simp; omega) (fun j hj => (HQ5.out.lt j hj).1); have HO8 := Lib.hid hown8; have HB8 := Lib.hid (HB5.out.trans hb8); clear hown8 hgrow8 hb8)
                go_roundw
                case rel => exact ⟨j + 1, by omega, by go_num, by rw [hfc]; go_num, by rw [hfn, List.length_append, ql_append, ql_one, ← HNF.out]; exact HO8.out, HB8.out⟩
                case measure => simp [intOf]; omega
              · have hfn : (Kp.take (j + 1)).filter (fun x => decide (sq < x.q)) = F := by rw [take_filter _ _ (by omega), ← HX.out]; simp [hs, HFN.out]

                go_wp2
                go_roundw
                case rel => exact ⟨j + 1, by omega, by go_num, by rw [hfc]; go_num, by rw [hfn, ← HNF.out]; exact HQ5.out, HB5.out⟩
                case measure => simp [intOf]; omega
            · have hei : ((x.e : Int) == (ev : Int)) = false := by rw [beq_eq_false_iff_ne]; omega
              have hfc : ((Kp.take (j + 1)).filter (fun x => decide (x.e = ev))).length = cn := by rw [take_filter _ _ (by omega), ← HX.out, List.length_append]; simp [he, HCN.out]

              by_cases hs : sq < x.q
              · have hfn : (Kp.take (j + 1)).filter (fun x => decide (sq < x.q)) = F ++ [x] := by rw [take_filter _ _ (by omega), ← HX.out]; simp [hs, HFN.out]

                go_wp2_with (at_builtin; refine wpList_append_own _ rfl _ _ 137 rfl wz.heap.size 142 i0 (.agg #[.int .u32 (en0.q : Nat), .int .u32 (en0.t : Nat), .int .u8 (en0.e : Nat), .int .u8 (en0.g : Nat), .int .u32 (en0.d : Nat)]) 5 16 Try.underlying137 hi hz0 hz1 hz2 rfl (by decide) _ _ _ rfl (HQ5.out.alloc _) ⟨w5.heap.size, 0, none⟩ 1 1 x.cs rfl rfl (re_new _ _) (by simp [En.cs, Value.oneCell']) (by unfold maxLen; omega) (by omega) (by simp; omega) ?_; intro v8 w8 hown8 hgrow8 _; have hb8 := ((Below.refl wz.heap.size w5).alloc hw5z (.cells #[.int .u32 (x.q : Nat), .int .u32 (x.t : Nat), .int .u8 (x.e : Nat), .int .u8 (x.g : Nat), .int .u32 (x.d : Nat)] 142)).grown hgrow8 (by simp; omega) (fun j hj => (HQ5.out.lt j hj).1); have HO8 := Lib.hid hown8; have HB8 := Lib.hid (HB5.out.trans hb8); clear hown8 hgrow8 hb8)
                go_roundw
                case rel => exact ⟨j + 1, by omega, by go_num, by rw [hfc], by rw [hfn, List.length_append, ql_append, ql_one, ← HNF.out]; exact HO8.out, HB8.out⟩
                case measure => simp [intOf]; omega
              · have hfn : (Kp.take (j + 1)).filter (fun x => decide (sq < x.q)) = F := by rw [take_filter _ _ (by omega), ← HX.out]; simp [hs, HFN.out]

                go_wp2
                go_roundw
                case rel => exact ⟨j + 1, by omega, by go_num, by rw [hfc], by rw [hfn, ← HNF.out]; exact HQ5.out, HB5.out⟩
                case measure => simp [intOf]; omega
          · obtain rfl : j = m := by omega
            have htk : Kp.take j = Kp := List.take_of_length_le (by rw [HKL.out]; exact Nat.le_refl _)
            have hcn := HCN.out
            have hfn := HFN.out
            rw [htk] at hcn hfn
            have hjc := jCount (HS1.out.below HBQ.out (Nat.le_refl _)).jr ev
            rw [← hcn] at hjc
            have HJC := Lib.hid hjc
            have HFF := Lib.hid hfn
            clear htk hcn hfn hjc
            go_wp2_with fail
            go_at_call 67
            refine HJC.out.mono ?_
            rintro z w5 ⟨rfl, hb5⟩
            have HS5 := Lib.hid ((HS1.out.below HBQ.out (Nat.le_refl _)).below hb5 (Nat.le_refl _))
            have HQ5 := Lib.hid (own_below HQ.out hb5 (Nat.le_refl _))
            have HB5 := Lib.hid ((HBZ.out.trans (HBQ.out.mono HBZ.out.size)).trans (hb5.mono (Nat.le_trans HBZ.out.size hqz)))
            clear hb5 HJC HQ
            go_wp2_with fail
            go_at_call 68
            refine (jSince HS5.out.jr sq).mono ?_
            rintro z w6 ⟨v6, rfl, ho6, hb6⟩
            rw [← HFF.out, ← HNF.out] at ho6
            obtain ⟨sa, sc, rfl⟩ := own_form ho6
            have HR6 := Lib.hid (rdf_of_own ho6 HNF.out.symm)
            have HQ6 := Lib.hid (rdf_of_own (own_below HQ5.out hb6 (Nat.le_refl _)) HNF.out.symm)
            have HB6 := Lib.hid (HB5.out.trans (hb6.mono HB5.out.size))
            clear ho6 hb6 HS5 HQ5 HB5
            go_wp2_with fail
            go_at_call 62
            refine (eSame _ _ nf _ _ _ _ F w6 HR6.out HQ6.out).mono ?_
            rintro z w7 ⟨rfl, hb7⟩
            have HB7 := Lib.hid (HB6.out.trans (hb7.mono HB6.out.size))
            clear hb7
            go_wp2
            go_ret
            exact ⟨rfl, HB7.out⟩
      have hk59 : k < 60 := by omega
      clear h60
      have a0 := cell_of_row _ _ 0 _ _ _ x4
      have a1 := cell_of_row _ _ 1 _ _ _ x4
      have a2 := cell_of_row _ _ 2 _ _ _ x4
      have a3 := cell_of_row _ _ 3 _ _ _ x4
      have a4 := cell_of_row _ _ 4 _ _ _ x4
      go_wp2_with fail
      go_at_call 60
      refine (jNote x.t x.e x.g x.d HS4.out).mono ?_
      rintro z w5 ⟨rfl, h5, k5⟩
      have hX := next_noted N n k hn1 (by omega)
      rw [← HXE.out] at hX
      have hsucc := noted_succ N k
      rw [← HXE.out] at hsucc
      rw [hX, ← hsucc, noted_len, show min (k - n + if n ≤ k then 1 else 0) 65535 = k + 1 - n by split <;> omega] at h5
      rw [hX]
      obtain ⟨X, hXe⟩ : ∃ X : En, X = ⟨k + 1, x.t, x.e, min x.g 3, x.d⟩ := ⟨_, rfl⟩
      rw [← hXe] at hsucc ⊢
      have HXX := Lib.hid hXe
      clear hXe
      have x5 := (k5.block gx (box_lt x4) hxg.2.1 hxg.2.2).trans x4
      have HS5 := Lib.hid h5
      have K5 := Lib.hid (K4.out.trans k5)
      have HSU := Lib.hid hsucc
      clear h5 k5 hX hsucc x4 HS4 K4 a0 a1 a2 a3 a4
      go_upto_region 13 with fail
      have hal6 : Below w5.heap.size w5 (w5.alloc (.cells #[.int .u32 (X.q : Nat), .int .u32 (X.t : Nat), .int .u8 (X.e : Nat), .int .u8 (X.g : Nat), .int .u32 (X.d : Nat)] 143)) := (Below.refl _ _).alloc (Nat.le_refl _) _
      have e6 := heap_alloc_new w5 (.cells #[.int .u32 (X.q : Nat), .int .u32 (X.t : Nat), .int .u8 (X.e : Nat), .int .u8 (X.g : Nat), .int .u32 (X.d : Nat)] 143)
      have x6 := box_below x5 hal6 (box_lt x5)
      have HS6 := Lib.hid (HS5.out.below hal6 (Nat.le_refl _))
      have K6 := Lib.hid (K5.out.trans (Kept.of_below hal6))
      have hge : gx < w5.heap.size := box_lt x5
      have hg5 := HS5.out.ring.le
      obtain ⟨w6, hw6⟩ : ∃ w6, w6 = w5.alloc (.cells #[.int .u32 (X.q : Nat), .int .u32 (X.t : Nat), .int .u8 (X.e : Nat), .int .u8 (X.g : Nat), .int .u32 (X.d : Nat)] 143) := ⟨_, rfl⟩
      obtain ⟨ge, hgee⟩ : ∃ ge, ge = w5.heap.size := ⟨_, rfl⟩
      rw [← hw6] at e6 x6 HS6 K6 ⊢
      rw [← hgee] at e6 hge ⊢
      have hgeg : ge ≠ gj ∧ ge ≠ g ∧ ge ≠ b := by have := box_lt HS5.out.box; omega
      clear hw6 hgee hal6 x5 HS5 K5 hg5
      have a0 := cell_of_row _ _ 0 _ _ _ x6
      have f0 := frozen_of_row _ _ 0 _ _ x6
      have a3 := cell_of_row _ _ 3 _ _ _ x6
      have f3 := frozen_of_row _ _ 3 _ _ x6
      have hmn := fun (w : World) => run_minJ (P := Try.prog) #[5, 5] 5 .u8 (x.g : Nat) 3 w
      rw [show min (x.g : Int) 3 = ((min x.g 3 : Nat) : Int) by omega] at hmn
      go_upto_region 15 with fail
      have x7a : (w6.setCell ⟨gx, 0, none⟩ (.int .u32 ((k : Int) + 1))).heap[gx]? = some (.cells #[.int .u32 ((k : Int) + 1), .int .u32 (x.t : Nat), .int .u8 (x.e : Nat), .int .u8 (x.g : Nat), .int .u32 (x.d : Nat)] 142 (0, 0)) := heap_setCell_same w6 gx 0 _ _ _ x6
      have x7 : ((w6.setCell ⟨gx, 0, none⟩ (.int .u32 ((k : Int) + 1))).setCell ⟨gx, 3, none⟩ (.int .u8 ((min x.g 3 : Nat) : Int))).heap[gx]? = some (.cells #[.int .u32 ((k : Int) + 1), .int .u32 (x.t : Nat), .int .u8 (x.e : Nat), .int .u8 ((min x.g 3 : Nat) : Int), .int .u32 (x.d : Nat)] 142 (0, 0)) := heap_setCell_same _ gx 3 _ _ _ x7a
      have hgne : ge ≠ gx := by omega
      have e7 := (heap_setCell_other _ ⟨gx, 3, none⟩ ge (.int .u8 ((min x.g 3 : Nat) : Int)) hgne).trans ((heap_setCell_other w6 ⟨gx, 0, none⟩ ge (.int .u32 ((k : Int) + 1)) hgne).trans e6)
      have HS7 := Lib.hid ((HS6.out.setOther hxg.1 hxg.2.1 hxg.2.2 0 (.int .u32 ((k : Int) + 1))).setOther hxg.1 hxg.2.1 hxg.2.2 3 (.int .u8 ((min x.g 3 : Nat) : Int)))
      have K7 := Lib.hid ((K6.out.setNew hgxr 0 (.int .u32 ((k : Int) + 1))).setNew hgxr 3 (.int .u8 ((min x.g 3 : Nat) : Int)))
      obtain ⟨w7, hw7⟩ : ∃ w7, w7 = (w6.setCell ⟨gx, 0, none⟩ (.int .u32 ((k : Int) + 1))).setCell ⟨gx, 3, none⟩ (.int .u8 ((min x.g 3 : Nat) : Int)) := ⟨_, rfl⟩
      rw [← hw7] at x7 e7 HS7 K7 ⊢
      have x7' : w7.heap[gx]? = some (.cells #[.int .u32 (X.q : Nat), .int .u32 (X.t : Nat), .int .u8 (X.e : Nat), .int .u8 (X.g : Nat), .int .u32 (X.d : Nat)] 142 (0, 0)) := by rw [x7, HXX.out]; rfl
      have HO7 := Lib.hid (own_kepE HO.out K7.out HGB.out.2.1 HGB.out.2.2)
      clear hw7 x7 x7a x6 e6 HS6 K6 a0 a3 f0 f3 hmn
      have a0 := cell_of_row _ _ 0 _ _ _ x7'
      have a1 := cell_of_row _ _ 1 _ _ _ x7'
      have a2 := cell_of_row _ _ 2 _ _ _ x7'
      have a3 := cell_of_row _ _ 3 _ _ _ x7'
      have a4 := cell_of_row _ _ 4 _ _ _ x7'
      go_wp2_with (at_builtin; refine wpList_append_own _ rfl _ _ 137 rfl B 142 i0 (.agg #[.int .u32 (en0.q : Nat), .int .u32 (en0.t : Nat), .int .u8 (en0.e : Nat), .int .u8 (en0.g : Nat), .int .u32 (en0.d : Nat)]) 5 16 Try.underlying137 hi hz0 hz1 hz2 rfl (by decide) _ _ _ rfl (HO7.out.alloc _) ⟨w7.heap.size, 0, none⟩ 1 1 X.cs rfl rfl (re_new _ _) (by simp [En.cs, Value.oneCell']) (by unfold maxLen; omega) (by omega) (by simp; have := K7.out.size; omega) ?_; intro v8 w8 hown8 hgrow8 _; obtain ⟨g8, cap8, rfl⟩ := ownsRow_succ hown8; have hvx := (fun j (hj : (Value.slice aa k ac).ownBlock = some j) => (show j < gx from Nat.lt_of_lt_of_le (own_ltE HO.out hj) hgxr)); obtain ⟨x8, e8, hb8⟩ := after_append HO7.out (by have := K7.out.size; omega) hgrow8 x7' e7 hvx hge; have HO8 := Lib.hid hown8; have HS8 := Lib.hid (HS7.out.low hb8 HGB.out.1 HGB.out.2.1 HGB.out.2.2); have HB8 := Lib.hid ((HB.out.trans (K7.out.below HG.out.1 HG.out.2 HB.out.size)).trans (hb8.mono hwB)); have hBw8 := (show B ≤ w8.heap.size by have h1 := hb8.size; have h2 := K7.out.size; omega); clear hown8 hgrow8 hvx hb8 x7' e7 HS7 a0 a1 a2 a3 a4)
      obtain ⟨kk, hkk⟩ : ∃ kk, kk = k + 1 := ⟨_, rfl⟩
      have hlast : last (lastn n (noted N (k + 1))) = X := by rw [last_noted N n k hn1, HXX.out, HXE.out]
      have hown9 : w8.ownsRow B 142 5 (.slice (some ⟨g8, 0, none⟩) (k + 1) cap8) (k + 1) (ql (noted N (k + 1))) := by rw [HSU.out, ql_append, ql_one]; exact HO8.out
      have hll := lastn_len n (noted N (k + 1))
      rw [noted_len] at hll
      have hS8 := HS8.out
      rw [← hkk] at hlast hown9 hll hS8 ⊢
      have hnl := noted_len N kk
      obtain ⟨A, hA⟩ : ∃ A, A = noted N kk := ⟨_, rfl⟩
      rw [← hA] at hlast hown9 hll hS8 hnl
      obtain ⟨Lk, hLk⟩ : ∃ Lk, Lk = lastn n A := ⟨_, rfl⟩
      rw [← hLk] at hlast hll hS8
      obtain ⟨mm, hmm⟩ : ∃ mm, mm = min n kk := ⟨_, rfl⟩
      rw [← hmm] at hll
      have hpos : decide (0 < Lk.length) = true := by rw [decide_eq_true_iff]; omega
      obtain ⟨lo, hlo⟩ : ∃ lo, lo = kk - n := ⟨_, rfl⟩
      rw [← hlo] at hS8
      have hmn := fun (w : World) => run_minJ (P := Try.prog) #[3, 3] 3 .i64 (kk : Nat) (n : Nat) w
      rw [show min (kk : Int) (n : Int) = ((mm : Nat) : Int) by omega] at hmn
      have hmx : ∀ w : World, (Builtin.max_ #[3, 3] 3 #[.int .i64 ((kk : Int) - (n : Int)), .int .i64 0]).run Try.prog w = .ok (.int .i64 ((lo : Nat) : Int)) w := by
        intro w
        have e : ∀ (y : Int), (Builtin.max2 (.int .i64 y) (.int .i64 0)).run Try.prog w = .ok (.int .i64 (if (0 : Int) > y then 0 else y)) w := fun y => by unfold Builtin.max2; rfl
        simp [Builtin.max_, e]
        split <;> omega
      have hneq : ∀ w : World, (binOp .neq 142 (.agg #[.int .u32 (X.q : Nat), .int .u32 (X.t : Nat), .int .u8 (X.e : Nat), .int .u8 (X.g : Nat), .int .u32 (X.d : Nat)]) (.agg #[.int .u32 (X.q : Nat), .int .u32 (X.t : Nat), .int .u8 (X.e : Nat), .int .u8 (X.g : Nat), .int .u32 (X.d : Nat)])).run Try.prog w = .ok (.bool false) w := fun w => by rw [neqRe]; simp
      have HS9 := Lib.hid hS8
      have HO9 := Lib.hid hown9
      have HLA := Lib.hid (And.intro hlast hpos)
      have HLL := Lib.hid (And.intro hll hnl)
      have HAA := Lib.hid (And.intro hA (And.intro hLk (And.intro hkk (And.intro hmm hlo))))
      have hk9 : kk ≤ 60 := by omega
      have hmk : mm ≤ 60 := by omega
      clear hkk hlast hown9 hll hS8 hnl hA hLk hmm hlo hpos HO8 HS8 HSU
      go_at_call 61
      refine (jLast HS9.out.jr).mono ?_
      rintro z w9 ⟨rfl, hb9⟩
      rw [HLA.out.1, HLA.out.2]
      have x9 := box_below x8 hb9 (box_lt x8)
      have e9 := box_below e8 hb9 (box_lt e8)
      have HO10 := Lib.hid (own_below HO9.out hb9 (Nat.le_refl _))
      have HS10 := Lib.hid (HS9.out.below hb9 (Nat.le_refl _))
      have HB10 := Lib.hid (HB8.out.trans (hb9.mono HB8.out.size))
      have hBw9 : B ≤ w9.heap.size := Nat.le_trans hBw8 hb9.size
      clear hb9 x8 e8 HO9 HS9 HB8 hBw8
      go_upto_region 17 with fail
      have hal10 : Below w9.heap.size w9 (w9.alloc (.cells #[.int .u32 (X.q : Nat), .int .u32 (X.t : Nat), .int .u8 (X.e : Nat), .int .u8 (X.g : Nat), .int .u32 (X.d : Nat)] 143)) := (Below.refl _ _).alloc (Nat.le_refl _) _
      have l10 := heap_alloc_new w9 (.cells #[.int .u32 (X.q : Nat), .int .u32 (X.t : Nat), .int .u8 (X.e : Nat), .int .u8 (X.g : Nat), .int .u32 (X.d : Nat)] 143)
      have x10 := box_below x9 hal10 (box_lt x9)
      have e10 := box_below e9 hal10 (box_lt e9)
      have HO11 := Lib.hid (own_below HO10.out hal10 (Nat.le_refl _))
      have HS11 := Lib.hid (HS10.out.below hal10 (Nat.le_refl _))
      have HB11 := Lib.hid (HB10.out.trans (hal10.mono HB10.out.size))
      obtain ⟨w10, hw10⟩ : ∃ w10, w10 = w9.alloc (.cells #[.int .u32 (X.q : Nat), .int .u32 (X.t : Nat), .int .u8 (X.e : Nat), .int .u8 (X.g : Nat), .int .u32 (X.d : Nat)] 143) := ⟨_, rfl⟩
      obtain ⟨gl, hgl⟩ : ∃ gl, gl = w9.heap.size := ⟨_, rfl⟩
      have hBw10 : B ≤ w10.heap.size := by rw [hw10]; simp; omega
      rw [← hw10] at l10 x10 e10 HO11 HS11 HB11 ⊢
      rw [← hgl] at l10 ⊢
      clear hw10 hgl hal10 x9 e9 HO10 HS10 HB10 hBw9
      have a0 := cell_of_row _ _ 0 _ _ _ x10
      have a1 := cell_of_row _ _ 1 _ _ _ x10
      have a2 := cell_of_row _ _ 2 _ _ _ x10
      have a3 := cell_of_row _ _ 3 _ _ _ x10
      have a4 := cell_of_row _ _ 4 _ _ _ x10
      have b0 := cell_of_row _ _ 0 _ _ _ e10
      have b1 := cell_of_row _ _ 1 _ _ _ e10
      have b2 := cell_of_row _ _ 2 _ _ _ e10
      have b3 := cell_of_row _ _ 3 _ _ _ e10
      have b4 := cell_of_row _ _ 4 _ _ _ e10
      have c0 := cell_of_row _ _ 0 _ _ _ l10
      have c1 := cell_of_row _ _ 1 _ _ _ l10
      have c2 := cell_of_row _ _ 2 _ _ _ l10
      have c3 := cell_of_row _ _ 3 _ _ _ l10
      have c4 := cell_of_row _ _ 4 _ _ _ l10
      go_wp2_with fail
      go_at_call 63
      refine (jAll HS11.out.jr).mono ?_
      rintro z w11 ⟨v11, rfl, ho11, hb11⟩
      obtain ⟨al, cl, rfl⟩ := own_form ho11
      rw [HLL.out.1] at ho11 ⊢
      have HA12 := Lib.hid (rdf_of_own ho11 HLL.out.1)
      have HO12 := Lib.hid (own_below HO11.out hb11 (Nat.le_refl _))
      have HS12 := Lib.hid (HS11.out.below hb11 (Nat.le_refl _))
      have HB12 := Lib.hid (HB11.out.trans (hb11.mono HB11.out.size))
      have hBw12 : B ≤ w11.heap.size := Nat.le_trans hBw10 hb11.size
      clear ho11 hb11 l10 x10 e10 HO11 HS11 HB11 hBw10 a0 a1 a2 a3 a4 b0 b1 b2 b3 b4 c0 c1 c2 c3 c4 hneq
      go_wp2_with fail
      go_at_call 64
      refine (rLast _ kk cap8 _ n A w11 (rdf_of_own HO12.out HLL.out.2) HLL.out.2 hn1 (by omega) (by omega)).mono ?_
      rintro z w' ⟨⟨a', c', rfl, hr⟩, rfl⟩
      rw [← HAA.out.2.1, ← HAA.out.2.2.2.1] at hr
      rw [← HAA.out.2.2.2.1]
      have HRL := Lib.hid hr
      clear hr
      go_wp2_with fail
      go_at_call 62
      refine (eSame _ _ mm _ _ _ _ Lk w11 HA12.out HRL.out).mono ?_
      rintro z w12 ⟨rfl, hb12⟩
      have HO13 := Lib.hid (own_below HO12.out hb12 (Nat.le_refl _))
      have HS13 := Lib.hid (HS12.out.below hb12 (Nat.le_refl _))
      have HB13 := Lib.hid (HB12.out.trans (hb12.mono HB12.out.size))
      have hBw13 : B ≤ w12.heap.size := Nat.le_trans hBw12 hb12.size
      clear hb12 HO12 HS12 HB12 hBw12 HRL HA12
      go_wp2_with fail
      go_at_call 65
      refine (jLen HS13.out.jr).mono ?_
      rintro z w' ⟨rfl, rfl⟩
      rw [HLL.out.1]
      go_wp2_with fail
      go_at_call 66
      refine (jLost HS13.out.jr).mono ?_
      rintro z w' ⟨rfl, rfl⟩
      go_wp2
      go_roundw
      case rel => exact ⟨kk, by have := HAA.out.2.2.1; omega, by omega, by rw [HAA.out.2.2.1]; go_num, by rw [← HAA.out.1]; exact HO13.out, by rw [← HAA.out.1, ← HAA.out.2.1, ← HAA.out.2.2.2.2]; exact HS13.out, HB13.out, hBw13⟩
      case measure => simp [intOf]; omega
    · have HOZ := Lib.hid HO.out
      have HSZ := Lib.hid HS.out
      have HBZ := Lib.hid HB.out
      obtain ⟨wz, hwz⟩ : ∃ wz, wz = wr := ⟨_, rfl⟩
      rw [← hwz] at HOZ HSZ HBZ ⊢
      clear hwz HO HS HB
      skip
      have hnl := noted_len N k
      obtain ⟨A, hA⟩ : ∃ A, A = noted N k := ⟨_, rfl⟩
      rw [← hA] at hnl
      have hoz := HOZ.out
      have hsz := HSZ.out
      rw [← hA] at hoz hsz
      have hkl := lastn_len n A
      obtain ⟨Kp, hKp⟩ : ∃ Kp, Kp = lastn n A := ⟨_, rfl⟩
      obtain ⟨m, hm⟩ : ∃ m, m = min n k := ⟨_, rfl⟩
      rw [← hKp] at hkl hsz
      rw [hnl, ← hm] at hkl
      have hm16 : m ≤ 16 := by omega
      have hlast := rLast aa k ac _ n A wz (rdf_of_own hoz hnl) hnl hn1 (by omega) (by omega)
      rw [← hKp, ← hm] at hlast
      have HLS := Lib.hid hlast
      have HS1 := Lib.hid hsz
      have HKL := Lib.hid hkl
      clear hA hoz hsz hkl hKp hm hlast hnl
      go_wp2_with fail
      go_at_call 64
      refine HLS.out.mono ?_
      rintro z w' ⟨⟨ka, kc, rfl, hkr⟩, rfl⟩
      have hkc1 := hkr.le
      have hkc2 := hkr.top
      unfold maxLen at hkc2
      have HKR := Lib.hid hkr
      clear hkr HLS
      go_wp2_with fail
      go_loopw [19, 20, 122] (fun cn vn i wr => ∃ j : Nat, j ≤ m ∧ i = .int .i64 (j : Nat) ∧ cn = .int .i64 ((((Kp.take j).filter (fun x => decide (x.e = ev))).length : Nat) : Int) ∧ wr.ownsRow wz.heap.size 142 5 vn ((Kp.take j).filter (fun x => decide (sq < x.q))).length (ql ((Kp.take j).filter (fun x => decide (sq < x.q)))) ∧ Below wz.heap.size wz wr) (fun _ _ i _ => m - (intOf i).toNat)
      case atStart => exact ⟨0, Nat.zero_le _, rfl, rfl, World.ownsRow_nil _ _ _ _, Below.refl _ _⟩
      case round =>
        obtain ⟨j, hj, rfl, rfl, hq, hbq⟩ := hrel
        obtain ⟨na, nc, rfl⟩ := own_form hq
        have hcb := List.length_filter_le (fun x : En => decide (x.e = ev)) (Kp.take j)
        have hnb := List.length_filter_le (fun x : En => decide (sq < x.q)) (Kp.take j)
        rw [List.length_take] at hcb hnb
        obtain ⟨cn, hcn⟩ : ∃ cn, cn = ((Kp.take j).filter (fun x => decide (x.e = ev))).length := ⟨_, rfl⟩
        obtain ⟨F, hF⟩ : ∃ F, F = (Kp.take j).filter (fun x => decide (sq < x.q)) := ⟨_, rfl⟩
        rw [← hcn] at hcb ⊢
        rw [← hF] at hnb hq ⊢
        obtain ⟨nf, hnf⟩ : ∃ nf, nf = F.length := ⟨_, rfl⟩
        rw [← hnf] at hnb hq ⊢
        have HCN := Lib.hid hcn
        have HFN := Lib.hid hF
        have HNF := Lib.hid hnf
        have HQ := Lib.hid hq
        have HBQ := Lib.hid hbq
        have hqz := hbq.size
        clear hcn hF hnf hq hbq
        by_cases hltj : j < m
        · obtain ⟨kb, ko, rfl, hkb, hkx⟩ := HKR.out.at' (by omega)
          have hx := range_block (hkx j hltj) (HBQ.out.block kb hkb)
          obtain ⟨x, hxe⟩ : ∃ x, x = Kp.getD j en0 := ⟨_, rfl⟩
          rw [← hxe] at hx
          have q0 := hx 0 _ rfl
          have q1 := hx 1 _ rfl
          have q2 := hx 2 _ rfl
          have q3 := hx 3 _ rfl
          have q4 := hx 4 _ rfl
          rw [Nat.add_zero] at q0
          have HX := Lib.hid hxe
          clear hx hkx hxe
          go_upto_region 26 with fail
          have hal5 : Below wr.heap.size wr (wr.alloc (.cells #[.int .u32 (x.q : Nat), .int .u32 (x.t : Nat), .int .u8 (x.e : Nat), .int .u8 (x.g : Nat), .int .u32 (x.d : Nat)] 142)) := (Below.refl _ _).alloc (Nat.le_refl _) _
          have x5 := heap_alloc_new wr (.cells #[.int .u32 (x.q : Nat), .int .u32 (x.t : Nat), .int .u8 (x.e : Nat), .int .u8 (x.g : Nat), .int .u32 (x.d : Nat)] 142)
          have HQ5 := Lib.hid (own_below HQ.out hal5 (Nat.le_refl _))
          have HB5 := Lib.hid (HBQ.out.trans (hal5.mono HBQ.out.size))
          have hw5z : wz.heap.size ≤ (wr.alloc (.cells #[.int .u32 (x.q : Nat), .int .u32 (x.t : Nat), .int .u8 (x.e : Nat), .int .u8 (x.g : Nat), .int .u32 (x.d : Nat)] 142)).heap.size := HB5.out.size
          obtain ⟨w5, hw5⟩ : ∃ w5, w5 = wr.alloc (.cells #[.int .u32 (x.q : Nat), .int .u32 (x.t : Nat), .int .u8 (x.e : Nat), .int .u8 (x.g : Nat), .int .u32 (x.d : Nat)] 142) := ⟨_, rfl⟩
          obtain ⟨gq, hgq⟩ : ∃ gq, gq = wr.heap.size := ⟨_, rfl⟩
          rw [← hw5] at x5 HQ5 HB5 hw5z ⊢
          rw [← hgq] at x5 ⊢
          clear hw5 hgq hal5 HQ HBQ q0 q1 q2 q3 q4 hqz
          have a0 := cell_of_row _ _ 0 _ _ _ x5
          have a1 := cell_of_row _ _ 1 _ _ _ x5
          have a2 := cell_of_row _ _ 2 _ _ _ x5
          have a3 := cell_of_row _ _ 3 _ _ _ x5
          have a4 := cell_of_row _ _ 4 _ _ _ x5
          clear x5
          have hkl := HKL.out
          by_cases he : x.e = ev
          · have hfc : ((Kp.take (j + 1)).filter (fun x => decide (x.e = ev))).length = cn + 1 := by rw [take_filter _ _ (by omega), ← HX.out, List.length_append]; simp [he, HCN.out]

            have hei : ((x.e : Int) == (ev : Int)) = true := by rw [he]; simp
            clear he
            by_cases hs : sq < x.q
            · have hfn : (Kp.take (j + 1)).filter (fun x => decide (sq < x.q)) = F ++ [x] := by rw [take_filter _ _ (by omega), ← HX.out]; simp [hs, HFN.out]

              go_wp2_with (at_builtin; refine wpList_append_own _ rfl _ _ 137 rfl wz.heap.size 142 i0 (.agg #[.int .u32 (en0.q : Nat), .int .u32 (en0.t : Nat), .int .u8 (en0.e : Nat), .int .u8 (en0.g : Nat), .int .u32 (en0.d : Nat)]) 5 16 Try.underlying137 hi hz0 hz1 hz2 rfl (by decide) _ _ _ rfl (HQ5.out.alloc _) ⟨w5.heap.size, 0, none⟩ 1 1 x.cs rfl rfl (re_new _ _) (by simp [En.cs, Value.oneCell']) (by unfold maxLen; omega) (by omega) (by simp; omega) ?_; intro v8 w8 hown8 hgrow8 _; have hb8 := ((Below.refl wz.heap.size w5).alloc hw5z (.cells #[.int .u32 (x.q : Nat), .int .u32 (x.t : Nat), .int .u8 (x.e : Nat), .int .u8 (x.g : Nat), .int .u32 (x.d : Nat)] 142)).grown hgrow8 (by simp; omega) (fun j hj => (HQ5.out.lt j hj).1); have HO8 := Lib.hid hown8; have HB8 := Lib.hid (HB5.out.trans hb8); clear hown8 hgrow8 hb8)
              go_roundw
              case rel => exact ⟨j + 1, by omega, by go_num, by rw [hfc]; go_num, by rw [hfn, List.length_append, ql_append, ql_one, ← HNF.out]; exact HO8.out, HB8.out⟩
              case measure => simp [intOf]; omega
            · have hfn : (Kp.take (j + 1)).filter (fun x => decide (sq < x.q)) = F := by rw [take_filter _ _ (by omega), ← HX.out]; simp [hs, HFN.out]

              go_wp2
              go_roundw
              case rel => exact ⟨j + 1, by omega, by go_num, by rw [hfc]; go_num, by rw [hfn, ← HNF.out]; exact HQ5.out, HB5.out⟩
              case measure => simp [intOf]; omega
          · have hei : ((x.e : Int) == (ev : Int)) = false := by rw [beq_eq_false_iff_ne]; omega
            have hfc : ((Kp.take (j + 1)).filter (fun x => decide (x.e = ev))).length = cn := by rw [take_filter _ _ (by omega), ← HX.out, List.length_append]; simp [he, HCN.out]

            by_cases hs : sq < x.q
            · have hfn : (Kp.take (j + 1)).filter (fun x => decide (sq < x.q)) = F ++ [x] := by rw [take_filter _ _ (by omega), ← HX.out]; simp [hs, HFN.out]

              go_wp2_with (at_builtin; refine wpList_append_own _ rfl _ _ 137 rfl wz.heap.size 142 i0 (.agg #[.int .u32 (en0.q : Nat), .int .u32 (en0.t : Nat), .int .u8 (en0.e : Nat), .int .u8 (en0.g : Nat), .int .u32 (en0.d : Nat)]) 5 16 Try.underlying137 hi hz0 hz1 hz2 rfl (by decide) _ _ _ rfl (HQ5.out.alloc _) ⟨w5.heap.size, 0, none⟩ 1 1 x.cs rfl rfl (re_new _ _) (by simp [En.cs, Value.oneCell']) (by unfold maxLen; omega) (by omega) (by simp; omega) ?_; intro v8 w8 hown8 hgrow8 _; have hb8 := ((Below.refl wz.heap.size w5).alloc hw5z (.cells #[.int .u32 (x.q : Nat), .int .u32 (x.t : Nat), .int .u8 (x.e : Nat), .int .u8 (x.g : Nat), .int .u32 (x.d : Nat)] 142)).grown hgrow8 (by simp; omega) (fun j hj => (HQ5.out.lt j hj).1); have HO8 := Lib.hid hown8; have HB8 := Lib.hid (HB5.out.trans hb8); clear hown8 hgrow8 hb8)
              go_roundw
              case rel => exact ⟨j + 1, by omega, by go_num, by rw [hfc], by rw [hfn, List.length_append, ql_append, ql_one, ← HNF.out]; exact HO8.out, HB8.out⟩
              case measure => simp [intOf]; omega
            · have hfn : (Kp.take (j + 1)).filter (fun x => decide (sq < x.q)) = F := by rw [take_filter _ _ (by omega), ← HX.out]; simp [hs, HFN.out]

              go_wp2
              go_roundw
              case rel => exact ⟨j + 1, by omega, by go_num, by rw [hfc], by rw [hfn, ← HNF.out]; exact HQ5.out, HB5.out⟩
              case measure => simp [intOf]; omega
        · obtain rfl : j = m := by omega
          have htk : Kp.take j = Kp := List.take_of_length_le (by rw [HKL.out]; exact Nat.le_refl _)
          have hcn := HCN.out
          have hfn := HFN.out
          rw [htk] at hcn hfn
          have hjc := jCount (HS1.out.below HBQ.out (Nat.le_refl _)).jr ev
          rw [← hcn] at hjc
          have HJC := Lib.hid hjc
          have HFF := Lib.hid hfn
          clear htk hcn hfn hjc
          go_wp2_with fail
          go_at_call 67
          refine HJC.out.mono ?_
          rintro z w5 ⟨rfl, hb5⟩
          have HS5 := Lib.hid ((HS1.out.below HBQ.out (Nat.le_refl _)).below hb5 (Nat.le_refl _))
          have HQ5 := Lib.hid (own_below HQ.out hb5 (Nat.le_refl _))
          have HB5 := Lib.hid ((HBZ.out.trans (HBQ.out.mono HBZ.out.size)).trans (hb5.mono (Nat.le_trans HBZ.out.size hqz)))
          clear hb5 HJC HQ
          go_wp2_with fail
          go_at_call 68
          refine (jSince HS5.out.jr sq).mono ?_
          rintro z w6 ⟨v6, rfl, ho6, hb6⟩
          rw [← HFF.out, ← HNF.out] at ho6
          obtain ⟨sa, sc, rfl⟩ := own_form ho6
          have HR6 := Lib.hid (rdf_of_own ho6 HNF.out.symm)
          have HQ6 := Lib.hid (rdf_of_own (own_below HQ5.out hb6 (Nat.le_refl _)) HNF.out.symm)
          have HB6 := Lib.hid (HB5.out.trans (hb6.mono HB5.out.size))
          clear ho6 hb6 HS5 HQ5 HB5
          go_wp2_with fail
          go_at_call 62
          refine (eSame _ _ nf _ _ _ _ F w6 HR6.out HQ6.out).mono ?_
          rintro z w7 ⟨rfl, hb7⟩
          have HB7 := Lib.hid (HB6.out.trans (hb7.mono HB6.out.size))
          clear hb7
          go_wp2
          go_ret
          exact ⟨rfl, HB7.out⟩
end Go.Proofs.Ytkgeeohgfbacaaa.Je
namespace Go.Proofs.Ytkgeeohgfbacaaa
open Go.RowKit Go.Own
set_option linter.unusedVariables false
set_option linter.unusedSimpArgs false
theorem walk_JournalKeeps (a0 : Int) (a1 : Option Addr) (len1 cap1 : Nat) (a2 a3 : Int) (w : World) (w0 : (Lit.int .u8 a0).wf = true) (w1 : IsFlat [.int .u32, .int .u32, .int .u8, .int .u8, .int .u32] w a1 len1 cap1) (w2 : (Lit.int .u8 a2).wf = true) (w3 : (Lit.int .u32 a3).wf = true) :
    Calls Try.prog 9 #[.int .u8 a0, .slice a1 len1 cap1, .int .u8 a2, .int .u32 a3] w fun e w' => e = .returned (.bool true) ∧ Below w.heap.size w w' := by
  obtain ⟨p0, q0⟩ := bounds_u8 w0
  obtain ⟨p1, q1⟩ := bounds_u8 w2
  obtain ⟨p2, q2⟩ := bounds_u32 w3
  obtain ⟨N, hN⟩ := Je.nos_flat w1
  obtain ⟨rm, rfl⟩ : ∃ m : Nat, a0 = m := ⟨a0.toNat, by omega⟩
  obtain ⟨ev, rfl⟩ : ∃ m : Nat, a2 = m := ⟨a2.toNat, by omega⟩
  obtain ⟨sq, rfl⟩ : ∃ m : Nat, a3 = m := ⟨a3.toNat, by omega⟩
  exact Je.walkK rm ev sq a1 len1 cap1 N w (by omega) (by omega) (by omega) hN
end Go.Proofs.Ytkgeeohgfbacaaa
