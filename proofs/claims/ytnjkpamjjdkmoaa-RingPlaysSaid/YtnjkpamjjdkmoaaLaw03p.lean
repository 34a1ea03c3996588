/- RingPlays. -/
import Derived.Test.YtnjkpamjjdkmoaaRgH
import Derived.Test.YtnjkpamjjdkmoaaRingAl
import Derived.Test.YtnjkpamjjdkmoaaFlat
namespace Go.Proofs.Ytnjkpamjjdkmoaa
open Go.RowKit Go.Own
set_option linter.unusedVariables false
set_option linter.unusedSimpArgs false
/-- An act. -/
structure Ak where
  k : Nat
  V : Int
  M : Int
deriving Inhabited
theorem choose_natR {α : Type} [Inhabited α] {n : Nat} {p : Nat → α → Prop} (h : ∀ i, i < n → ∃ v, p i v) : ∃ f : Nat → α, ∀ i, i < n → p i (f i) :=
  ⟨fun i => if hi : i < n then Classical.choose (h i hi) else default, fun i hi => by simp only [dif_pos hi]; exact Classical.choose_spec (h i hi)⟩
def Ak.cs (x : Ak) : List Value := [.int .u8 ((x.k : Nat) : Int), .int .i64 x.V, .int .i64 x.M]
theorem zero_ract (w : World) : (zeroValue 42).run Try.prog w = .ok (.agg #[.int .u8 0, .int .i64 0, .int .i64 0]) w := by kernel_rfl
theorem tmod_1000 (V : Int) : -1000 ≤ Int.tmod V 1000 ∧ Int.tmod V 1000 ≤ 1000 := by
  rcases Int.le_total 0 V with h | h
  · rw [Int.tmod_eq_emod_of_nonneg h]; omega
  · have e := Int.neg_tmod (a := -V) (b := 1000)
    rw [Int.neg_neg] at e
    rw [e, Int.tmod_eq_emod_of_nonneg (by omega)]; omega
theorem Ring.low {w w' : World} {g b n l d k : Nat} {L : List Int} (h : Ring w g b n L l d) (hb : Below k w w') (hg : g < k) (hbk : b < k) : Ring w' g b n L l d := by
  obtain ⟨f, sl, h1, h2⟩ := h
  exact ⟨f, sl, ⟨(hb.block g hg).trans h1.head, (hb.block b hbk).trans h1.row, h1.len, h1.n1, h1.n2, h1.hf, h1.hc, h1.hl, h1.hd⟩, h2⟩
theorem Calls.quiet_eq2 {P : Program} {f : FuncId} {args : Array Value} {w : World} {n : Nat} {v : Value} (h : Calls P f args (w.drewN n) fun e w' => e = .returned v ∧ w.drewN n = w') : Calls P f args (w.drewN n) fun e w'' => e = .returned v ∧ ∃ m, w'' = w.drewN m :=
  h.mono fun _ _ ⟨he, hm⟩ => ⟨he, n, hm.symm⟩
/-- Acts in memory. -/
structure AkS (w : World) (a : Option Addr) (len : Nat) (f : Nat → Ak) : Prop where
  lt : ∀ i, i < len → (f i).k < 256
  at_ : 0 < len → ∃ b off, a = some ⟨b, off, none⟩ ∧ b < w.heap.size ∧ ∀ i, i < len → w.rangeAt b (off + i * 3) (f i).cs
theorem fit_consR {w : World} {k : Leaf} {ks : List Leaf} {cs : List Value} (h : Fit w (k :: ks) cs) : ∃ v vs, cs = v :: vs ∧ k.fits w v ∧ Fit w ks vs := by
  cases cs with
  | nil => exact h.elim
  | cons v vs => exact ⟨v, vs, rfl, h.1, h.2⟩
theorem fit_nilR {w : World} {cs : List Value} (h : Fit w [] cs) : cs = [] := by
  cases cs with
  | nil => rfl
  | cons v vs => exact h.elim
theorem aks_flat {w : World} {a : Option Addr} {len cap : Nat} (h : IsFlat [.int .u8, .int .i64, .int .i64] w a len cap) : ∃ f, AkS w a len f := by
  obtain ⟨h1, h2, _, h4⟩ := h
  by_cases h0 : 0 < len
  · obtain ⟨b, off, e, hb, hx⟩ := h4 h0
    have each : ∀ i, i < len → ∃ r : Ak, r.k < 256 ∧ w.rangeAt b (off + i * 3) r.cs := by
      intro i hi
      obtain ⟨cs, hf, hc⟩ := hx i hi
      obtain ⟨_, v1, rfl, ⟨z0, rfl, k0⟩, h1⟩ := fit_consR hf
      obtain ⟨_, v2, rfl, ⟨z1, rfl, k1⟩, h2⟩ := fit_consR h1
      obtain ⟨_, v3, rfl, ⟨z2, rfl, k2⟩, h3⟩ := fit_consR h2
      obtain rfl := fit_nilR h3
      have b0 := bounds_u8 k0
      obtain ⟨s, rfl⟩ := Int.eq_ofNat_of_zero_le b0.1
      exact ⟨⟨s, z1, z2⟩, show s < 256 by omega, hc⟩
    obtain ⟨f, hf⟩ := choose_natR each
    exact ⟨f, fun i hi => (hf i hi).1, fun _ => ⟨b, off, e, hb, fun i hi => (hf i hi).2⟩⟩
  · exact ⟨fun _ => ⟨0, 0, 0⟩, fun i hi => absurd hi (by omega), fun h => absurd h h0⟩
set_option maxRecDepth 100000 in
set_option maxHeartbeats 8000000 in
theorem walk_RingPlays (rm : Int) (a1 : Option Addr) (len1 cap1 : Nat) (at_ st : Int) (w : World) (wr : (Lit.int .u8 rm).wf = true) (w1 : IsFlat [.int .u8, .int .i64, .int .i64] w a1 len1 cap1) (wa : (Lit.int .i64 at_).wf = true) (ws : (Lit.int .u8 st).wf = true) :
    Calls Try.prog 4 #[.int .u8 rm, .slice a1 len1 cap1, .int .i64 at_, .int .u8 st] w fun e w' => e = .returned (.bool true) ∧ Below w.heap.size w w' := by
  obtain ⟨f, hf⟩ := aks_flat w1
  have HF := Lib.hid hf
  have hlen : len1 ≤ maxLen := Nat.le_trans w1.1 w1.2.1
  unfold maxLen at hlen
  obtain ⟨r0, r1⟩ := bounds_u8 wr
  obtain ⟨s0, s1⟩ := bounds_u8 ws
  obtain ⟨rm, rfl⟩ := Int.eq_ofNat_of_zero_le r0
  obtain ⟨st, rfl⟩ := Int.eq_ofNat_of_zero_le s0
  obtain ⟨q, hq⟩ : ∃ q, q = rm % 9 := ⟨_, rfl⟩
  have hqI : (rm : Int) % 9 = (q : Int) := by omega
  obtain ⟨n, hn⟩ : ∃ n, n = 1 + q := ⟨_, rfl⟩
  have hnI : 1 + (q : Int) = (n : Int) := by omega
  have hn1 : 1 ≤ n := by omega
  have hn9 : n ≤ 9 := by omega
  obtain ⟨k, hk⟩ : ∃ k, k = 1 + st % 4 := ⟨_, rfl⟩
  have HKE := Lib.hid (show 1 + (st : Int) % 4 = (k : Int) by omega)
  have hk1 : 1 ≤ k := by omega
  have hk4 : k ≤ 4 := by omega
  clear wr w1 ws hq hn hf r0 r1 s0 hk
  go_enter Try.func4, Try.ntmps4
  go_wp2_with (go_at_call 22; refine (awake03 _).mono ?_; rintro e w1 ⟨rfl, hb1⟩)
  go_at_call 23
  refine (iNew_ok n w1 hn1 (by omega)).mono ?_
  rintro e w2 ⟨g, b, rfl, hR, hg, hb, hB2⟩
  have HR2 := Lib.hid hR
  have HB2 := Lib.hid (hb1.trans (hB2.mono hb1.size))
  have hwgb : w.heap.size ≤ g ∧ w.heap.size ≤ b := ⟨Nat.le_trans hb1.size hg, Nat.le_trans hb1.size hb⟩
  clear hR hB2 hb1 hqI hnI
  have hgw := HR2.out.le.2.2.2.2.2.1
  have hbw := HR2.out.le.2.2.2.2.2.2.1
  have hz := zero_ract
  have hzr := zero_xr
  have hx0 : XS (w2.alloc (.cells #[.slice none 0 0, .int .i64 ((n : Nat) : Int), .int .i64 0, .int .i64 0] 40)) w2.heap.size (w2.heap.size + 1) n [] 0 0 none 0 := ⟨heap_alloc_new _ _, cut_nil _ _, Nat.lt_succ_self _⟩
  have hb0 := (Below.refl w2.heap.size w2).alloc (Nat.le_refl _) (.cells #[.slice none 0 0, .int .i64 ((n : Nat) : Int), .int .i64 0, .int .i64 0] 40)
  go_wp2_with fail
  obtain ⟨w3, hw3⟩ : ∃ w3, w3 = w2.alloc (.cells #[.slice none 0 0, .int .i64 ((n : Nat) : Int), .int .i64 0, .int .i64 0] 40) := ⟨_, rfl⟩
  rw [← hw3] at hx0 hb0 ⊢
  obtain ⟨gx, hgx⟩ : ∃ x, x = w2.heap.size := ⟨_, rfl⟩
  rw [← hgx] at hx0 hgw hbw
  rw [show (Value.pointer (some ⟨w2.heap.size, 0, none⟩)) = .pointer (some ⟨gx, 0, none⟩) by rw [hgx]]
  obtain ⟨B, hB⟩ : ∃ B, B = gx + 1 := ⟨_, rfl⟩
  rw [← hB] at hx0
  have HR3 := Lib.hid (HR2.out.below hb0 (Nat.le_refl _))
  have HB3 := Lib.hid (HB2.out.trans (hb0.mono HB2.out.size))
  have HX3 := Lib.hid hx0
  have hgB : g < B ∧ b < B ∧ gx < B := by omega
  have hwg : w.heap.size ≤ gx := by rw [hgx]; exact HB2.out.size
  have HBE := Lib.hid hB
  clear hw3 hx0 hb0 hgx HR2 HB2 hg hb hB hzr
  go_loopw [49] (fun v wr => ∃ (i : Nat) (L : List Int) (lo d : Nat) (a' : Option Addr) (cap' : Nat), i ≤ len1 ∧ v = .int .i64 (i : Nat) ∧ Ring wr g b n L lo d ∧ XS wr gx B n L lo d a' cap' ∧ Below w.heap.size w wr) (fun v _ => len1 - (intOf v).toNat)
  case atStart => exact ⟨0, [], 0, 0, none, 0, Nat.zero_le _, rfl, HR3.out, HX3.out, HB3.out⟩
  case round =>
    clear HR3 HX3 HB3
    obtain ⟨i, L, lo, d, a', cap', hi, rfl, hr, hx, hbw⟩ := hrel
    have HR := Lib.hid hr
    have HX := Lib.hid hx
    have HBW := Lib.hid hbw
    have hle := hr.le
    clear hr hx hbw
    by_cases hlt : i < len1
    · skip
      · obtain ⟨bb, off, rfl, hbn, hrg⟩ := HF.out.at_ (by omega)
        have hrg := hrg i hlt
        have hk := HF.out.lt i hlt
        obtain ⟨x, hx⟩ : ∃ x, x = f i := ⟨_, rfl⟩
        rw [← hx] at hrg hk
        have hrl : wr.rangeAt bb (off + i * 3) x.cs := fun j v hv => (HBW.out.cell (p := ⟨bb, off + i * 3 + j, none⟩) hbn).trans (hrg j v hv)
        obtain ⟨V, hV⟩ : ∃ V, Int.tmod x.V 1000 = V := ⟨_, rfl⟩
        have hV0 := (tmod_1000 x.V).1
        have hV1 := (tmod_1000 x.V).2
        rw [hV] at hV0 hV1
        clear hx hrg hbn
        go_upto_region 11 with (first | ((with_reducible show wpList _ _ _ (_ :: _) _ _); refine wpList_load_mid rfl 42 _ rfl _ (off + i * 3) rfl (Ak.cs x) _ hrl Try.underlying42 rfl size_ract ?_; rw [show (Ak.cs x).toArray = #[.int .u8 ((x.k : Nat) : Int), .int .i64 x.V, .int .i64 x.M] from rfl]; (try go_simp)) | ((with_reducible show wpList _ _ _ (_ :: _) _ _); refine wpList_store_row rfl 42 _ _ rfl _ _ rfl rfl _ _ (heap_alloc_new _ _) (by exact size_ract) (by rfl) (by simp [Value.oneCell']) ?_; rw [World.setRow_alloc_new]))
        have h14 := heap_alloc_new wr (.cells #[.int .u8 ((x.k : Nat) : Int), .int .i64 x.V, .int .i64 x.M] 42)
        have hb5 := (Below.refl wr.heap.size wr).alloc (Nat.le_refl _) (.cells #[.int .u8 ((x.k : Nat) : Int), .int .i64 x.V, .int .i64 x.M] 42)
        obtain ⟨w5, hw5⟩ : ∃ w5, w5 = wr.alloc (.cells #[.int .u8 ((x.k : Nat) : Int), .int .i64 x.V, .int .i64 x.M] 42) := ⟨_, rfl⟩
        obtain ⟨g14, hg14⟩ : ∃ g, g = wr.heap.size := ⟨_, rfl⟩
        by_cases h60 : 60 ≤ i
        · have HRa := Lib.hid (HR.out.below hb5 (Nat.le_refl _))
          have HXa := Lib.hid (HX.out.step hb5)
          have HBa := Lib.hid (HBW.out.trans (hb5.mono HBW.out.size))
          rw [← hw5] at HRa HXa HBa
          rw [← hw5]
          obtain ⟨wt, hwt⟩ : ∃ wt, wt = w5 := ⟨_, rfl⟩
          rw [← hwt] at HRa HXa HBa ⊢
          clear HR HX HBW h14 hb5 hw5 hg14 hwt hrl hV hk hV0 hV1
          simp only [Act.put]
          go_wp2_with fail
          skip
          clear HF hz
          have hmn : min 100000 L.length = L.length := by omega
          have hMt : L.take 100000 = L := List.take_of_length_le (by omega)
          go_at_call 31
          refine (rAll HRa.out 100000 (by omega) (by omega)).mono ?_
          rintro e wu ⟨vu, rfl, hown, hb⟩
          obtain ⟨au, cu, rfl⟩ := own_form hown
          rw [hmn, hMt] at hown
          rw [hmn]
          have HU := Lib.hid (rd_of_own (f := iv L) hown (fun i hi => il_at L hi))
          have HRb := Lib.hid (HRa.out.below hb (Nat.le_refl _))
          have HXb := Lib.hid (HXa.out.step hb)
          have HBb := Lib.hid (HBa.out.trans (hb.mono HBa.out.size))
          have hke := HKE.out
          clear hown hb HRa HXa HBa hmn hMt HKE
          go_wp2_with fail
          go_at_call 31
          refine (rAll HRb.out k hk1 (by omega)).mono ?_
          rintro e wv ⟨vv, rfl, hown, hb⟩
          obtain ⟨av, cv, rfl⟩ := own_form hown
          obtain ⟨m, hm⟩ : ∃ m, m = min k L.length := ⟨_, rfl⟩
          rw [← hm] at hown ⊢
          obtain ⟨Fw, hFw⟩ : ∃ Fw, Fw = L.take k := ⟨_, rfl⟩
          rw [← hFw] at hown
          have hFl : Fw.length = m := by rw [hFw, List.length_take, hm]
          have HFL := Lib.hid hFl
          have hFE : Fw = L.take m := by
            rcases Nat.le_total k L.length with h | h
            · rw [hFw, hm, Nat.min_eq_left h]
            · rw [hFw, hm, Nat.min_eq_right h, List.take_of_length_le h, List.take_of_length_le (Nat.le_refl _)]
          have HFE := Lib.hid hFE
          have HM := Lib.hid hm
          have hml : m ≤ L.length := by omega
          have HV := Lib.hid (rd_of_own (f := iv Fw) hown (fun i hi => il_at Fw (by rw [hFl]; exact hi)))
          have HUv := Lib.hid (HU.out.below hb)
          have HRc := Lib.hid (HRb.out.below hb (Nat.le_refl _))
          have HXc := Lib.hid (HXb.out.step hb)
          have HBc := Lib.hid (HBb.out.trans (hb.mono HBb.out.size))
          have hmn : ∀ w : World, (Builtin.min_ #[3, 3] 3 #[.int .i64 (k : Nat), .int .i64 (L.length : Nat)]).run Try.prog w = .ok (.int .i64 (m : Nat)) w := fun w => by
            rw [run_min2, hm]; congr 2; omega
          clear hown hb HRb HXb HBb hke hm hFl hFw HU hFE
          by_cases hin : 0 ≤ at_ ∧ at_ < (L.length : Int)
          · obtain ⟨p, rfl⟩ := Int.eq_ofNat_of_zero_le hin.1
            have hpl : p < L.length := by omega
            go_wp2_with fail
            go_at_call 32
            refine (rAt_some HRc.out p hpl).mono ?_
            rintro e w' ⟨rfl, j, rfl⟩
            have HRd := Lib.hid (HRc.out.below (below_drewsI _ wv j) (Nat.le_refl _))
            have HXd := Lib.hid (HXc.out.step (below_drewsI _ wv j))
            have HBd := Lib.hid (HBc.out.trans (below_drewsI _ wv j))
            have HUd := Lib.hid (HUv.out.below (below_drewsI _ wv j))
            have HVd := Lib.hid (HV.out.below (below_drewsI _ wv j))
            skip
            obtain ⟨wd, hwd⟩ : ∃ wd, wd = wv.drewN j := ⟨_, rfl⟩
            rw [← hwd] at HRd HXd HBd HUd HVd ⊢
            clear hwd HRc HXc HBc HUv HV
            have c0 : wd.cell? ⟨gx, 0, none⟩ = some (.slice a' L.length cap') := cell_of_row _ _ 0 _ _ _ HXd.out.head
            have hle7 := HXd.out.cut.rd.le
            have htop7 := HXd.out.cut.rd.top
            unfold maxLen at htop7
            have hmc : m ≤ cap' := by omega
            have hsl : ∀ w : World, (Instr.slice 38 (.slice a' L.length cap') none (some (.int .i64 (m : Nat))) none).run Try.prog w = .ok (.slice a' m cap') w := by
              intro w
              rw [run_slice_h w 38 a' L.length cap' (by kernel_rfl) .i64 _ (by omega) (by omega)]
              have hz : (sizeOf (Try.prog.elem 38)).run Try.prog w = .ok 1 w := by kernel_rfl
              rw [hz]
              simp [sliced, Result.andThen]
              cases a' <;> simp [Addr.add]
            have HS1 := Lib.hid (show ∀ j, Calls Try.prog 26 #[.slice au L.length cu, .slice a' L.length cap'] (wd.drewN j) (fun e w' => e = .returned (.bool true) ∧ ∃ m, w' = (wd.drewN j).drewN m) from fun j => (SameI_any au a' L.length L.length cu cap' _ _ L L (wd.drewN j) rfl rfl (HUd.out.below (below_drewsI _ _ _)) (HXd.out.cut.rd.below (below_drewsI _ _ _))).mono (fun e w' ⟨he, hj⟩ => ⟨by rw [he]; simp, hj⟩))
            have HS2 := Lib.hid (show ∀ j, Calls Try.prog 26 #[.slice av m cv, .slice a' m cap'] (wd.drewN j) (fun e w' => e = .returned (.bool true) ∧ ∃ m, w' = (wd.drewN j).drewN m) from fun j => (SameI_any av a' m m cv cap' _ _ Fw (L.take m) (wd.drewN j) HFL.out (by rw [List.length_take]; omega) (HVd.out.below (below_drewsI _ _ _)) (((HXd.out.cut.rd.first hml).same (fun i hi => by unfold iv; simp [List.getD, hi])).below (below_drewsI _ _ _))).mono (fun e w' ⟨he, hj⟩ => ⟨by rw [he, HFE.out]; simp, hj⟩))
            obtain ⟨bx, ox, ea, _, hcx⟩ := HXd.out.cut.rd.at (k := p) hpl
            unfold iv at hcx
            obtain ⟨y, hy⟩ : ∃ y, y = L.getD p 0 := ⟨_, rfl⟩
            rw [← hy] at hcx ⊢
            have hix : ∀ w : World, (Instr.indexAt 38 (.slice a' L.length cap') (.int .i64 ((p : Nat) : Int))).run Try.prog w = .ok (.pointer (some ⟨bx, ox + p, none⟩)) w := by
              intro w
              subst ea
              have hin2 : (p : Int) < (L.length : Int) := hin.2
              go_simp
            clear hy wa hin ea
            go_upto_region 23 with fail
            go_quiet ((first | (go_at_call 26; with_reducible exact Calls.quiet_of (HS1.out _)) | (go_at_call 26; with_reducible exact Calls.quiet_of (HS2.out _))))
            all_goals
              go_wp2
              go_ret
              exact ⟨rfl, HBd.out.trans (below_drewsI _ wd _)⟩
          · by_cases h0 : at_ < 0
            · skip
              go_wp2_with fail
              go_at_call 32
              refine (rAt_none HRc.out at_ hin).mono ?_
              rintro e w' ⟨rfl, j, rfl⟩
              have HRd := Lib.hid (HRc.out.below (below_drewsI _ wv j) (Nat.le_refl _))
              have HXd := Lib.hid (HXc.out.step (below_drewsI _ wv j))
              have HBd := Lib.hid (HBc.out.trans (below_drewsI _ wv j))
              have HUd := Lib.hid (HUv.out.below (below_drewsI _ wv j))
              have HVd := Lib.hid (HV.out.below (below_drewsI _ wv j))
              skip
              obtain ⟨wd, hwd⟩ : ∃ wd, wd = wv.drewN j := ⟨_, rfl⟩
              rw [← hwd] at HRd HXd HBd HUd HVd ⊢
              clear hwd HRc HXc HBc HUv HV
              have c0 : wd.cell? ⟨gx, 0, none⟩ = some (.slice a' L.length cap') := cell_of_row _ _ 0 _ _ _ HXd.out.head
              have hle7 := HXd.out.cut.rd.le
              have htop7 := HXd.out.cut.rd.top
              unfold maxLen at htop7
              have hmc : m ≤ cap' := by omega
              have hsl : ∀ w : World, (Instr.slice 38 (.slice a' L.length cap') none (some (.int .i64 (m : Nat))) none).run Try.prog w = .ok (.slice a' m cap') w := by
                intro w
                rw [run_slice_h w 38 a' L.length cap' (by kernel_rfl) .i64 _ (by omega) (by omega)]
                have hz : (sizeOf (Try.prog.elem 38)).run Try.prog w = .ok 1 w := by kernel_rfl
                rw [hz]
                simp [sliced, Result.andThen]
                cases a' <;> simp [Addr.add]
              have HS1 := Lib.hid (show ∀ j, Calls Try.prog 26 #[.slice au L.length cu, .slice a' L.length cap'] (wd.drewN j) (fun e w' => e = .returned (.bool true) ∧ ∃ m, w' = (wd.drewN j).drewN m) from fun j => (SameI_any au a' L.length L.length cu cap' _ _ L L (wd.drewN j) rfl rfl (HUd.out.below (below_drewsI _ _ _)) (HXd.out.cut.rd.below (below_drewsI _ _ _))).mono (fun e w' ⟨he, hj⟩ => ⟨by rw [he]; simp, hj⟩))
              have HS2 := Lib.hid (show ∀ j, Calls Try.prog 26 #[.slice av m cv, .slice a' m cap'] (wd.drewN j) (fun e w' => e = .returned (.bool true) ∧ ∃ m, w' = (wd.drewN j).drewN m) from fun j => (SameI_any av a' m m cv cap' _ _ Fw (L.take m) (wd.drewN j) HFL.out (by rw [List.length_take]; omega) (HVd.out.below (below_drewsI _ _ _)) (((HXd.out.cut.rd.first hml).same (fun i hi => by unfold iv; simp [List.getD, hi])).below (below_drewsI _ _ _))).mono (fun e w' ⟨he, hj⟩ => ⟨by rw [he, HFE.out]; simp, hj⟩))
              go_upto_region 23 with fail
              go_quiet ((first | (go_at_call 26; with_reducible exact Calls.quiet_of (HS1.out _)) | (go_at_call 26; with_reducible exact Calls.quiet_of (HS2.out _))))
              all_goals
                go_wp2
                go_ret
                exact ⟨rfl, HBd.out.trans (below_drewsI _ wd _)⟩
            · have h1 : ¬ at_ < (L.length : Int) := by omega
              have h2 : decide (at_ < (L.length : Int)) = false := by rw [decide_eq_false_iff_not]; exact h1
              skip
              go_wp2_with fail
              go_at_call 32
              refine (rAt_none HRc.out at_ hin).mono ?_
              rintro e w' ⟨rfl, j, rfl⟩
              have HRd := Lib.hid (HRc.out.below (below_drewsI _ wv j) (Nat.le_refl _))
              have HXd := Lib.hid (HXc.out.step (below_drewsI _ wv j))
              have HBd := Lib.hid (HBc.out.trans (below_drewsI _ wv j))
              have HUd := Lib.hid (HUv.out.below (below_drewsI _ wv j))
              have HVd := Lib.hid (HV.out.below (below_drewsI _ wv j))
              skip
              obtain ⟨wd, hwd⟩ : ∃ wd, wd = wv.drewN j := ⟨_, rfl⟩
              rw [← hwd] at HRd HXd HBd HUd HVd ⊢
              clear hwd HRc HXc HBc HUv HV
              have c0 : wd.cell? ⟨gx, 0, none⟩ = some (.slice a' L.length cap') := cell_of_row _ _ 0 _ _ _ HXd.out.head
              have hle7 := HXd.out.cut.rd.le
              have htop7 := HXd.out.cut.rd.top
              unfold maxLen at htop7
              have hmc : m ≤ cap' := by omega
              have hsl : ∀ w : World, (Instr.slice 38 (.slice a' L.length cap') none (some (.int .i64 (m : Nat))) none).run Try.prog w = .ok (.slice a' m cap') w := by
                intro w
                rw [run_slice_h w 38 a' L.length cap' (by kernel_rfl) .i64 _ (by omega) (by omega)]
                have hz : (sizeOf (Try.prog.elem 38)).run Try.prog w = .ok 1 w := by kernel_rfl
                rw [hz]
                simp [sliced, Result.andThen]
                cases a' <;> simp [Addr.add]
              have HS1 := Lib.hid (show ∀ j, Calls Try.prog 26 #[.slice au L.length cu, .slice a' L.length cap'] (wd.drewN j) (fun e w' => e = .returned (.bool true) ∧ ∃ m, w' = (wd.drewN j).drewN m) from fun j => (SameI_any au a' L.length L.length cu cap' _ _ L L (wd.drewN j) rfl rfl (HUd.out.below (below_drewsI _ _ _)) (HXd.out.cut.rd.below (below_drewsI _ _ _))).mono (fun e w' ⟨he, hj⟩ => ⟨by rw [he]; simp, hj⟩))
              have HS2 := Lib.hid (show ∀ j, Calls Try.prog 26 #[.slice av m cv, .slice a' m cap'] (wd.drewN j) (fun e w' => e = .returned (.bool true) ∧ ∃ m, w' = (wd.drewN j).drewN m) from fun j => (SameI_any av a' m m cv cap' _ _ Fw (L.take m) (wd.drewN j) HFL.out (by rw [List.length_take]; omega) (HVd.out.below (below_drewsI _ _ _)) (((HXd.out.cut.rd.first hml).same (fun i hi => by unfold iv; simp [List.getD, hi])).below (below_drewsI _ _ _))).mono (fun e w' ⟨he, hj⟩ => ⟨by rw [he, HFE.out]; simp, hj⟩))
              go_upto_region 23 with fail
              go_quiet ((first | (go_at_call 26; with_reducible exact Calls.quiet_of (HS1.out _)) | (go_at_call 26; with_reducible exact Calls.quiet_of (HS2.out _))))
              all_goals
                go_wp2
                go_ret
                exact ⟨rfl, HBd.out.trans (below_drewsI _ wd _)⟩
        have HX5 := Lib.hid (HX.out.step (hb5.setCell (p := ⟨wr.heap.size, 1, none⟩) (Nat.le_refl _) (.int .i64 V)))
        have HR5 := Lib.hid (HR.out.below (hb5.setCell (p := ⟨wr.heap.size, 1, none⟩) (Nat.le_refl _) (.int .i64 V)) (Nat.le_refl _))
        have HB5 := Lib.hid (HBW.out.trans ((hb5.setCell (p := ⟨wr.heap.size, 1, none⟩) (Nat.le_refl _) (.int .i64 V)).mono HBW.out.size))
        have HA5 := Lib.hid (heap_setCell_same _ wr.heap.size 1 _ _ (.int .i64 V) h14)
        have hap : ∀ p, a' = some p → 0 < cap' → p.block ≠ g14 := fun p hp hc => by
          obtain ⟨b1, o1, e1, _, h2, _⟩ := HX.out.cut.sp hc
          rw [hp] at e1
          cases e1
          show b1 ≠ g14
          omega
        have hgx14 : gx < g14 := by rw [hg14]; exact box_lt HX.out.head
        have hBw : B ≤ (w5.setCell ⟨g14, 1, none⟩ (.int .i64 V)).heap.size := by have := box_lt HX.out.head; rw [hw5]; simp [HBE.out]; omega
        rw [← hw5, ← hg14] at HX5 HR5 HB5 HA5
        rw [← hw5, ← hg14]
        rw [← hw5, ← hg14] at h14
        have k1 : w5.cell? ⟨g14, 1, none⟩ = some (.int .i64 x.V) := cell_of_row _ _ 1 _ _ _ h14
        have f1 : w5.frozen? ⟨g14, 1, none⟩ = false := frozen_of_row _ _ 1 _ _ h14
        have hap2 := Lib.hid hap
        have hi60 : i < 60 := by omega
        clear hb5 hw5 hg14 h14 hrl HX HR HBW hap h60
        simp only [Act.put]
        go_upto_region 13 with fail
        obtain ⟨w6, hw6⟩ : ∃ w6, w6 = w5.setCell ⟨g14, 1, none⟩ (.int .i64 V) := ⟨_, rfl⟩
        rw [← hw6] at HX5 HR5 HB5 HA5 hBw ⊢
        clear hw6 k1 f1 hV
        have HD := D_any x.k V x.M HX5.out hn1 hn9 hle.1 hle.2.2.2.1 hle.2.2.2.2.1 hV0 hV1 hk hBw
        have HP := fun (w : World) (h : Ring w g b n L lo d) => P_any x.k V x.M h hV0 hV1 hk
        have hok := ringM_ok (k := x.k) (V := V) (M := x.M) hle.1 hle.2.2.2.1 hle.2.2.2.2.1
        obtain ⟨R, hR⟩ : ∃ R, ringM n x.k V x.M L lo d = R := ⟨_, rfl⟩
        rw [hR] at HD hok
        simp only [hR] at HP
        clear hR
        obtain ⟨L', lo', d', rt, out⟩ := R
        simp only [RA.Ok] at HD hok HP
        have HD2 := Lib.hid HD
        have HP2 := Lib.hid HP
        have hx6 := HA5.out
        clear HD HP hk hV0 hV1
        go_wp2_with ((with_reducible show wpList _ _ _ (_ :: _) _ _); refine wpList_load_row rfl 42 _ rfl _ rfl _ _ _ _ hx6 Try.underlying42 rfl (by exact size_ract) ?_; (try go_simp))
        refine (HD2.out).mono ?_
        rintro e w7 ⟨vo, co, a7, cap7, rfl, hx7, hc7, hbk⟩
        have HX7 := Lib.hid hx7
        have HC7 := Lib.hid hc7
        have HR7 := Lib.hid (HR5.out.low hbk.be hgw hbw)
        have HB7 := Lib.hid (HB5.out.trans (hbk.be.mono hwg))
        have hx7 := (hbk.ke g14 (box_lt hx6) (by omega) (fun hc p hp => hap2.out p hp hc)).trans hx6
        clear hbk hc7 HX5 HR5 HB5 HA5 hx6 hap2 HD2
        go_wp2_with ((with_reducible show wpList _ _ _ (_ :: _) _ _); refine wpList_load_row rfl 42 _ rfl _ rfl _ _ _ _ hx7 Try.underlying42 rfl (by exact size_ract) ?_; (try go_simp))
        refine (HP2.out _ HR7.out).mono ?_
        rintro e w8 ⟨v8, rfl, hown, hr8, hk8⟩
        obtain ⟨a8, c8, rfl⟩ := own_form hown
        have HX8 := Lib.hid (HX7.out.kept hk8 hgw hbw)
        have HR8 := Lib.hid hr8
        have HB8 := Lib.hid (HB7.out.trans (hk8.below (B := w.heap.size) hwgb.1 hwgb.2 HB7.out.size))
        have hrA := rd_of_own (f := iv out) hown (fun i hi => il_at out hi)
        have hrB := (HC7.out.kept hk8 hgB.1 hgB.2.1).rd
        have HS := Lib.hid (show ∀ j, Calls Try.prog 26 #[.slice a8 out.length c8, .slice vo out.length co] (w8.drewN j) (fun e w' => e = .returned (.bool true) ∧ ∃ m, w' = (w8.drewN j).drewN m) from fun j => (SameI_any a8 vo out.length out.length c8 co _ _ out out (w8.drewN j) rfl rfl (hrA.below (below_drewsI _ _ _)) (hrB.below (below_drewsI _ _ _))).mono (fun e w' ⟨he, hj⟩ => ⟨by rw [he]; simp, hj⟩))
        have hrd : ∀ j, Ring (w8.drewN j) g b n L' lo' d' := fun j => hr8.below (below_drewsI _ _ _) (Nat.le_refl _)
        have h0 : ((n - L'.length : Nat) : Int) = (n : Int) - (L'.length : Int) := by have := hok.1; omega
        have HRo := Lib.hid (show ∀ j, Calls Try.prog 28 #[.pointer (some ⟨g, 0, none⟩)] (w8.drewN j) (fun e w' => e = .returned (.int .i64 ((n : Int) - (L'.length : Int))) ∧ ∃ m, w' = (w8.drewN j).drewN m) from fun j => by rw [← h0]; exact rRoom (hrd j))
        have HRD := Lib.hid hrd
        have l7 := hok.1
        have l8 := hok.2.1
        have l9 := hok.2.2
        have hle7 := HX8.out.cut.rd.le
        have htop7 := HX8.out.cut.rd.top
        unfold maxLen at htop7
        have c0 : w8.cell? ⟨gx, 0, none⟩ = some (.slice a7 L'.length cap7) := cell_of_row _ _ 0 _ _ _ HX8.out.head
        have c2 : w8.cell? ⟨gx, 2, none⟩ = some (.int .i64 ((lo' : Nat) : Int)) := cell_of_row _ _ 2 _ _ _ HX8.out.head
        have c3 : w8.cell? ⟨gx, 3, none⟩ = some (.int .i64 ((d' : Nat) : Int)) := cell_of_row _ _ 3 _ _ _ HX8.out.head
        clear hown hr8 hk8 hrA hrB hrd h0 hx7 HX7 HC7 HR7 HB7 HP2
        go_upto_region 15 with fail
        go_quiet ((first | (go_at_call 26; exact Calls.quiet_of (HS.out _)) | (go_at_call 27; exact Calls.quiet_eq2 (rLen (HRD.out _))) | (go_at_call 28; exact Calls.quiet_of (HRo.out _)) | (go_at_call 29; exact Calls.quiet_eq2 (rLost (HRD.out _))) | (go_at_call 30; exact Calls.quiet_eq2 (rDropped (HRD.out _)))))
        have HX9 := Lib.hid (HX8.out.step (below_drewsI _ w8 nq))
        have HR9 := Lib.hid (HRD.out nq)
        have HB9 := Lib.hid (HB8.out.trans (below_drewsI _ w8 nq))
        obtain ⟨w9, hw9⟩ : ∃ w9, w9 = w8.drewN nq := ⟨_, rfl⟩
        rw [← hw9] at HX9 HR9 HB9 ⊢
        clear hw9 HX8 HR8 HB8 HRD HRo HS c0 c2 c3 l7 l8 l9 hle7 htop7
        go_wp2_with fail
        go_roundw
        case rel => exact ⟨i + 1, L', lo', d', a7, cap7, by omega, by go_num, HR9.out, HX9.out, HB9.out⟩
        case measure => simp [intOf]; omega
    · obtain rfl : i = len1 := by omega
      have HRa := HR
      have HXa := HX
      have HBa := HBW
      obtain ⟨wt, rfl⟩ : ∃ wt : World, wt = wr := ⟨_, rfl⟩
      clear HR HX HBW
      go_wp2_with fail
      skip
      clear HF hz
      have hmn : min 100000 L.length = L.length := by omega
      have hMt : L.take 100000 = L := List.take_of_length_le (by omega)
      go_at_call 31
      refine (rAll HRa.out 100000 (by omega) (by omega)).mono ?_
      rintro e wu ⟨vu, rfl, hown, hb⟩
      obtain ⟨au, cu, rfl⟩ := own_form hown
      rw [hmn, hMt] at hown
      rw [hmn]
      have HU := Lib.hid (rd_of_own (f := iv L) hown (fun i hi => il_at L hi))
      have HRb := Lib.hid (HRa.out.below hb (Nat.le_refl _))
      have HXb := Lib.hid (HXa.out.step hb)
      have HBb := Lib.hid (HBa.out.trans (hb.mono HBa.out.size))
      have hke := HKE.out
      clear hown hb HRa HXa HBa hmn hMt HKE
      go_wp2_with fail
      go_at_call 31
      refine (rAll HRb.out k hk1 (by omega)).mono ?_
      rintro e wv ⟨vv, rfl, hown, hb⟩
      obtain ⟨av, cv, rfl⟩ := own_form hown
      obtain ⟨m, hm⟩ : ∃ m, m = min k L.length := ⟨_, rfl⟩
      rw [← hm] at hown ⊢
      obtain ⟨Fw, hFw⟩ : ∃ Fw, Fw = L.take k := ⟨_, rfl⟩
      rw [← hFw] at hown
      have hFl : Fw.length = m := by rw [hFw, List.length_take, hm]
      have HFL := Lib.hid hFl
      have hFE : Fw = L.take m := by
        rcases Nat.le_total k L.length with h | h
        · rw [hFw, hm, Nat.min_eq_left h]
        · rw [hFw, hm, Nat.min_eq_right h, List.take_of_length_le h, List.take_of_length_le (Nat.le_refl _)]
      have HFE := Lib.hid hFE
      have HM := Lib.hid hm
      have hml : m ≤ L.length := by omega
      have HV := Lib.hid (rd_of_own (f := iv Fw) hown (fun i hi => il_at Fw (by rw [hFl]; exact hi)))
      have HUv := Lib.hid (HU.out.below hb)
      have HRc := Lib.hid (HRb.out.below hb (Nat.le_refl _))
      have HXc := Lib.hid (HXb.out.step hb)
      have HBc := Lib.hid (HBb.out.trans (hb.mono HBb.out.size))
      have hmn : ∀ w : World, (Builtin.min_ #[3, 3] 3 #[.int .i64 (k : Nat), .int .i64 (L.length : Nat)]).run Try.prog w = .ok (.int .i64 (m : Nat)) w := fun w => by
        rw [run_min2, hm]; congr 2; omega
      clear hown hb HRb HXb HBb hke hm hFl hFw HU hFE
      by_cases hin : 0 ≤ at_ ∧ at_ < (L.length : Int)
      · obtain ⟨p, rfl⟩ := Int.eq_ofNat_of_zero_le hin.1
        have hpl : p < L.length := by omega
        go_wp2_with fail
        go_at_call 32
        refine (rAt_some HRc.out p hpl).mono ?_
        rintro e w' ⟨rfl, j, rfl⟩
        have HRd := Lib.hid (HRc.out.below (below_drewsI _ wv j) (Nat.le_refl _))
        have HXd := Lib.hid (HXc.out.step (below_drewsI _ wv j))
        have HBd := Lib.hid (HBc.out.trans (below_drewsI _ wv j))
        have HUd := Lib.hid (HUv.out.below (below_drewsI _ wv j))
        have HVd := Lib.hid (HV.out.below (below_drewsI _ wv j))
        skip
        obtain ⟨wd, hwd⟩ : ∃ wd, wd = wv.drewN j := ⟨_, rfl⟩
        rw [← hwd] at HRd HXd HBd HUd HVd ⊢
        clear hwd HRc HXc HBc HUv HV
        have c0 : wd.cell? ⟨gx, 0, none⟩ = some (.slice a' L.length cap') := cell_of_row _ _ 0 _ _ _ HXd.out.head
        have hle7 := HXd.out.cut.rd.le
        have htop7 := HXd.out.cut.rd.top
        unfold maxLen at htop7
        have hmc : m ≤ cap' := by omega
        have hsl : ∀ w : World, (Instr.slice 38 (.slice a' L.length cap') none (some (.int .i64 (m : Nat))) none).run Try.prog w = .ok (.slice a' m cap') w := by
          intro w
          rw [run_slice_h w 38 a' L.length cap' (by kernel_rfl) .i64 _ (by omega) (by omega)]
          have hz : (sizeOf (Try.prog.elem 38)).run Try.prog w = .ok 1 w := by kernel_rfl
          rw [hz]
          simp [sliced, Result.andThen]
          cases a' <;> simp [Addr.add]
        have HS1 := Lib.hid (show ∀ j, Calls Try.prog 26 #[.slice au L.length cu, .slice a' L.length cap'] (wd.drewN j) (fun e w' => e = .returned (.bool true) ∧ ∃ m, w' = (wd.drewN j).drewN m) from fun j => (SameI_any au a' L.length L.length cu cap' _ _ L L (wd.drewN j) rfl rfl (HUd.out.below (below_drewsI _ _ _)) (HXd.out.cut.rd.below (below_drewsI _ _ _))).mono (fun e w' ⟨he, hj⟩ => ⟨by rw [he]; simp, hj⟩))
        have HS2 := Lib.hid (show ∀ j, Calls Try.prog 26 #[.slice av m cv, .slice a' m cap'] (wd.drewN j) (fun e w' => e = .returned (.bool true) ∧ ∃ m, w' = (wd.drewN j).drewN m) from fun j => (SameI_any av a' m m cv cap' _ _ Fw (L.take m) (wd.drewN j) HFL.out (by rw [List.length_take]; omega) (HVd.out.below (below_drewsI _ _ _)) (((HXd.out.cut.rd.first hml).same (fun i hi => by unfold iv; simp [List.getD, hi])).below (below_drewsI _ _ _))).mono (fun e w' ⟨he, hj⟩ => ⟨by rw [he, HFE.out]; simp, hj⟩))
        obtain ⟨bx, ox, ea, _, hcx⟩ := HXd.out.cut.rd.at (k := p) hpl
        unfold iv at hcx
        obtain ⟨y, hy⟩ : ∃ y, y = L.getD p 0 := ⟨_, rfl⟩
        rw [← hy] at hcx ⊢
        have hix : ∀ w : World, (Instr.indexAt 38 (.slice a' L.length cap') (.int .i64 ((p : Nat) : Int))).run Try.prog w = .ok (.pointer (some ⟨bx, ox + p, none⟩)) w := by
          intro w
          subst ea
          have hin2 : (p : Int) < (L.length : Int) := hin.2
          go_simp
        clear hy wa hin ea
        go_upto_region 23 with fail
        go_quiet ((first | (go_at_call 26; with_reducible exact Calls.quiet_of (HS1.out _)) | (go_at_call 26; with_reducible exact Calls.quiet_of (HS2.out _))))
        all_goals
          go_wp2
          go_ret
          exact ⟨rfl, HBd.out.trans (below_drewsI _ wd _)⟩
      · by_cases h0 : at_ < 0
        · skip
          go_wp2_with fail
          go_at_call 32
          refine (rAt_none HRc.out at_ hin).mono ?_
          rintro e w' ⟨rfl, j, rfl⟩
          have HRd := Lib.hid (HRc.out.below (below_drewsI _ wv j) (Nat.le_refl _))
          have HXd := Lib.hid (HXc.out.step (below_drewsI _ wv j))
          have HBd := Lib.hid (HBc.out.trans (below_drewsI _ wv j))
          have HUd := Lib.hid (HUv.out.below (below_drewsI _ wv j))
          have HVd := Lib.hid (HV.out.below (below_drewsI _ wv j))
          skip
          obtain ⟨wd, hwd⟩ : ∃ wd, wd = wv.drewN j := ⟨_, rfl⟩
          rw [← hwd] at HRd HXd HBd HUd HVd ⊢
          clear hwd HRc HXc HBc HUv HV
          have c0 : wd.cell? ⟨gx, 0, none⟩ = some (.slice a' L.length cap') := cell_of_row _ _ 0 _ _ _ HXd.out.head
          have hle7 := HXd.out.cut.rd.le
          have htop7 := HXd.out.cut.rd.top
          unfold maxLen at htop7
          have hmc : m ≤ cap' := by omega
          have hsl : ∀ w : World, (Instr.slice 38 (.slice a' L.length cap') none (some (.int .i64 (m : Nat))) none).run Try.prog w = .ok (.slice a' m cap') w := by
            intro w
            rw [run_slice_h w 38 a' L.length cap' (by kernel_rfl) .i64 _ (by omega) (by omega)]
            have hz : (sizeOf (Try.prog.elem 38)).run Try.prog w = .ok 1 w := by kernel_rfl
            rw [hz]
            simp [sliced, Result.andThen]
            cases a' <;> simp [Addr.add]
          have HS1 := Lib.hid (show ∀ j, Calls Try.prog 26 #[.slice au L.length cu, .slice a' L.length cap'] (wd.drewN j) (fun e w' => e = .returned (.bool true) ∧ ∃ m, w' = (wd.drewN j).drewN m) from fun j => (SameI_any au a' L.length L.length cu cap' _ _ L L (wd.drewN j) rfl rfl (HUd.out.below (below_drewsI _ _ _)) (HXd.out.cut.rd.below (below_drewsI _ _ _))).mono (fun e w' ⟨he, hj⟩ => ⟨by rw [he]; simp, hj⟩))
          have HS2 := Lib.hid (show ∀ j, Calls Try.prog 26 #[.slice av m cv, .slice a' m cap'] (wd.drewN j) (fun e w' => e = .returned (.bool true) ∧ ∃ m, w' = (wd.drewN j).drewN m) from fun j => (SameI_any av a' m m cv cap' _ _ Fw (L.take m) (wd.drewN j) HFL.out (by rw [List.length_take]; omega) (HVd.out.below (below_drewsI _ _ _)) (((HXd.out.cut.rd.first hml).same (fun i hi => by unfold iv; simp [List.getD, hi])).below (below_drewsI _ _ _))).mono (fun e w' ⟨he, hj⟩ => ⟨by rw [he, HFE.out]; simp, hj⟩))
          go_upto_region 23 with fail
          go_quiet ((first | (go_at_call 26; with_reducible exact Calls.quiet_of (HS1.out _)) | (go_at_call 26; with_reducible exact Calls.quiet_of (HS2.out _))))
          all_goals
            go_wp2
            go_ret
            exact ⟨rfl, HBd.out.trans (below_drewsI _ wd _)⟩
        · have h1 : ¬ at_ < (L.length : Int) := by omega
          have h2 : decide (at_ < (L.length : Int)) = false := by rw [decide_eq_false_iff_not]; exact h1
          skip
          go_wp2_with fail
          go_at_call 32
          refine (rAt_none HRc.out at_ hin).mono ?_
          rintro e w' ⟨rfl, j, rfl⟩
          have HRd := Lib.hid (HRc.out.below (below_drewsI _ wv j) (Nat.le_refl _))
          have HXd := Lib.hid (HXc.out.step (below_drewsI _ wv j))
          have HBd := Lib.hid (HBc.out.trans (below_drewsI _ wv j))
          have HUd := Lib.hid (HUv.out.below (below_drewsI _ wv j))
          have HVd := Lib.hid (HV.out.below (below_drewsI _ wv j))
          skip
          obtain ⟨wd, hwd⟩ : ∃ wd, wd = wv.drewN j := ⟨_, rfl⟩
          rw [← hwd] at HRd HXd HBd HUd HVd ⊢
          clear hwd HRc HXc HBc HUv HV
          have c0 : wd.cell? ⟨gx, 0, none⟩ = some (.slice a' L.length cap') := cell_of_row _ _ 0 _ _ _ HXd.out.head
          have hle7 := HXd.out.cut.rd.le
          have htop7 := HXd.out.cut.rd.top
          unfold maxLen at htop7
          have hmc : m ≤ cap' := by omega
          have hsl : ∀ w : World, (Instr.slice 38 (.slice a' L.length cap') none (some (.int .i64 (m : Nat))) none).run Try.prog w = .ok (.slice a' m cap') w := by
            intro w
            rw [run_slice_h w 38 a' L.length cap' (by kernel_rfl) .i64 _ (by omega) (by omega)]
            have hz : (sizeOf (Try.prog.elem 38)).run Try.prog w = .ok 1 w := by kernel_rfl
            rw [hz]
            simp [sliced, Result.andThen]
            cases a' <;> simp [Addr.add]
          have HS1 := Lib.hid (show ∀ j, Calls Try.prog 26 #[.slice au L.length cu, .slice a' L.length cap'] (wd.drewN j) (fun e w' => e = .returned (.bool true) ∧ ∃ m, w' = (wd.drewN j).drewN m) from fun j => (SameI_any au a' L.length L.length cu cap' _ _ L L (wd.drewN j) rfl rfl (HUd.out.below (below_drewsI _ _ _)) (HXd.out.cut.rd.below (below_drewsI _ _ _))).mono (fun e w' ⟨he, hj⟩ => ⟨by rw [he]; simp, hj⟩))
          have HS2 := Lib.hid (show ∀ j, Calls Try.prog 26 #[.slice av m cv, .slice a' m cap'] (wd.drewN j) (fun e w' => e = .returned (.bool true) ∧ ∃ m, w' = (wd.drewN j).drewN m) from fun j => (SameI_any av a' m m cv cap' _ _ Fw (L.take m) (wd.drewN j) HFL.out (by rw [List.length_take]; omega) (HVd.out.below (below_drewsI _ _ _)) (((HXd.out.cut.rd.first hml).same (fun i hi => by unfold iv; simp [List.getD, hi])).below (below_drewsI _ _ _))).mono (fun e w' ⟨he, hj⟩ => ⟨by rw [he, HFE.out]; simp, hj⟩))
          go_upto_region 23 with fail
          go_quiet ((first | (go_at_call 26; with_reducible exact Calls.quiet_of (HS1.out _)) | (go_at_call 26; with_reducible exact Calls.quiet_of (HS2.out _))))
          all_goals
            go_wp2
            go_ret
            exact ⟨rfl, HBd.out.trans (below_drewsI _ wd _)⟩
end Go.Proofs.Ytnjkpamjjdkmoaa
