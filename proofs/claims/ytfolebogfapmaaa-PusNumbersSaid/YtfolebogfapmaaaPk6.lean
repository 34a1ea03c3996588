/- Space packets that lie behind one another. -/
import Derived.Test.YtfolebogfapmaaaPk2
import Derived.Test.YtfolebogfapmaaaKeep
namespace Go.Proofs.Ytfolebogfapmaaa
open Go.RowKit Go.Own
set_option linter.unusedVariables false
set_option linter.unusedSimpArgs false

theorem slice8_upto (a : Option Addr) (len cap k : Nat) (hk : k ≤ cap) (w : World) : (Instr.slice 23 (.slice a len cap) none (some (.int .i64 (k : Nat))) none).run Try.prog w = .ok (.slice a k cap) w := by
  rw [run_slice_h w 23 a len cap (by kernel_rfl) .i64 _ (by omega) (by omega)]
  have hz : (sizeOf (Try.prog.elem 23)).run Try.prog w = .ok 1 w := by kernel_rfl
  rw [hz]
  simp [sliced, Result.andThen]
  cases a <;> simp [Addr.add]
theorem slice8_from (a : Option Addr) (len cap k : Nat) (hk : k ≤ len) (w : World) : (Instr.slice 23 (.slice a len cap) (some (.int .i64 (k : Nat))) none none).run Try.prog w = .ok (.slice (if cap = k then a else a.map (·.add k)) (len - k) (cap - k)) w := by
  rw [run_slice_l w 23 a len cap (by kernel_rfl) .i64 _ (by omega) (by omega)]
  have hz : (sizeOf (Try.prog.elem 23)).run Try.prog w = .ok 1 w := by kernel_rfl
  rw [hz]
  simp [sliced, Result.andThen]
theorem info_row8 : (Try.prog.info? 23).map (fun i => (i.zero, i.size, i.bytes)) = some (some (.slice none 0 0), 1, 24) := by kernel_rfl
def rw8 (r : Option Addr × Nat × List Nat) : Value := .slice r.1 r.2.2.length r.2.1
/-- A row of the call's own, of rows of bytes of its own. -/
def Rows8 (base : Nat) (w : World) (v : Value) (n : Nat) (Ls : List (List Nat)) : Prop :=
  ∃ R : List (Option Addr × Nat × List Nat), R.map (·.2.2) = Ls ∧ Ls.length = n ∧ w.ownsRow base 23 1 v n (R.map rw8) ∧ ∀ r ∈ R, w.ownsRow base 5 1 (rw8 r) r.2.2.length (bl r.2.2)
theorem Rows8.nil (base : Nat) (w : World) : Rows8 base w (.slice none 0 0) 0 [] := ⟨[], rfl, rfl, World.ownsRow_nil _ _ _ _, fun r hr => by cases hr⟩
theorem Rows8.below {base k n : Nat} {w w' : World} {v : Value} {Ls : List (List Nat)} (h : Rows8 base w v n Ls) (hb : Below k w w') (hk : w.heap.size ≤ k) : Rows8 base w' v n Ls := by
  obtain ⟨R, h1, h2, h3, h4⟩ := h
  exact ⟨R, h1, h2, own_below h3 hb hk, fun r hr => own_below (h4 r hr) hb hk⟩
theorem Rows8.push {base n ck m : Nat} {w3 w4 : World} {v v' : Value} {Ls : List (List Nat)} {L : List Nat} {pk : Option Addr} {tmp : Obj} {R : List (Option Addr × Nat × List Nat)} (hm : L.length = m) (hR : R.map (·.2.2) = Ls) (hn : Ls.length = n)
    (hr : ∀ r ∈ R, w3.ownsRow base 5 1 (rw8 r) r.2.2.length (bl r.2.2)) (hout : (w3.alloc tmp).ownsRow base 23 1 v n (R.map rw8)) (hL : w3.ownsRow base 5 1 (.slice pk m ck) m (bl L))
    (ho : w4.ownsRow base 23 1 v' (n + 1) (R.map rw8 ++ [.slice pk m ck])) (hg : (w3.alloc tmp).grownBy w4 v.ownBlock) : Rows8 base w4 v' (n + 1) (Ls ++ [L]) := by
  subst hm
  have keep : ∀ {x : Value} {k : Nat} {l : List Value}, w3.ownsRow base 5 1 x k l → w4.ownsRow base 5 1 x k l := fun hx => (hx.alloc tmp).kept hg (own_apart (hx.alloc tmp) hout (by decide))
  refine ⟨R ++ [(pk, ck, L)], by simp [hR], by simp [hn], by simpa [rw8] using ho, fun r hrr => ?_⟩
  rcases List.mem_append.1 hrr with h | h
  · exact keep (hr r h)
  · obtain rfl := List.mem_singleton.1 h
    exact keep hL
theorem Rows8.rds {base n : Nat} {w : World} {v : Value} {Ls : List (List Nat)} (h : Rows8 base w v n Ls) : ∃ a c, v = .slice a n c ∧ ∃ (p : Nat → Option Addr) (q : Nat → Nat), Rd w.heap.size w a n c (fun i => .slice (p i) (Ls.getD i []).length (q i)) ∧ ∀ i, i < n → Rd w.heap.size w (p i) (Ls.getD i []).length (q i) (bv (Ls.getD i [])) := by
  obtain ⟨R, h1, h2, h3, h4⟩ := h
  obtain ⟨a, c, rfl⟩ := own_form h3
  have hlen : R.length = n := by rw [← h2, ← h1, List.length_map]
  have hget : ∀ i (hi : i < R.length), Ls.getD i [] = (R[i]).2.2 := fun i hi => by rw [← h1]; simp [List.getD, hi]
  refine ⟨a, c, rfl, fun i => (R.getD i (none, 0, [])).1, fun i => (R.getD i (none, 0, [])).2.1, rd_of_own h3 (fun i hi => ?_), fun i hi => ?_⟩
  · rw [List.getElem?_map, List.getElem?_eq_getElem (by omega : i < R.length), hget i (by omega)]
    simp [rw8, List.getD, show i < R.length by omega]
  · have hm := h4 (R[i]'(by omega)) (List.getElem_mem _)
    rw [hget i (by omega)]
    have e : R.getD i (none, 0, []) = R[i]'(by omega) := by simp [List.getD, show i < R.length by omega]
    show Rd _ _ (R.getD i (none, 0, [])).1 _ (R.getD i (none, 0, [])).2.1 _
    rw [e]
    exact rd_of_own hm (fun j hj => bl_at _ hj)
/-- How long a slice is. -/
def lenS : Value → Nat
  | .slice _ l _ => l
  | _ => 0
def SplitPost (w : World) (l : List Nat) (e : Ending) (w' : World) : Prop :=
  ∃ v s n m Ls r, e = .returned (.tuple #[v, s]) ∧ Rows8 w.heap.size w' v n Ls ∧ r.length = m ∧ w'.ownsRow w.heap.size 5 1 s m (bl r) ∧ Below w.heap.size w w' ∧ Ls.flatten ++ r = l ∧ (∀ x ∈ Ls, psize x + 7 = x.length) ∧ (m < 6 ∨ m < psize r + 7)
set_option maxRecDepth 100000 in
set_option maxHeartbeats 4000000 in
theorem pSplit_any (a : Option Addr) (len cap n : Nat) (l : List Nat) (w : World) (hl : l.length = len) (hn : n ≤ w.heap.size) (hr : Rd n w a len cap (bv l)) (hb : bytes l) (hm : len ≤ 1000000) :
    Calls Try.prog 20 #[.slice a len cap] w (SplitPost w l) := by
  obtain ⟨i0, hi, hz0, hz1, hz2⟩ := info_parts info_row8
  have HR := Lib.hid hr
  have HL := Lib.hid hl
  clear hr hl
  go_enter Try.func20, Try.ntmps20
  go_wp2
  go_loopw [0, 4] (fun p v wr => ∃ a' l' c' r k Ls, p = .slice a' l' c' ∧ r.length = l' ∧ Rd n wr a' l' c' (bv r) ∧ Rows8 w.heap.size wr v k Ls ∧ Ls.flatten ++ r = l ∧ k ≤ len ∧ l' ≤ len ∧ k + l' ≤ len ∧ (∀ x ∈ Ls, psize x + 7 = x.length) ∧ Below w.heap.size w wr) (fun p _ _ => lenS p)
  case atStart => exact ⟨a, len, cap, l, 0, [], rfl, HL.out, HR.out, Rows8.nil _ _, rfl, by omega, by omega, by omega, (fun x hx => by cases hx), Below.refl _ _⟩
  case round =>
    obtain ⟨a', l', c', r, k, Ls, rfl, hrl, hrr, hrows, hfl, hk1, hk2, hk3, hgood, hB⟩ := hrel
    have hrb : bytes r := fun b hbm => hb b (by rw [← hfl]; exact List.mem_append_right _ hbm)
    have h1 := hrr.le
    have h2 := hrr.top
    unfold maxLen at h2
    have HRL := Lib.hid hrl
    have HRR := Lib.hid hrr
    have HROWS := Lib.hid hrows
    have HFL := Lib.hid hfl
    have HGOOD := Lib.hid hgood
    have HB := Lib.hid hB
    have hns : n ≤ wr.heap.size := Nat.le_trans hn hB.size
    have hws : w.heap.size ≤ wr.heap.size := hB.size
    clear hrl hrr hrows hfl hgood hB
    by_cases h6 : l' < 6
    · go_wp2_with fail
      skip
      go_at_call 88
      refine (Clone_any a' l' c' n r _ (Nat.le_trans hn HB.out.size) HRL.out HRR.out (by omega)).mono ?_
      rintro e w5 ⟨s, rfl, hown, hb5⟩
      go_wp2
      go_ret2
      refine ⟨_, s, k, l', Ls, r, rfl, HROWS.out.below hb5 (Nat.le_refl _), HRL.out, own_base hown HB.out.size, HB.out.trans (hb5.mono HB.out.size), HFL.out, HGOOD.out, ?_⟩
      exact .inl h6
    · obtain ⟨z, hz⟩ : ∃ z, z = psize r + 7 := ⟨_, rfl⟩
      have HZ := Lib.hid hz
      have hz7 : 7 ≤ z := by omega
      clear hz
      by_cases hlt : z ≤ l'
      · have hup := fun w => slice8_upto a' l' c' z (by omega) w
        have hfr := fun w => slice8_from a' l' c' z hlt w
        go_wp2_with fail
        skip
        go_at_call 87
        refine (pstated_any a' l' c' n r _ HRL.out (by omega) HRR.out hrb).mono ?_
        rintro e w1 ⟨rfl, jw1, hww1⟩
        rw [← HZ.out]
        have hbw1 : Below wr.heap.size wr w1 := by rw [hww1]; exact below_drews _ _ _
        have HRw1 := Lib.hid (HRR.out.below' hbw1 hns)
        have HBw1 := Lib.hid (HB.out.trans (hbw1.mono HB.out.size))
        have hnw1 : n ≤ w1.heap.size := Nat.le_trans hns hbw1.size
        clear hww1
        have HROWS1 := Lib.hid (HROWS.out.below hbw1 (Nat.le_refl _))
        clear hbw1 HROWS
        go_wp2_with fail
        skip
        go_at_call 87
        refine (pstated_any a' l' c' n r _ HRL.out (by omega) HRw1.out hrb).mono ?_
        rintro e w2 ⟨rfl, jw2, hww2⟩
        rw [← HZ.out]
        have hbw2 : Below w1.heap.size w1 w2 := by rw [hww2]; exact below_drews _ _ _
        have HRw2 := Lib.hid (HRw1.out.below' hbw2 hnw1)
        have HBw2 := Lib.hid (HBw1.out.trans (hbw2.mono HBw1.out.size))
        have hnw2 : n ≤ w2.heap.size := Nat.le_trans hnw1 hbw2.size
        clear hww2
        have HROWS2 := Lib.hid (HROWS1.out.below hbw2 (Nat.le_refl _))
        clear hbw2 HROWS1
        go_wp2_with fail
        have hrt : (r.take z).length = z := by rw [List.length_take, HRL.out]; omega
        have hrr2 : Rd n w2 a' z c' (bv (r.take z)) := (HRw2.out.first hlt).same (fun i hi => by unfold bv; simp [List.getD, List.getElem?_take, hi])
        go_at_call 88
        refine (Clone_any a' z c' n (r.take z) _ hnw2 hrt hrr2 (by omega)).mono ?_
        rintro e w3 ⟨s, rfl, hown, hb3⟩
        obtain ⟨pk, ck, rfl⟩ := own_form hown
        have hown := own_base hown HBw2.out.size
        have hrows3 := HROWS2.out.below hb3 (Nat.le_refl _)
        have HB3 := Lib.hid (HBw2.out.trans (hb3.mono HBw2.out.size))
        have HR3 := Lib.hid (HRw2.out.below' hb3 hnw2)
        have hs3 : w.heap.size ≤ w3.heap.size := HB3.out.size
        obtain ⟨R, hR, hkn, hout, hrs⟩ := hrows3
        have HOWN := Lib.hid hown
        have HRT := Lib.hid hrt
        have HRs := Lib.hid hrs
        have HOUT := Lib.hid hout
        have HRR' := Lib.hid hR
        have HKN := Lib.hid hkn
        clear hown hb3 HROWS2 hrr2 hrt HRw2 HRw1 HBw1 HBw2 hrs hout hR hkn
        go_wp2_with (at_builtin; refine wpList_append_own _ rfl _ _ 25 rfl w.heap.size 23 i0 (.slice none 0 0) 1 24 Try.underlying25 hi hz0 hz1 hz2 rfl (by decide) _ _ _ rfl (HOUT.out.alloc _) ⟨w3.heap.size, 0, none⟩ 1 1 [.slice pk z ck] rfl rfl ?c1 ?c2 ?c3 ?c4 ?c5 ?_)
        case c1 => exact cell_one_new _ _ _
        case c2 => simp [Value.oneCell']
        case c3 => unfold maxLen; omega
        case c4 => omega
        case c5 => simp; omega
        intro v' w4 hown4 hgrow4 _
        have HP := Lib.hid (Rows8.push HRT.out HRR'.out HKN.out HRs.out (HOUT.out.alloc _) HOWN.out hown4 hgrow4)
        have hb4 : Below w.heap.size w3 w4 := ((Below.refl _ _).alloc hs3 (.cells #[.slice pk z ck] 23)).grown hgrow4 (by simp; omega) (fun j hj => (HOUT.out.lt j hj).1)
        have HB4 := Lib.hid (HB3.out.trans hb4)
        have HR4 := Lib.hid (Rd.rest (HR3.out.below' hb4 hn) hlt)
        clear hown4 hgrow4 hb4 HOUT HRs HRR' HKN HOWN
        go_wp2
        go_roundw
        case rel =>
          refine ⟨_, l' - z, c' - z, r.drop z, k + 1, Ls ++ [r.take z], rfl, by rw [List.length_drop, HRL.out], HR4.out.same (fun i hi => by unfold bv; simp [List.getD, List.getElem?_drop]), HP.out, ?_, by omega, by omega, by omega, fun x hx => ?_, HB4.out⟩
          · rw [List.flatten_append, List.append_assoc, ← HFL.out]
            simp
          · rcases List.mem_append.1 hx with h | h
            · exact HGOOD.out x h
            · obtain rfl := List.mem_singleton.1 h
              rw [HRT.out, HZ.out]
              unfold psize
              simp only [List.getD, List.getElem?_take]
              rw [if_pos (by have := HZ.out; omega), if_pos (by have := HZ.out; omega)]
        case measure => simp only [lenS]; omega
      · have hge : ¬ ((z : Int) ≤ l') := by omega
        go_wp2_with fail
        skip
        go_at_call 87
        refine (pstated_any a' l' c' n r _ HRL.out (by omega) HRR.out hrb).mono ?_
        rintro e w1 ⟨rfl, jw1, hww1⟩
        rw [← HZ.out]
        have hbw1 : Below wr.heap.size wr w1 := by rw [hww1]; exact below_drews _ _ _
        have HRw1 := Lib.hid (HRR.out.below' hbw1 hns)
        have HBw1 := Lib.hid (HB.out.trans (hbw1.mono HB.out.size))
        have hnw1 : n ≤ w1.heap.size := Nat.le_trans hns hbw1.size
        clear hww1
        have HROWS1 := Lib.hid (HROWS.out.below hbw1 (Nat.le_refl _))
        clear hbw1 HROWS
        go_wp2_with fail
        skip
        go_at_call 88
        refine (Clone_any a' l' c' n r _ (Nat.le_trans hn HBw1.out.size) HRL.out HRw1.out (by omega)).mono ?_
        rintro e w5 ⟨s, rfl, hown, hb5⟩
        go_wp2
        go_ret2
        refine ⟨_, s, k, l', Ls, r, rfl, HROWS1.out.below hb5 (Nat.le_refl _), HRL.out, own_base hown HBw1.out.size, HBw1.out.trans (hb5.mono HBw1.out.size), HFL.out, HGOOD.out, ?_⟩
        rw [← HZ.out]
        omega
end Go.Proofs.Ytfolebogfapmaaa
