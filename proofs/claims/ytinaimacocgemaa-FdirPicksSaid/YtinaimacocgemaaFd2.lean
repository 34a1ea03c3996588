/- Layer 22: ladders: the level that acts. -/
import Derived.Test.YtinaimacocgemaaFd
import Derived.Test.YtinaimacocgemaaBx
namespace Go.Proofs.Ytinaimacocgemaa
open Go.RowKit Go.Own Bs
set_option linter.unusedVariables false
set_option linter.unusedSimpArgs false
section
variable {P : Program}
theorem resCct {fn : Func} {p q r : Tmp} {ty uy : TypeId} (h : fn.results = #[.cell p ty, .cell q uy, .tmp r]) (tmps : Array Value) (w : World) (g k : Nat) (t u : TypeId) (cs ds : Array Value) (fr gr : Nat × Nat) {d e : TypeDesc}
    (hp : tmps.getD p undef = .pointer (some ⟨g, 0, none⟩)) (hq : tmps.getD q undef = .pointer (some ⟨k, 0, none⟩)) (hg : w.heap[g]? = some (.cells cs t fr)) (hk : w.heap[k]? = some (.cells ds u gr))
    (hu : P.underlying ty = some d) (hd : (match d with | .struct _ | .array _ _ => true | _ => false) = true) (hi : (P.info? ty).map (·.size) = some cs.size)
    (hu' : P.underlying uy = some e) (he : (match e with | .struct _ | .array _ _ => true | _ => false) = true) (hi' : (P.info? uy).map (·.size) = some ds.size) :
    (results fn tmps).run P w = .ok (.tuple #[.agg cs, .agg ds, tmps.getD r undef]) w := by
  have hp' : tmps[p]?.getD undef = .pointer (some ⟨g, 0, none⟩) := by simpa using hp
  have hq' : tmps[q]?.getD undef = .pointer (some ⟨k, 0, none⟩) := by simpa using hq
  simp only [results, h]
  simp [Sem.run_bind, Result.andThen, hp', hq', asAddr, run_loadVar_row w g t ty cs fr d hg hu hd hi, run_loadVar_row w k u uy ds gr e hk hu' he hi']
end
theorem size_ld : (Try.prog.info? 100).map (·.size) = some 10 := by kernel_rfl
theorem size_al : (Try.prog.info? 84).map (·.size) = some 3 := by kernel_rfl
theorem size_fi : (Try.prog.info? 98).map (·.size) = some 5 := by kernel_rfl
theorem zero_ld (w : World) : (zeroValue 100).run Try.prog w = .ok (.agg #[.int .u8 0, .int .u8 0, .int .u8 0, .int .u8 0, .int .u8 0, .int .u8 0, .int .u8 0, .int .u8 0, .int .u8 0, .int .u8 0]) w := by kernel_rfl
theorem zero_al (w : World) : (zeroValue 84).run Try.prog w = .ok (.agg #[.int .u8 0, .int .i64 0, .int .u8 0]) w := by kernel_rfl
theorem ld_lim (L C : Nat → Nat) {k : Nat} (hk : k < 5) : (#[.int .u8 ((L 0 : Nat) : Int), .int .u8 ((L 1 : Nat) : Int), .int .u8 ((L 2 : Nat) : Int), .int .u8 ((L 3 : Nat) : Int), .int .u8 ((L 4 : Nat) : Int), .int .u8 ((C 0 : Nat) : Int), .int .u8 ((C 1 : Nat) : Int), .int .u8 ((C 2 : Nat) : Int), .int .u8 ((C 3 : Nat) : Int), .int .u8 ((C 4 : Nat) : Int)] : Array Value)[k]? = some (.int .u8 ((L k : Nat) : Int)) := by
  rcases (by omega : k = 0 ∨ k = 1 ∨ k = 2 ∨ k = 3 ∨ k = 4) with rfl | rfl | rfl | rfl | rfl <;> rfl
theorem ld_cnt (L C : Nat → Nat) {k : Nat} (hk : k < 5) : (#[.int .u8 ((L 0 : Nat) : Int), .int .u8 ((L 1 : Nat) : Int), .int .u8 ((L 2 : Nat) : Int), .int .u8 ((L 3 : Nat) : Int), .int .u8 ((L 4 : Nat) : Int), .int .u8 ((C 0 : Nat) : Int), .int .u8 ((C 1 : Nat) : Int), .int .u8 ((C 2 : Nat) : Int), .int .u8 ((C 3 : Nat) : Int), .int .u8 ((C 4 : Nat) : Int)] : Array Value)[5 + k]? = some (.int .u8 ((C k : Nat) : Int)) := by
  rcases (by omega : k = 0 ∨ k = 1 ∨ k = 2 ∨ k = 3 ∨ k = 4) with rfl | rfl | rfl | rfl | rfl <;> rfl
/-- The level that acts, of the last n; r: the greatest one so far. -/
def act (inh : Nat) (L C : Nat → Nat) : Nat → Option Nat → Option Nat
  | 0, r => r
  | n + 1, r => if al inh (4 - n) = true then (if C (4 - n) < L (4 - n) then some (4 - n) else act inh L C n (some (4 - n))) else act inh L C n r
theorem act_step (inh : Nat) (L C : Nat → Nat) {k : Nat} (hk : k < 5) (r : Option Nat) : act inh L C (5 - k) r = if al inh k = true then (if C k < L k then some k else act inh L C (5 - (k + 1)) (some k)) else act inh L C (5 - (k + 1)) r := by
  obtain ⟨n, hn⟩ : ∃ n, 5 - k = n + 1 := ⟨4 - k, by omega⟩
  have h1 : 4 - n = k := by omega
  have h2 : 5 - (k + 1) = n := by omega
  rw [hn, h2]
  show (if al inh (4 - n) = true then (if C (4 - n) < L (4 - n) then some (4 - n) else act inh L C n (some (4 - n))) else act inh L C n r) = _
  rw [h1]
def Lb (f : Nat → Nat) : Prop := ∀ k, k < 5 → f k < 256
set_option maxRecDepth 100000 in
set_option maxHeartbeats 2000000 in
theorem acting_any (L C : Nat → Nat) (l inh : Nat) (w : World) (hl : l < 256) (hi : inh < 256) : Calls Try.prog 99 #[.agg #[.int .u8 ((L 0 : Nat) : Int), .int .u8 ((L 1 : Nat) : Int), .int .u8 ((L 2 : Nat) : Int), .int .u8 ((L 3 : Nat) : Int), .int .u8 ((L 4 : Nat) : Int), .int .u8 ((C 0 : Nat) : Int), .int .u8 ((C 1 : Nat) : Int), .int .u8 ((C 2 : Nat) : Int), .int .u8 ((C 3 : Nat) : Int), .int .u8 ((C 4 : Nat) : Int)], .int .u8 (l : Nat), .int .u8 (inh : Nat)] w fun e w' => e = .returned (.tuple #[.int .u8 (((act inh L C (5 - l) none).getD 0 : Nat) : Int), .bool (act inh L C (5 - l) none).isSome]) ∧ Below w.heap.size w w' := by
  obtain ⟨R, hR⟩ : ∃ R, act inh L C (5 - l) none = R := ⟨_, rfl⟩
  rw [hR]
  have HR := Lib.hid hR
  clear hR
  have h0 := heap_alloc_new w (.cells #[.int .u8 ((L 0 : Nat) : Int), .int .u8 ((L 1 : Nat) : Int), .int .u8 ((L 2 : Nat) : Int), .int .u8 ((L 3 : Nat) : Int), .int .u8 ((L 4 : Nat) : Int), .int .u8 ((C 0 : Nat) : Int), .int .u8 ((C 1 : Nat) : Int), .int .u8 ((C 2 : Nat) : Int), .int .u8 ((C 3 : Nat) : Int), .int .u8 ((C 4 : Nat) : Int)] 100)
  have hb0 : Below w.heap.size w (w.alloc (.cells #[.int .u8 ((L 0 : Nat) : Int), .int .u8 ((L 1 : Nat) : Int), .int .u8 ((L 2 : Nat) : Int), .int .u8 ((L 3 : Nat) : Int), .int .u8 ((L 4 : Nat) : Int), .int .u8 ((C 0 : Nat) : Int), .int .u8 ((C 1 : Nat) : Int), .int .u8 ((C 2 : Nat) : Int), .int .u8 ((C 3 : Nat) : Int), .int .u8 ((C 4 : Nat) : Int)] 100)) := by repeat' (first | (with_reducible exact Below.refl _ _) | (with_reducible assumption) | (with_reducible refine Below.setCell ?_ ?_ _) | (with_reducible refine Below.alloc ?_ ?_ _) | (with_reducible refine Below.drew ?_) | (with_reducible refine Below.drawsN ?_ _) | go_size)
  go_enter Try.func99, Try.ntmps99
  go_upto_region 1 with fail
  obtain ⟨w1, hw1⟩ : ∃ w1, w1 = w.alloc (.cells #[.int .u8 ((L 0 : Nat) : Int), .int .u8 ((L 1 : Nat) : Int), .int .u8 ((L 2 : Nat) : Int), .int .u8 ((L 3 : Nat) : Int), .int .u8 ((L 4 : Nat) : Int), .int .u8 ((C 0 : Nat) : Int), .int .u8 ((C 1 : Nat) : Int), .int .u8 ((C 2 : Nat) : Int), .int .u8 ((C 3 : Nat) : Int), .int .u8 ((C 4 : Nat) : Int)] 100) := ⟨_, rfl⟩
  rw [← hw1] at h0 hb0 ⊢
  obtain ⟨g, hg⟩ : ∃ g, g = w.heap.size := ⟨_, rfl⟩
  rw [show (Value.pointer (some ⟨w.heap.size, 0, none⟩)) = .pointer (some ⟨g, 0, none⟩) by rw [hg]]
  rw [← hg] at h0
  have H0 := Lib.hid h0
  have HB0 := Lib.hid hb0
  clear hw1 hg h0 hb0
  go_wp2_with fail
  go_loopw [8, 9, 10] (fun v8 v9 v10 wr => ∃ (k : Nat) (r : Option Nat), k < 256 ∧ l ≤ k ∧ v8 = .int .u8 ((r.getD 0 : Nat) : Int) ∧ v9 = .bool r.isSome ∧ v10 = .int .u8 (k : Nat) ∧ act inh L C (5 - k) r = R ∧ wr.heap[g]? = some (.cells #[.int .u8 ((L 0 : Nat) : Int), .int .u8 ((L 1 : Nat) : Int), .int .u8 ((L 2 : Nat) : Int), .int .u8 ((L 3 : Nat) : Int), .int .u8 ((L 4 : Nat) : Int), .int .u8 ((C 0 : Nat) : Int), .int .u8 ((C 1 : Nat) : Int), .int .u8 ((C 2 : Nat) : Int), .int .u8 ((C 3 : Nat) : Int), .int .u8 ((C 4 : Nat) : Int)] 100 (0, 0)) ∧ Below w.heap.size w wr) (fun _ _ v _ => 256 - (intOf v).toNat)
  case atStart => exact ⟨l, none, hl, Nat.le_refl _, rfl, rfl, rfl, HR.out, H0.out, HB0.out⟩
  case round =>
    clear H0 HB0
    obtain ⟨k, r, hk, hlk, rfl, rfl, rfl, hact, hh, hbw⟩ := hrel
    have HH := Lib.hid hh
    have HBW := Lib.hid hbw
    have HA := Lib.hid hact
    clear hh hbw hact
    have HI := Lib.hid (isLevel_any k · hk)
    by_cases h5 : k < 5
    · rw [decide_eq_true h5] at HI
      have hs := act_step inh L C h5 r
      have HS := Lib.hid hs
      clear hs
      go_wp2_with (go_at_call 98; refine (HI.out _).mono ?_; rintro e w' ⟨rfl, rfl⟩)
      refine (Allowed_any inh k _ hi hk).mono ?_
      rintro e w' ⟨rfl, rfl⟩
      cases ha : al inh k
      · have hnext : act inh L C (5 - (k + 1)) r = R := by rw [← HA.out, HS.out, ha]; rfl
        have HN := Lib.hid hnext
        clear ha hnext
        go_wp2
        go_roundw
        case rel => exact ⟨k + 1, r, by omega, by omega, rfl, rfl, by go_num, HN.out, HH.out, HBW.out⟩
        case measure => simp [intOf]; omega
      · have c1 := cell_of_row _ _ (5 + k) _ _ _ HH.out
        have c2 := cell_of_row _ _ k _ _ _ HH.out
        rw [ld_cnt L C h5] at c1
        rw [ld_lim L C h5] at c2
        have hs2 := HS.out
        rw [if_pos ha] at hs2
        by_cases hc : C k < L k
        · have hfin : some k = R := by rw [← HA.out, hs2, if_pos hc]
          have HF := Lib.hid hfin
          clear ha hfin hs2
          go_upto_region 7 with fail
          go_quiet (fail)
          go_wp2
          rw [← HF.out]
          exact bodyPost_ret (v := .tuple #[.int .u8 ((k : Nat) : Int), .bool true]) (by simp [results, Try.results99, go_sem]) rfl ⟨rfl, HBW.out.trans ((bel_drewV _ _).mono HBW.out.size)⟩
        · have hnext : act inh L C (5 - (k + 1)) (some k) = R := by rw [← HA.out, hs2, if_neg hc]
          have HN := Lib.hid hnext
          clear ha hnext hs2
          go_upto_region 7 with fail
          go_quiet (fail)
          go_wp2
          go_roundw
          case rel => exact ⟨k + 1, some k, by omega, by omega, rfl, rfl, by go_num, HN.out, HH.out, HBW.out.trans ((bel_drewV _ _).mono HBW.out.size)⟩
          case measure => simp [intOf]; omega
    · rw [decide_eq_false h5] at HI
      go_wp2_with (go_at_call 98; refine (HI.out _).mono ?_; rintro e w' ⟨rfl, rfl⟩)
      have e : act inh L C (5 - k) r = r := by rw [show 5 - k = 0 by omega]; rfl
      rw [← HA.out, e]
      exact bodyPost_ret (v := .tuple #[.int .u8 ((r.getD 0 : Nat) : Int), .bool r.isSome]) (by simp [results, Try.results99, go_sem]) rfl ⟨rfl, HBW.out⟩
theorem Bxs.two (w : World) (A B : Array Value) (t u : TypeId) : Bxs w ((w.alloc (.cells A t)).alloc (.cells B u)) [(A, t), (B, u)] :=
  ((Bxs.nil w).add rfl A t).add (by simp) B u
def zF : Nat → Nat := fun _ => 0
set_option maxRecDepth 100000 in
set_option maxHeartbeats 2000000 in
theorem Calm_any (L C : Nat → Nat) (w : World) : Calls Try.prog 55 #[.agg #[.int .u8 ((L 0 : Nat) : Int), .int .u8 ((L 1 : Nat) : Int), .int .u8 ((L 2 : Nat) : Int), .int .u8 ((L 3 : Nat) : Int), .int .u8 ((L 4 : Nat) : Int), .int .u8 ((C 0 : Nat) : Int), .int .u8 ((C 1 : Nat) : Int), .int .u8 ((C 2 : Nat) : Int), .int .u8 ((C 3 : Nat) : Int), .int .u8 ((C 4 : Nat) : Int)]] w fun e w' => e = .returned (.agg #[.int .u8 ((L 0 : Nat) : Int), .int .u8 ((L 1 : Nat) : Int), .int .u8 ((L 2 : Nat) : Int), .int .u8 ((L 3 : Nat) : Int), .int .u8 ((L 4 : Nat) : Int), .int .u8 ((zF 0 : Nat) : Int), .int .u8 ((zF 1 : Nat) : Int), .int .u8 ((zF 2 : Nat) : Int), .int .u8 ((zF 3 : Nat) : Int), .int .u8 ((zF 4 : Nat) : Int)]) ∧ Below w.heap.size w w' := by
  have hz := zero_ld
  have HV := Lib.hid (Bxs.two w #[.int .u8 ((L 0 : Nat) : Int), .int .u8 ((L 1 : Nat) : Int), .int .u8 ((L 2 : Nat) : Int), .int .u8 ((L 3 : Nat) : Int), .int .u8 ((L 4 : Nat) : Int), .int .u8 ((C 0 : Nat) : Int), .int .u8 ((C 1 : Nat) : Int), .int .u8 ((C 2 : Nat) : Int), .int .u8 ((C 3 : Nat) : Int), .int .u8 ((C 4 : Nat) : Int)] #[.int .u8 0, .int .u8 0, .int .u8 0, .int .u8 0, .int .u8 0, .int .u8 0, .int .u8 0, .int .u8 0, .int .u8 0, .int .u8 0] 100 100)
  go_enter Try.func55, Try.ntmps55
  go_upto_region 1 with fail
  obtain ⟨w1, hw1⟩ : ∃ w1, w1 = (w.alloc (.cells #[.int .u8 ((L 0 : Nat) : Int), .int .u8 ((L 1 : Nat) : Int), .int .u8 ((L 2 : Nat) : Int), .int .u8 ((L 3 : Nat) : Int), .int .u8 ((L 4 : Nat) : Int), .int .u8 ((C 0 : Nat) : Int), .int .u8 ((C 1 : Nat) : Int), .int .u8 ((C 2 : Nat) : Int), .int .u8 ((C 3 : Nat) : Int), .int .u8 ((C 4 : Nat) : Int)] 100)).alloc (.cells #[.int .u8 0, .int .u8 0, .int .u8 0, .int .u8 0, .int .u8 0, .int .u8 0, .int .u8 0, .int .u8 0, .int .u8 0, .int .u8 0] 100) := ⟨_, rfl⟩
  rw [← hw1] at HV ⊢
  clear hw1
  have b0 : w1.heap[w.heap.size]? = _ := HV.out.at_ 0 _ _ rfl
  have b1 : w1.heap[w.heap.size + 1]? = _ := HV.out.at_ 1 _ _ rfl
  have c0 := cell_of_row _ _ 0 _ _ _ b0
  have c1 := cell_of_row _ _ 1 _ _ _ b0
  have c2 := cell_of_row _ _ 2 _ _ _ b0
  have c3 := cell_of_row _ _ 3 _ _ _ b0
  have c4 := cell_of_row _ _ 4 _ _ _ b0
  have hv := HV.out.put 1 rfl #[.int .u8 ((L 0 : Nat) : Int), .int .u8 ((L 1 : Nat) : Int), .int .u8 ((L 2 : Nat) : Int), .int .u8 ((L 3 : Nat) : Int), .int .u8 ((L 4 : Nat) : Int), .int .u8 ((zF 0 : Nat) : Int), .int .u8 ((zF 1 : Nat) : Int), .int .u8 ((zF 2 : Nat) : Int), .int .u8 ((zF 3 : Nat) : Int), .int .u8 ((zF 4 : Nat) : Int)]
  have b2 : (w1.setRow (w.heap.size + 1) #[.int .u8 ((L 0 : Nat) : Int), .int .u8 ((L 1 : Nat) : Int), .int .u8 ((L 2 : Nat) : Int), .int .u8 ((L 3 : Nat) : Int), .int .u8 ((L 4 : Nat) : Int), .int .u8 ((zF 0 : Nat) : Int), .int .u8 ((zF 1 : Nat) : Int), .int .u8 ((zF 2 : Nat) : Int), .int .u8 ((zF 3 : Nat) : Int), .int .u8 ((zF 4 : Nat) : Int)]).heap[w.heap.size + 1]? = _ := hv.at_ 1 _ _ rfl
  have HB := Lib.hid hv.be
  have HB2 := Lib.hid b2
  clear hv b2 HV
  go_wp2_with ((with_reducible show wpList _ _ _ (_ :: _) _ _); refine wpList_store_row rfl 100 _ _ rfl _ _ rfl rfl _ _ b1 (by exact size_ld) (by rfl) (by simp [Value.oneCell']) ?_)
  refine bodyPost_ret (results_cell_row rfl _ _ _ _ _ _ _ rfl HB2.out Try.underlying100 rfl (by exact size_ld)) rfl ?_
  exact ⟨rfl, HB.out⟩
/-- One count changed. -/
def upd (C : Nat → Nat) (l x : Nat) : Nat → Nat := fun k => if k = l then x else C k
theorem upd_off {C : Nat → Nat} {l x : Nat} (h : ¬ l < 5) {k : Nat} (hk : k < 5) : upd C l x k = C k := by unfold upd; rw [if_neg (by omega)]
theorem upd_at (C : Nat → Nat) (l x : Nat) : upd C l x l = x := if_pos rfl
theorem set_cnt (L C : Nat → Nat) {l : Nat} (hl : l < 5) (x : Nat) : (#[.int .u8 ((L 0 : Nat) : Int), .int .u8 ((L 1 : Nat) : Int), .int .u8 ((L 2 : Nat) : Int), .int .u8 ((L 3 : Nat) : Int), .int .u8 ((L 4 : Nat) : Int), .int .u8 ((C 0 : Nat) : Int), .int .u8 ((C 1 : Nat) : Int), .int .u8 ((C 2 : Nat) : Int), .int .u8 ((C 3 : Nat) : Int), .int .u8 ((C 4 : Nat) : Int)] : Array Value).setIfInBounds (5 + l) (.int .u8 ((x : Nat) : Int)) = #[.int .u8 ((L 0 : Nat) : Int), .int .u8 ((L 1 : Nat) : Int), .int .u8 ((L 2 : Nat) : Int), .int .u8 ((L 3 : Nat) : Int), .int .u8 ((L 4 : Nat) : Int), .int .u8 ((upd C l x 0 : Nat) : Int), .int .u8 ((upd C l x 1 : Nat) : Int), .int .u8 ((upd C l x 2 : Nat) : Int), .int .u8 ((upd C l x 3 : Nat) : Int), .int .u8 ((upd C l x 4 : Nat) : Int)] := by
  rcases (by omega : l = 0 ∨ l = 1 ∨ l = 2 ∨ l = 3 ∨ l = 4) with rfl | rfl | rfl | rfl | rfl <;> rfl
set_option maxRecDepth 100000 in
set_option maxHeartbeats 2000000 in
theorem Clear_any (L C : Nat → Nat) (l : Nat) (w : World) (hl : l < 256) : Calls Try.prog 56 #[.agg #[.int .u8 ((L 0 : Nat) : Int), .int .u8 ((L 1 : Nat) : Int), .int .u8 ((L 2 : Nat) : Int), .int .u8 ((L 3 : Nat) : Int), .int .u8 ((L 4 : Nat) : Int), .int .u8 ((C 0 : Nat) : Int), .int .u8 ((C 1 : Nat) : Int), .int .u8 ((C 2 : Nat) : Int), .int .u8 ((C 3 : Nat) : Int), .int .u8 ((C 4 : Nat) : Int)], .int .u8 (l : Nat)] w fun e w' => e = .returned (.agg #[.int .u8 ((L 0 : Nat) : Int), .int .u8 ((L 1 : Nat) : Int), .int .u8 ((L 2 : Nat) : Int), .int .u8 ((L 3 : Nat) : Int), .int .u8 ((L 4 : Nat) : Int), .int .u8 ((upd C l 0 0 : Nat) : Int), .int .u8 ((upd C l 0 1 : Nat) : Int), .int .u8 ((upd C l 0 2 : Nat) : Int), .int .u8 ((upd C l 0 3 : Nat) : Int), .int .u8 ((upd C l 0 4 : Nat) : Int)]) ∧ Below w.heap.size w w' := by
  have hz := zero_ld
  have HV := Lib.hid (Bxs.two w #[.int .u8 ((L 0 : Nat) : Int), .int .u8 ((L 1 : Nat) : Int), .int .u8 ((L 2 : Nat) : Int), .int .u8 ((L 3 : Nat) : Int), .int .u8 ((L 4 : Nat) : Int), .int .u8 ((C 0 : Nat) : Int), .int .u8 ((C 1 : Nat) : Int), .int .u8 ((C 2 : Nat) : Int), .int .u8 ((C 3 : Nat) : Int), .int .u8 ((C 4 : Nat) : Int)] #[.int .u8 0, .int .u8 0, .int .u8 0, .int .u8 0, .int .u8 0, .int .u8 0, .int .u8 0, .int .u8 0, .int .u8 0, .int .u8 0] 100 100)
  have HI := Lib.hid (isLevel_any l · hl)
  go_enter Try.func56, Try.ntmps56
  go_upto_region 1 with fail
  obtain ⟨w1, hw1⟩ : ∃ w1, w1 = (w.alloc (.cells #[.int .u8 ((L 0 : Nat) : Int), .int .u8 ((L 1 : Nat) : Int), .int .u8 ((L 2 : Nat) : Int), .int .u8 ((L 3 : Nat) : Int), .int .u8 ((L 4 : Nat) : Int), .int .u8 ((C 0 : Nat) : Int), .int .u8 ((C 1 : Nat) : Int), .int .u8 ((C 2 : Nat) : Int), .int .u8 ((C 3 : Nat) : Int), .int .u8 ((C 4 : Nat) : Int)] 100)).alloc (.cells #[.int .u8 0, .int .u8 0, .int .u8 0, .int .u8 0, .int .u8 0, .int .u8 0, .int .u8 0, .int .u8 0, .int .u8 0, .int .u8 0] 100) := ⟨_, rfl⟩
  rw [← hw1] at HV ⊢
  clear hw1
  by_cases h5 : l < 5
  · rw [decide_eq_true h5] at HI
    have b0 : w1.heap[w.heap.size]? = _ := HV.out.at_ 0 _ _ rfl
    have c0 := cell_of_row _ _ (5 + l) _ _ _ b0
    rw [ld_cnt L C h5] at c0
    have f0 := frozen_of_row _ _ (5 + l) _ _ b0
    have hv := HV.out.set 0 rfl (5 + l) (.int .u8 ((0 : Nat) : Int))
    rw [set_cnt L C h5] at hv
    have HV2 := Lib.hid hv
    clear hv b0 HV
    go_upto_region 3 with (go_at_call 98; refine (HI.out _).mono ?_; rintro e w' ⟨rfl, rfl⟩)
    have hV : Bxs w (w1.setCell ⟨w.heap.size, 5 + l, none⟩ (.int .u8 0)) [(#[.int .u8 ((L 0 : Nat) : Int), .int .u8 ((L 1 : Nat) : Int), .int .u8 ((L 2 : Nat) : Int), .int .u8 ((L 3 : Nat) : Int), .int .u8 ((L 4 : Nat) : Int), .int .u8 ((upd C l 0 0 : Nat) : Int), .int .u8 ((upd C l 0 1 : Nat) : Int), .int .u8 ((upd C l 0 2 : Nat) : Int), .int .u8 ((upd C l 0 3 : Nat) : Int), .int .u8 ((upd C l 0 4 : Nat) : Int)], 100), (#[.int .u8 0, .int .u8 0, .int .u8 0, .int .u8 0, .int .u8 0, .int .u8 0, .int .u8 0, .int .u8 0, .int .u8 0, .int .u8 0], 100)] := HV2.out
    obtain ⟨w2, hw2⟩ : ∃ w2, w2 = w1.setCell ⟨w.heap.size, 5 + l, none⟩ (.int .u8 0) := ⟨_, rfl⟩
    rw [← hw2] at hV ⊢
    clear hw2 c0 f0
    have b0 : w2.heap[w.heap.size]? = _ := hV.at_ 0 _ _ rfl
    have b1 : w2.heap[w.heap.size + 1]? = _ := hV.at_ 1 _ _ rfl
    have hv := hV.put 1 rfl #[.int .u8 ((L 0 : Nat) : Int), .int .u8 ((L 1 : Nat) : Int), .int .u8 ((L 2 : Nat) : Int), .int .u8 ((L 3 : Nat) : Int), .int .u8 ((L 4 : Nat) : Int), .int .u8 ((upd C l 0 0 : Nat) : Int), .int .u8 ((upd C l 0 1 : Nat) : Int), .int .u8 ((upd C l 0 2 : Nat) : Int), .int .u8 ((upd C l 0 3 : Nat) : Int), .int .u8 ((upd C l 0 4 : Nat) : Int)]
    have b2 : (w2.setRow (w.heap.size + 1) #[.int .u8 ((L 0 : Nat) : Int), .int .u8 ((L 1 : Nat) : Int), .int .u8 ((L 2 : Nat) : Int), .int .u8 ((L 3 : Nat) : Int), .int .u8 ((L 4 : Nat) : Int), .int .u8 ((upd C l 0 0 : Nat) : Int), .int .u8 ((upd C l 0 1 : Nat) : Int), .int .u8 ((upd C l 0 2 : Nat) : Int), .int .u8 ((upd C l 0 3 : Nat) : Int), .int .u8 ((upd C l 0 4 : Nat) : Int)]).heap[w.heap.size + 1]? = _ := hv.at_ 1 _ _ rfl
    have HB := Lib.hid hv.be
    have HB2 := Lib.hid b2
    clear hv b2 HV2 hV
    go_wp2_with (first | ((with_reducible show wpList _ _ _ (_ :: _) _ _); refine wpList_load_row rfl 100 _ rfl _ rfl _ _ _ _ b0 Try.underlying100 rfl (by exact size_ld) ?_; (try go_simp)) | ((with_reducible show wpList _ _ _ (_ :: _) _ _); refine wpList_store_row rfl 100 _ _ rfl _ _ rfl rfl _ _ b1 (by exact size_ld) (by rfl) (by simp [Value.oneCell']) ?_))
    refine bodyPost_ret (results_cell_row rfl _ _ _ _ _ _ _ rfl HB2.out Try.underlying100 rfl (by exact size_ld)) rfl ?_
    exact ⟨rfl, HB.out⟩
  · rw [decide_eq_false h5] at HI
    have h5' := Lib.hid h5
    have b0 : w1.heap[w.heap.size]? = _ := HV.out.at_ 0 _ _ rfl
    have b1 : w1.heap[w.heap.size + 1]? = _ := HV.out.at_ 1 _ _ rfl
    have hv := HV.out.put 1 rfl #[.int .u8 ((L 0 : Nat) : Int), .int .u8 ((L 1 : Nat) : Int), .int .u8 ((L 2 : Nat) : Int), .int .u8 ((L 3 : Nat) : Int), .int .u8 ((L 4 : Nat) : Int), .int .u8 ((C 0 : Nat) : Int), .int .u8 ((C 1 : Nat) : Int), .int .u8 ((C 2 : Nat) : Int), .int .u8 ((C 3 : Nat) : Int), .int .u8 ((C 4 : Nat) : Int)]
    have b2 : (w1.setRow (w.heap.size + 1) #[.int .u8 ((L 0 : Nat) : Int), .int .u8 ((L 1 : Nat) : Int), .int .u8 ((L 2 : Nat) : Int), .int .u8 ((L 3 : Nat) : Int), .int .u8 ((L 4 : Nat) : Int), .int .u8 ((C 0 : Nat) : Int), .int .u8 ((C 1 : Nat) : Int), .int .u8 ((C 2 : Nat) : Int), .int .u8 ((C 3 : Nat) : Int), .int .u8 ((C 4 : Nat) : Int)]).heap[w.heap.size + 1]? = _ := hv.at_ 1 _ _ rfl
    have HB := Lib.hid hv.be
    have HB2 := Lib.hid b2
    clear hv b2 HV
    go_wp2_with (first | ((with_reducible show wpList _ _ _ (_ :: _) _ _); refine wpList_load_row rfl 100 _ rfl _ rfl _ _ _ _ b0 Try.underlying100 rfl (by exact size_ld) ?_; (try go_simp)) | ((with_reducible show wpList _ _ _ (_ :: _) _ _); refine wpList_store_row rfl 100 _ _ rfl _ _ rfl rfl _ _ b1 (by exact size_ld) (by rfl) (by simp [Value.oneCell']) ?_) | (go_at_call 98; refine (HI.out _).mono ?_; rintro e w' ⟨rfl, rfl⟩))
    refine bodyPost_ret (results_cell_row rfl _ _ _ _ _ _ _ rfl HB2.out Try.underlying100 rfl (by exact size_ld)) rfl ?_
    exact ⟨by rw [upd_off h5'.out (by decide), upd_off h5'.out (by decide), upd_off h5'.out (by decide), upd_off h5'.out (by decide), upd_off h5'.out (by decide)], HB.out⟩
end Go.Proofs.Ytinaimacocgemaa
