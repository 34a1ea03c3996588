/- Layer 22: Pick. -/
import Derived.Test.YtinaimacocgemaaAod
namespace Go.Proofs.Ytinaimacocgemaa
open Go.RowKit Go.Own Go.Proofs Bs
set_option linter.unusedVariables false
set_option linter.unusedSimpArgs false
theorem results_ctA {P : Program} {fn : Func} {p u : Tmp} {ty : TypeId} (h : fn.results = #[.cell p ty, .tmp u]) (tmps : Array Value) (w : World) (g : Nat) (t : TypeId) (cs : Array Value) (fr : Nat × Nat) {d : TypeDesc}
    (hp : tmps.getD p undef = .pointer (some ⟨g, 0, none⟩)) (hg : w.heap[g]? = some (.cells cs t fr))
    (hu : P.underlying ty = some d) (hd : (match d with | .struct _ | .array _ _ => true | _ => false) = true) (hi : (P.info? ty).map (·.size) = some cs.size) :
    (results fn tmps).run P w = .ok (.tuple #[.agg cs, tmps.getD u undef]) w := by
  rw [results_cell_tmp h]
  have hp' : tmps[p]?.getD undef = .pointer (some ⟨g, 0, none⟩) := by simpa using hp
  simp [hp', asAddr, run_loadVar_row w g t ty cs fr d hg hu hd hi]
def fnd (inh : Nat) (O : List Al) : Option Al := O.find? (fun a => al inh a.l)
theorem fnd_at (inh : Nat) (O : List Al) {k : Nat} (hk : k < O.length) : fnd inh (O.drop k) = if al inh (O.getD k al0).l = true then some (O.getD k al0) else fnd inh (O.drop (k + 1)) := by
  rw [List.drop_eq_getElem_cons hk]
  unfold fnd
  rw [List.find?_cons, show O.getD k al0 = O[k] by simp [List.getD, hk]]
  cases al inh O[k].l <;> rfl
theorem mem_ord {L : List Al} {x : Al} (h : x ∈ ordA (rl L)) : x ∈ L := by
  unfold ordA at h
  simp only [List.mem_append] at h
  have k : ∀ n, x ∈ lev n (rl L) → x ∈ L := fun n h => (List.mem_filter.1 (List.mem_filter.1 h).1).1
  rcases h with h | h | h | h | h
  · exact k 4 h
  · exact k 3 h
  · exact k 2 h
  · exact k 1 h
  · exact k 0 h
theorem ok_ord {L : List Al} (h : AlOk L) : AlOk (ordA (rl L)) := fun r hr => h r (mem_ord hr)
/-- What a pick hands back. -/
def pkV (o : Option Al) : Value := match o with | some a => .tuple #[.agg #[.int .u8 (a.l : Nat), .int .i64 a.u, .int .u8 (a.e : Nat)], .bool true] | none => .tuple #[.agg #[.int .u8 0, .int .i64 0, .int .u8 0], .bool false]
set_option maxRecDepth 100000 in
set_option maxHeartbeats 4000000 in
theorem Pick_any (inh : Nat) (a : Option Addr) (c m : Nat) (L : List Al) (w : World) (hinh : inh < 256) (hL : L.length = m) (hm20 : m ≤ 20) (hok : AlOk L) (hr : AlS 0 w.heap.size w a c L) :
    Calls Try.prog 44 #[.int .u8 (inh : Nat), .slice a m c] w fun e w' => e = .returned (pkV (fnd inh (ordA (rl L)))) ∧ Below w.heap.size w w' := by
  have hzr := zero_al
  obtain ⟨O, hO⟩ : ∃ O, O = ordA (rl L) := ⟨_, rfl⟩
  have hal := (Below.refl w.heap.size w).alloc (Nat.le_refl _) (.cells #[.int .u8 0, .int .i64 0, .int .u8 0] 84)
  have h4 := heap_alloc_new w (.cells #[.int .u8 0, .int .i64 0, .int .u8 0] 84)
  have hq0 := (Bq.nil w).new #[.int .u8 0, .int .i64 0, .int .u8 0] 84
  obtain ⟨w1, hw1⟩ : ∃ w1, w1 = w.alloc (.cells #[.int .u8 0, .int .i64 0, .int .u8 0] 84) := ⟨_, rfl⟩
  have hs1 : w.heap.size < w1.heap.size := by rw [hw1]; simp
  rw [← hw1] at hal h4 hq0
  have HOD := Lib.hid (show Calls Try.prog 46 #[.slice a m c] w1 fun e w' => ∃ (x : Option Addr) (n d : Nat), e = .returned (.slice x n d) ∧ n = O.length ∧ AlS w1.heap.size w'.heap.size w' x d O ∧ Below w1.heap.size w1 w' from by
    rw [hO]
    exact Order_any a c m L w1 hL hm20 hok ⟨hr.le, hr.top, fun h => by
      obtain ⟨b, off, e, hlo, hlt, hc⟩ := (hr.below hal (Nat.le_refl _)).at_ h
      exact ⟨b, off, e, hlo, Nat.lt_trans hlt hs1, hc⟩⟩)
  have HOK := Lib.hid (show AlOk O from by rw [hO]; exact ok_ord hok)
  rw [← hO]
  have HA := Lib.hid hal
  clear hO hL hok hr hal
  go_enter Try.func44, Try.ntmps44
  go_upto_region 1 with fail
  rw [← hw1]
  obtain ⟨g4, hg4⟩ : ∃ g, g = w.heap.size := ⟨_, rfl⟩
  rw [← hg4] at h4 hs1 hq0 ⊢
  have HQ := Lib.hid (show Bq w w1 [(g4, #[.int .u8 0, .int .i64 0, .int .u8 0], 84)] from hq0)
  clear hq0
  have HG := Lib.hid hg4
  clear hw1 hg4
  go_wp2_with fail
  go_at_call 46
  refine HOD.out.mono ?_
  rintro e w2 ⟨x, n, d, rfl, hn, hx, hb⟩
  have h5 := box_below h4 hb hs1
  have HQ2 := Lib.hid (HQ.out.step hb)
  have hBB := HA.out.trans (hb.mono (by have := HG.out; omega))
  have hs2 : g4 < w2.heap.size := box_lt h5
  have hxt := hx.top
  have hxl := hx.le
  unfold maxLen at hxt
  rw [← hn] at hxl
  have HX := Lib.hid hx
  have HN := Lib.hid hn
  have HBB := Lib.hid hBB
  clear hx hb hBB hn h4 HOD HA hs1 HQ
  go_wp2_with fail
  go_loopw [11] (fun v wr => ∃ (k : Nat), k ≤ n ∧ v = .int .i64 (k : Nat) ∧ fnd inh (O.drop k) = fnd inh O ∧ Below w2.heap.size w2 wr) (fun v _ => n - (intOf v).toNat)
  case atStart => exact ⟨0, Nat.zero_le _, rfl, rfl, Below.refl _ _⟩
  case round =>
    obtain ⟨k, hk, rfl, hf, hB⟩ := hrel
    have HF := Lib.hid hf
    have HB := Lib.hid hB
    have h6 := box_below h5 hB hs2
    have hBs := hB.size
    clear hf hB
    by_cases hlt : k < n
    · have hkl : k < O.length := by have := HN.out; omega
      obtain ⟨bb, off, rfl, hlo, hbn, hc⟩ := HX.out.at_ (by omega)
      have hfa := fnd_at inh O hkl
      have hrg : wr.rangeAt bb (off + k * 3) (Al.cs (O.getD k al0)) := fun j v hv => (HB.out.cell (p := ⟨bb, off + k * 3 + j, none⟩) hbn).trans (hc k hkl j v hv)
      obtain ⟨hr5, _, _⟩ := HOK.out.at hkl
      obtain ⟨r, hr⟩ : ∃ r, r = O.getD k al0 := ⟨_, rfl⟩
      rw [← hr] at hfa hrg hr5
      have HFA := Lib.hid hfa
      have HRG := Lib.hid hrg
      have hal := (Below.refl wr.heap.size wr).alloc (Nat.le_refl _) (.cells #[.int .u8 (r.l : Nat), .int .i64 r.u, .int .u8 (r.e : Nat)] 84)
      have h7 := heap_alloc_new wr (.cells #[.int .u8 (r.l : Nat), .int .i64 r.u, .int .u8 (r.e : Nat)] 84)
      have h8 := box_below h6 hal (box_lt h6)
      obtain ⟨we, hwe⟩ : ∃ we, wr.alloc (.cells #[.int .u8 (r.l : Nat), .int .i64 r.u, .int .u8 (r.e : Nat)] 84) = we := ⟨_, rfl⟩
      rw [hwe] at hal h7 h8
      have HB2 := Lib.hid (HB.out.trans (hal.mono HB.out.size))
      clear hr hfa hrg hc hal HB hlo h6
      have hrl := HRG.out
      go_upto_region 4 with (first | ((with_reducible show wpList _ _ _ (_ :: _) _ _); refine wpList_load_mid rfl 84 _ rfl _ (off + k * 3) rfl (Al.cs r) _ hrl Try.underlying84 rfl size_al ?_; rw [show (Al.cs r).toArray = #[.int .u8 (r.l : Nat), .int .i64 r.u, .int .u8 (r.e : Nat)] from rfl]; (try go_simp)) | (((with_reducible show wpList _ _ _ (_ :: _) _ _); refine wpList_store_row rfl 84 _ _ rfl _ _ rfl rfl _ _ (heap_alloc_new _ _) (by exact size_al) (by rfl) (by simp [Value.oneCell']) ?_; rw [World.setRow_alloc_new]); rw [hwe]))
      clear hrl hwe HRG
      obtain ⟨g7, hg7⟩ : ∃ g, g = wr.heap.size := ⟨_, rfl⟩
      rw [← hg7] at h7 ⊢
      clear hg7
      have c7 := cell_of_row _ _ 0 _ _ _ h7
      obtain ⟨t, ht⟩ : ∃ t, t = al inh r.l := ⟨_, rfl⟩
      have HAL := Lib.hid (fun w => Allowed_any inh r.l w hinh hr5)
      rw [← ht] at HAL HFA
      clear ht
      have hqe := HQ2.out.step (show Below w2.heap.size w2 we from HB2.out)
      have b4 := hqe.of 0 rfl
      have HQE := Lib.hid hqe
      clear hqe
      cases t
      · have HF2 := Lib.hid (show fnd inh (O.drop (k + 1)) = fnd inh O from by rw [← HF.out, HFA.out]; rfl)
        clear HFA b4 h7 h8
        go_wp2_with (go_at_call 50; refine (HAL.out _).mono ?_; rintro e w9 ⟨rfl, rfl⟩)
        go_roundw
        case rel => exact ⟨k + 1, by omega, by go_num, HF2.out, HB2.out⟩
        case measure => simp [intOf]; omega
      · have HF2 := Lib.hid (show fnd inh O = some r from by rw [← HF.out, HFA.out]; rfl)
        clear HFA h8
        have hq2 := HQE.out.put 0 rfl #[.int .u8 (r.l : Nat), .int .i64 r.u, .int .u8 (r.e : Nat)]
        have HB4 := Lib.hid (hq2.of 0 rfl)
        have HBE := Lib.hid hq2.be
        clear hq2
        go_wp2_with (first | (go_at_call 50; refine (HAL.out _).mono ?_; rintro e w9 ⟨rfl, rfl⟩) | (refine wpList_load_row rfl 84 _ rfl _ rfl _ _ _ _ h7 Try.underlying84 rfl (by exact size_al) ?_; (try go_simp)) | ((with_reducible show wpList _ _ _ (_ :: _) _ _); refine wpList_store_row rfl 84 _ _ rfl _ _ rfl rfl _ _ b4 (by exact size_al) (by rfl) (by simp [Value.oneCell']) ?_))
        refine bodyPost_ret (results_ctA rfl _ _ _ _ _ _ rfl HB4.out Try.underlying84 rfl (by exact size_al)) rfl ?_
        exact ⟨by rw [HF2.out]; rfl, HBE.out⟩
    · obtain rfl : k = n := by omega
      have HF2 := Lib.hid (show fnd inh O = none from by rw [← HF.out, List.drop_eq_nil_of_le (by have := HN.out; omega)]; rfl)
      have hqe := HQ2.out.step HB.out
      have b4 := hqe.of 0 rfl
      have hq2 := hqe.put 0 rfl #[.int .u8 0, .int .i64 0, .int .u8 0]
      have HB4 := Lib.hid (hq2.of 0 rfl)
      have HBE := Lib.hid hq2.be
      clear hq2 hqe h6
      go_wp2_with ((with_reducible show wpList _ _ _ (_ :: _) _ _); refine wpList_store_row rfl 84 _ _ rfl _ _ rfl rfl _ _ b4 (by exact size_al) (by rfl) (by simp [Value.oneCell']) ?_)
      refine bodyPost_ret (results_ctA rfl _ _ _ _ _ _ rfl HB4.out Try.underlying84 rfl (by exact size_al)) rfl ?_
      exact ⟨by rw [HF2.out]; rfl, HBE.out⟩
end Go.Proofs.Ytinaimacocgemaa
