/- Layer 22: the document's Pick. -/
import Derived.Test.YtinaimacocgemaaAro
namespace Go.Proofs.Ytinaimacocgemaa
open Go.RowKit Go.Own Go.Proofs Bs
set_option linter.unusedVariables false
set_option linter.unusedSimpArgs false
theorem ord_five (L : List Al) : ∀ x ∈ ordA (rl L), x.l < 5 := fun x hx => by
  unfold ordA at hx
  simp only [List.mem_append] at hx
  have k : ∀ n, x ∈ lev n (rl L) → x.l < 5 := fun n h => rl_five L x (List.mem_filter.1 h).1
  rcases hx with h | h | h | h | h
  · exact k 4 h
  · exact k 3 h
  · exact k 2 h
  · exact k 1 h
  · exact k 0 h
set_option maxRecDepth 100000 in
set_option maxHeartbeats 4000000 in
theorem rPick_any (inh : Nat) (a : Option Addr) (c m : Nat) (L : List Al) (w : World) (hinh : inh < 256) (hL : L.length = m) (hm20 : m ≤ 20) (hok : AlOk L) (hr : AlS 0 w.heap.size w a c L) :
    Calls Try.prog 45 #[.int .u8 (inh : Nat), .slice a m c] w fun e w' => e = .returned (pkV (fnd inh (ordA (rl L)))) ∧ Below w.heap.size w w' := by
  have hzr := zero_alr
  obtain ⟨O, hO⟩ : ∃ O, O = ordA (rl L) := ⟨_, rfl⟩
  have hal := (Below.refl w.heap.size w).alloc (Nat.le_refl _) (.cells #[.int .u8 0, .int .i64 0, .int .u8 0] 87)
  have h4 := heap_alloc_new w (.cells #[.int .u8 0, .int .i64 0, .int .u8 0] 87)
  have hq0 := (Bq.nil w).new #[.int .u8 0, .int .i64 0, .int .u8 0] 87
  obtain ⟨w1, hw1⟩ : ∃ w1, w1 = w.alloc (.cells #[.int .u8 0, .int .i64 0, .int .u8 0] 87) := ⟨_, rfl⟩
  have hs1 : w.heap.size < w1.heap.size := by rw [hw1]; simp
  rw [← hw1] at hal h4 hq0
  have HOD := Lib.hid (show Calls Try.prog 47 #[.slice a m c] w1 fun e w' => ∃ (x : Option Addr) (n d : Nat), e = .returned (.slice x n d) ∧ n = O.length ∧ AlS w1.heap.size w'.heap.size w' x d O ∧ Below w1.heap.size w1 w' from by
    rw [hO]
    exact rOrder_any a c m L w1 hL hm20 hok ⟨hr.le, hr.top, fun h => by
      obtain ⟨b, off, e, hlo, hlt, hc⟩ := (hr.below hal (Nat.le_refl _)).at_ h
      exact ⟨b, off, e, hlo, Nat.lt_trans hlt hs1, hc⟩⟩)
  have HOK := Lib.hid (show AlOk O from by rw [hO]; exact ok_ord hok)
  have HO5 := Lib.hid (show ∀ x ∈ O, x.l < 5 from by rw [hO]; exact ord_five L)
  rw [← hO]
  have HA := Lib.hid hal
  clear hO hL hok hr hal
  go_enter Try.func45, Try.ntmps45
  go_upto_region 1 with fail
  rw [← hw1]
  obtain ⟨g4, hg4⟩ : ∃ g, g = w.heap.size := ⟨_, rfl⟩
  rw [← hg4] at h4 hs1 hq0 ⊢
  have HQ := Lib.hid (show Bq w w1 [(g4, #[.int .u8 0, .int .i64 0, .int .u8 0], 87)] from hq0)
  clear hq0
  have HG := Lib.hid hg4
  clear hw1 hg4
  go_wp2_with fail
  go_at_call 47
  refine HOD.out.mono ?_
  rintro e w2 ⟨x, n, d, rfl, hn, hx, hb⟩
  have h5 := box_below h4 hb hs1
  have HQ2 := Lib.hid (HQ.out.step hb)
  have hBB := HA.out.trans (hb.mono (by have := HG.out; omega))
  have hs2 : g4 < w2.heap.size := box_lt h5
  have hxt := hx.top
  have hxl := hx.le
  unfold maxLen at hxt
  rw [← hn] at hxl
  have HX := Lib.hid hx
  have HN := Lib.hid hn
  have HBB := Lib.hid hBB
  clear hx hb hBB hn h4 HOD HA hs1 HQ
  go_wp2_with fail
  go_loopw [11] (fun v wr => ∃ (k : Nat), k ≤ n ∧ v = .int .i64 (k : Nat) ∧ fnd inh (O.drop k) = fnd inh O ∧ Below w2.heap.size w2 wr) (fun v _ => n - (intOf v).toNat)
  case atStart => exact ⟨0, Nat.zero_le _, rfl, rfl, Below.refl _ _⟩
  case round =>
    obtain ⟨k, hk, rfl, hf, hB⟩ := hrel
    have HF := Lib.hid hf
    have HB := Lib.hid hB
    have h6 := box_below h5 hB hs2
    have hBs := hB.size
    clear hf hB
    by_cases hlt : k < n
    · have hkl : k < O.length := by have := HN.out; omega
      obtain ⟨bb, off, rfl, hlo, hbn, hc⟩ := HX.out.at_ (by omega)
      have hfa := fnd_at inh O hkl
      have hrg : wr.rangeAt bb (off + k * 3) (Al.cs (O.getD k al0)) := fun j v hv => (HB.out.cell (p := ⟨bb, off + k * 3 + j, none⟩) hbn).trans (hc k hkl j v hv)
      have hr5 : (O.getD k al0).l < 5 := HO5.out _ (by unfold List.getD; rw [List.getElem?_eq_getElem hkl]; exact List.getElem_mem _)
      obtain ⟨r, hr⟩ : ∃ r, r = O.getD k al0 := ⟨_, rfl⟩
      rw [← hr] at hfa hrg hr5
      have HFA := Lib.hid hfa
      have HRG := Lib.hid hrg
      have hal := (Below.refl wr.heap.size wr).alloc (Nat.le_refl _) (.cells #[.int .u8 (r.l : Nat), .int .i64 r.u, .int .u8 (r.e : Nat)] 87)
      have h7 := heap_alloc_new wr (.cells #[.int .u8 (r.l : Nat), .int .i64 r.u, .int .u8 (r.e : Nat)] 87)
      have h8 := box_below h6 hal (box_lt h6)
      obtain ⟨we, hwe⟩ : ∃ we, wr.alloc (.cells #[.int .u8 (r.l : Nat), .int .i64 r.u, .int .u8 (r.e : Nat)] 87) = we := ⟨_, rfl⟩
      rw [hwe] at hal h7 h8
      have HB2 := Lib.hid (HB.out.trans (hal.mono HB.out.size))
      clear hr hfa hrg hc hal HB hlo h6
      have hrl := HRG.out
      go_upto_region 4 with (first | ((with_reducible show wpList _ _ _ (_ :: _) _ _); refine wpList_load_mid rfl 87 _ rfl _ (off + k * 3) rfl (Al.cs r) _ hrl Try.underlying87 rfl size_alr ?_; rw [show (Al.cs r).toArray = #[.int .u8 (r.l : Nat), .int .i64 r.u, .int .u8 (r.e : Nat)] from rfl]; (try go_simp)) | (((with_reducible show wpList _ _ _ (_ :: _) _ _); refine wpList_store_row rfl 87 _ _ rfl _ _ rfl rfl _ _ (heap_alloc_new _ _) (by exact size_alr) (by rfl) (by simp [Value.oneCell']) ?_; rw [World.setRow_alloc_new]); rw [hwe]))
      clear hrl hwe HRG
      obtain ⟨g7, hg7⟩ : ∃ g, g = wr.heap.size := ⟨_, rfl⟩
      rw [← hg7] at h7 ⊢
      clear hg7
      have c7 := cell_of_row _ _ 0 _ _ _ h7
      obtain ⟨t, ht⟩ : ∃ t, t = al inh r.l := ⟨_, rfl⟩
      have HAL := Lib.hid (fun w => rAllowed_any inh r.l w hinh hr5)
      rw [← ht] at HAL HFA
      clear ht
      have hqe := HQ2.out.step (show Below w2.heap.size w2 we from HB2.out)
      have b4 := hqe.of 0 rfl
      have HQE := Lib.hid hqe
      clear hqe
      cases t
      · have HF2 := Lib.hid (show fnd inh (O.drop (k + 1)) = fnd inh O from by rw [← HF.out, HFA.out]; rfl)
        clear HFA b4 h7 h8
        go_wp2_with (go_at_call 51; refine (HAL.out _).mono ?_; rintro e w9 ⟨rfl, rfl⟩)
        go_roundw
        case rel => exact ⟨k + 1, by omega, by go_num, HF2.out, HB2.out⟩
        case measure => simp [intOf]; omega
      · have HF2 := Lib.hid (show fnd inh O = some r from by rw [← HF.out, HFA.out]; rfl)
        clear HFA h8
        have hq2 := HQE.out.put 0 rfl #[.int .u8 (r.l : Nat), .int .i64 r.u, .int .u8 (r.e : Nat)]
        have HB4 := Lib.hid (hq2.of 0 rfl)
        have HBE := Lib.hid hq2.be
        clear hq2
        go_wp2_with (first | (go_at_call 51; refine (HAL.out _).mono ?_; rintro e w9 ⟨rfl, rfl⟩) | (refine wpList_load_row rfl 87 _ rfl _ rfl _ _ _ _ h7 Try.underlying87 rfl (by exact size_alr) ?_; (try go_simp)) | ((with_reducible show wpList _ _ _ (_ :: _) _ _); refine wpList_store_row rfl 87 _ _ rfl _ _ rfl rfl _ _ b4 (by exact size_alr) (by rfl) (by simp [Value.oneCell']) ?_))
        refine bodyPost_ret (results_ctA rfl _ _ _ _ _ _ rfl HB4.out Try.underlying87 rfl (by exact size_alr)) rfl ?_
        exact ⟨by rw [HF2.out]; rfl, HBE.out⟩
    · obtain rfl : k = n := by omega
      have HF2 := Lib.hid (show fnd inh O = none from by rw [← HF.out, List.drop_eq_nil_of_le (by have := HN.out; omega)]; rfl)
      have hqe := HQ2.out.step HB.out
      have b4 := hqe.of 0 rfl
      have hq2 := hqe.put 0 rfl #[.int .u8 0, .int .i64 0, .int .u8 0]
      have HB4 := Lib.hid (hq2.of 0 rfl)
      have HBE := Lib.hid hq2.be
      clear hq2 hqe h6
      go_wp2_with ((with_reducible show wpList _ _ _ (_ :: _) _ _); refine wpList_store_row rfl 87 _ _ rfl _ _ rfl rfl _ _ b4 (by exact size_alr) (by rfl) (by simp [Value.oneCell']) ?_)
      refine bodyPost_ret (results_ctA rfl _ _ _ _ _ _ rfl HB4.out Try.underlying87 rfl (by exact size_alr)) rfl ?_
      exact ⟨by rw [HF2.out]; rfl, HBE.out⟩
end Go.Proofs.Ytinaimacocgemaa
