/- Layer 7: the next cell. -/
import Derived.Test.YtpgophkegjeheaaMem3
namespace Go.Proofs.Ytpgophkegjeheaa
open Go.RowKit Go.Own
set_option linter.unusedVariables false
set_option linter.unusedSimpArgs false
variable {w : World} {B g : Nat} {v : Nat → Value} {ls : Nat → List Nat}

/-- The greatest number among the first k. -/
def gtop (ls : Nat → List Nat) : Nat → Nat
  | 0 => 0
  | k + 1 => if perr (ls k) = 0 then max (gtop ls k) (pseq (ls k)) else gtop ls k
theorem gtop_lt (ls : Nat → List Nat) (h : ∀ i, i < 4 → bytes (ls i)) : ∀ k, k ≤ 3 → gtop ls k < 4294967296
  | 0, _ => by simp [gtop]
  | k + 1, hk => by
    have ih := gtop_lt ls h k (by omega)
    have := pseq_lt (h k (by omega))
    unfold gtop; split <;> omega
/-- What next hands back. -/
def NextPost (w : World) (ls : Nat → List Nat) (p : List Nat) (e : Ending) (w' : World) : Prop :=
  Below w.heap.size w w' ∧ ((200 < p.length ∧ e = .returned (.tuple #[.slice none 0 0, .int .i64 4])) ∨ (p.length ≤ 200 ∧ gtop ls 3 = 4294967295 ∧ e = .returned (.tuple #[.slice none 0 0, .int .i64 6])) ∨
    (p.length ≤ 200 ∧ gtop ls 3 < 4294967295 ∧ ∃ a c, e = .returned (.tuple #[.slice a (p.length + 8) c, .int .i64 0]) ∧ w'.ownsRow w.heap.size 5 1 (.slice a (p.length + 8) c) (p.length + 8) (bl (mkCell (gtop ls 3 + 1) p))))
theorem run_maxN {P : Program} (ats : Array TypeId) (ty : TypeId) (k : IntKind) (a b : Nat) (w : World) : (Builtin.max_ ats ty #[.int k (a : Nat), .int k (b : Nat)]).run P w = .ok (.int k ((max a b : Nat) : Int)) w := by
  have e2 : (Builtin.max2 (.int k (a : Nat)) (.int k (b : Nat))).run P w = .ok (.int k ((max a b : Nat) : Int)) w := by
    unfold Builtin.max2
    by_cases h : a < b
    · have e : max a b = b := by omega
      simp [e, h]
    · have e : max a b = a := by omega
      simp [e, h]
  simp [Builtin.max_, e2]
set_option maxRecDepth 100000 in
set_option maxHeartbeats 4000000 in
theorem mnext (a : Option Addr) (cap n : Nat) (p : List Nat) (h : MemS w B g v ls) (hn : n ≤ w.heap.size) (hr : Rd n w a p.length cap (bv p)) (hb : bytes p) :
    Calls Try.prog 68 #[.pointer (some ⟨g, 0, none⟩), .slice a p.length cap] w (NextPost w ls p) := by
  obtain ⟨pa, pc, hf⟩ := h.forms
  have hPar : ∀ i, i < 3 → ∀ wr, Below w.heap.size w wr → Calls Try.prog 93 #[.slice (pa i) (ls i).length (pc i)] wr (ParsePost wr (ls i)) := fun i hi wr hB =>
    cParse_any (pa i) (ls i).length (pc i) w.heap.size (ls i) wr rfl hB.size ((hf i (by omega)).2.below hB) (h.byt i (by omega)) (h.len i (by omega))
  have hgt := gtop_lt ls h.byt 3 (Nat.le_refl _)
  have c0 := h.c0
  have c1 := h.c1
  have c2 := h.c2
  rw [(hf 0 (by omega)).1] at c0
  rw [(hf 1 (by omega)).1] at c1
  rw [(hf 2 (by omega)).1] at c2
  have hMake := fun (s : Nat) (wr : World) (hs : s < 4294967296) (hB : Below w.heap.size w wr) => cMake_any s a p.length cap n p wr hs rfl (Nat.le_trans hn hB.size) (hr.below' hB hn) hb
  obtain ⟨len, hlen⟩ : ∃ len, len = p.length := ⟨_, rfl⟩
  rw [← hlen] at hMake ⊢
  have HLEN := Lib.hid hlen
  have HMK := Lib.hid hMake
  have HGT := Lib.hid hgt
  clear hMake hgt hf hr hb h hlen
  go_enter Try.func68, Try.ntmps68
  go_wp2
  have HP := Lib.hid hPar
  clear hPar
  go_loopw [6, 16] (fun q i wr => ∃ k : Nat, k ≤ 3 ∧ i = .int .i64 k ∧ q = .int .u32 (gtop ls k : Nat) ∧ Below w.heap.size w wr) (fun _ i _ => 3 - (intOf i).toNat)
  case atStart => exact ⟨0, by omega, rfl, rfl, Below.refl _ _⟩
  case round =>
    obtain ⟨k, hk, rfl, rfl, hB⟩ := hrel
    have hPar := HP.out
    have : k = 0 ∨ k = 1 ∨ k = 2 ∨ k = 3 := by omega
    rcases this with rfl | rfl | rfl | rfl
    · have hpo := hPar 0 (by omega) wr hB
      obtain ⟨q, hq⟩ : ∃ q, q = gtop ls 0 := ⟨_, rfl⟩
      rw [← hq]
      have HQ := Lib.hid hq
      have HPO := Lib.hid hpo
      clear hq hpo
      go_wp2_with fail
      go_at_call 93
      refine HPO.out.mono ?_
      rintro e w2 ⟨hb2, ⟨he, x, c, rfl, hrd2⟩ | ⟨he, rfl⟩⟩
      · obtain ⟨s, hs⟩ : ∃ s, s = pseq (ls 0) := ⟨_, rfl⟩
        rw [← hs]
        have hg : gtop ls (0 + 1) = max q s := by rw [gtop, if_pos he, HQ.out, hs]
        have HG := Lib.hid hg
        have HB2 := Lib.hid (hB.trans (hb2.mono hB.size))
        have hmx := fun w : World => run_maxN (P := Try.prog) #[56, 56] 56 .u32 q s w
        clear hg hs he hrd2 hb2 hB HPO
        go_wp2
        go_roundw
        case rel => exact ⟨0 + 1, by omega, by go_num, by rw [HG.out], HB2.out⟩
        case measure => simp [intOf]
      · have hg : gtop ls (0 + 1) = q := by rw [gtop, if_neg he, HQ.out]
        have HG := Lib.hid hg
        have HB2 := Lib.hid (hB.trans (hb2.mono hB.size))
        obtain ⟨er, her⟩ : ∃ er, er = perr (ls 0) := ⟨_, rfl⟩
        rw [← her]
        have hne : ((er : Int) == 0) = false := by rw [beq_eq_false_iff_ne]; omega
        clear hg her he hb2 hB HPO
        go_wp2
        go_roundw
        case rel => exact ⟨0 + 1, by omega, by go_num, by rw [HG.out], HB2.out⟩
        case measure => simp [intOf]
    · have hpo := hPar 1 (by omega) wr hB
      obtain ⟨q, hq⟩ : ∃ q, q = gtop ls 1 := ⟨_, rfl⟩
      rw [← hq]
      have HQ := Lib.hid hq
      have HPO := Lib.hid hpo
      clear hq hpo
      go_wp2_with fail
      go_at_call 93
      refine HPO.out.mono ?_
      rintro e w2 ⟨hb2, ⟨he, x, c, rfl, hrd2⟩ | ⟨he, rfl⟩⟩
      · obtain ⟨s, hs⟩ : ∃ s, s = pseq (ls 1) := ⟨_, rfl⟩
        rw [← hs]
        have hg : gtop ls (1 + 1) = max q s := by rw [gtop, if_pos he, HQ.out, hs]
        have HG := Lib.hid hg
        have HB2 := Lib.hid (hB.trans (hb2.mono hB.size))
        have hmx := fun w : World => run_maxN (P := Try.prog) #[56, 56] 56 .u32 q s w
        clear hg hs he hrd2 hb2 hB HPO
        go_wp2
        go_roundw
        case rel => exact ⟨1 + 1, by omega, by go_num, by rw [HG.out], HB2.out⟩
        case measure => simp [intOf]
      · have hg : gtop ls (1 + 1) = q := by rw [gtop, if_neg he, HQ.out]
        have HG := Lib.hid hg
        have HB2 := Lib.hid (hB.trans (hb2.mono hB.size))
        obtain ⟨er, her⟩ : ∃ er, er = perr (ls 1) := ⟨_, rfl⟩
        rw [← her]
        have hne : ((er : Int) == 0) = false := by rw [beq_eq_false_iff_ne]; omega
        clear hg her he hb2 hB HPO
        go_wp2
        go_roundw
        case rel => exact ⟨1 + 1, by omega, by go_num, by rw [HG.out], HB2.out⟩
        case measure => simp [intOf]
    · have hpo := hPar 2 (by omega) wr hB
      obtain ⟨q, hq⟩ : ∃ q, q = gtop ls 2 := ⟨_, rfl⟩
      rw [← hq]
      have HQ := Lib.hid hq
      have HPO := Lib.hid hpo
      clear hq hpo
      go_wp2_with fail
      go_at_call 93
      refine HPO.out.mono ?_
      rintro e w2 ⟨hb2, ⟨he, x, c, rfl, hrd2⟩ | ⟨he, rfl⟩⟩
      · obtain ⟨s, hs⟩ : ∃ s, s = pseq (ls 2) := ⟨_, rfl⟩
        rw [← hs]
        have hg : gtop ls (2 + 1) = max q s := by rw [gtop, if_pos he, HQ.out, hs]
        have HG := Lib.hid hg
        have HB2 := Lib.hid (hB.trans (hb2.mono hB.size))
        have hmx := fun w : World => run_maxN (P := Try.prog) #[56, 56] 56 .u32 q s w
        clear hg hs he hrd2 hb2 hB HPO
        go_wp2
        go_roundw
        case rel => exact ⟨2 + 1, by omega, by go_num, by rw [HG.out], HB2.out⟩
        case measure => simp [intOf]
      · have hg : gtop ls (2 + 1) = q := by rw [gtop, if_neg he, HQ.out]
        have HG := Lib.hid hg
        have HB2 := Lib.hid (hB.trans (hb2.mono hB.size))
        obtain ⟨er, her⟩ : ∃ er, er = perr (ls 2) := ⟨_, rfl⟩
        rw [← her]
        have hne : ((er : Int) == 0) = false := by rw [beq_eq_false_iff_ne]; omega
        clear hg her he hb2 hB HPO
        go_wp2
        go_roundw
        case rel => exact ⟨2 + 1, by omega, by go_num, by rw [HG.out], HB2.out⟩
        case measure => simp [intOf]
    · clear hPar
      obtain ⟨q, hq⟩ : ∃ q, q = gtop ls 3 := ⟨_, rfl⟩
      rw [← hq]
      have hqlt : q < 4294967296 := by rw [hq]; exact HGT.out
      have HQ := Lib.hid hq
      have HB := Lib.hid hB
      clear hq hB
      by_cases h1 : 200 < len
      · go_wp2
        go_ret2
        exact ⟨HB.out, .inl ⟨by rw [← HLEN.out]; exact h1, rfl⟩⟩
      · by_cases h2 : q = 4294967295
        · have h2' : ((q : Int) == 4294967295) = true := by simp; omega
          have h1' : ¬ ((200 : Int) < (len : Int)) := by omega
          go_wp2
          go_ret2
          exact ⟨HB.out, .inr (.inl ⟨by rw [← HLEN.out]; omega, by rw [← HQ.out]; exact h2, rfl⟩)⟩
        · have h2' : ((q : Int) == 4294967295) = false := by rw [beq_eq_false_iff_ne]; omega
          have h1' : ¬ ((200 : Int) < (len : Int)) := by omega
          have hw : IntKind.u32.wrap ((q : Int) + 1) = ((q + 1 : Nat) : Int) := by rw [IntKind.wrap_u32]; omega
          have hw2 : (q : Int) + 1 = ((q + 1 : Nat) : Int) := by omega
          obtain ⟨q1, hq1⟩ : ∃ q1, q1 = q + 1 := ⟨_, rfl⟩
          rw [← hq1] at hw hw2
          have HQ1 := Lib.hid hq1
          clear hq1
          go_wp2_with fail
          go_at_call 94
          refine (HMK.out q1 _ (by have := HQ1.out; omega) HB.out).mono ?_
          rintro e w2 ⟨hb2, ⟨h3, rfl⟩ | ⟨h3, x, rfl, hown⟩⟩
          · omega
          · obtain ⟨xa, xc, rfl⟩ := own_form hown
            have HB2 := Lib.hid (HB.out.trans (hb2.mono HB.out.size))
            have HOW := Lib.hid (World.ownsRow.mono hown HB.out.size)
            clear hb2 hown
            go_wp2
            go_ret2
            refine ⟨HB2.out, .inr (.inr ⟨by rw [← HLEN.out]; omega, by rw [← HQ.out]; omega, xa, xc, by rw [← HLEN.out]; rfl, ?_⟩)⟩
            rw [← HLEN.out, ← HQ.out, ← HQ1.out]
            exact HOW.out
end Go.Proofs.Ytpgophkegjeheaa
