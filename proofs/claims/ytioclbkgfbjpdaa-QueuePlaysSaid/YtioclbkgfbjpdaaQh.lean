/- Layer 11: how many of these there are. -/
import Derived.Test.YtioclbkgfbjpdaaQs2
namespace Go.Proofs.Ytioclbkgfbjpdaa
open Go.RowKit Go.Own
set_option linter.unusedVariables false
set_option linter.unusedSimpArgs false
def hasQ (s u : Nat) (L : List Rq) : Nat := L.countP (fun r => decide (r.s = s ∧ r.u = u))
theorem hasQ_le (s u : Nat) (L : List Rq) : hasQ s u L ≤ L.length := List.countP_le_length
theorem hasQ_succ (p v : Nat) (L : List Rq) {i : Nat} (h : i < L.length) : hasQ p v (L.take (i + 1)) = hasQ p v (L.take i) + (if (L.getD i rq0).s = p ∧ (L.getD i rq0).u = v then 1 else 0) := by
  have e : L.take (i + 1) = L.take i ++ [L.getD i rq0] := by
    rw [List.take_succ_eq_append_getElem h]; simp [List.getD, h]
  unfold hasQ
  rw [e, List.countP_append]
  simp [List.countP_cons]
theorem hasQ_alk (p v : Nat) {L M : List Rq} (h : AlkL L M) : hasQ p v L = hasQ p v M := by
  have key : ∀ i, i ≤ L.length → hasQ p v (L.take i) = hasQ p v (M.take i) := by
    intro i
    induction i with
    | zero => intro _; rfl
    | succ i ih =>
      intro hi
      have h1 := h.2 i (by omega)
      rw [hasQ_succ p v L (by omega), hasQ_succ p v M (by rw [← h.1]; omega), ih (by omega), h1.1, h1.2.1]
  have := key L.length (Nat.le_refl _)
  rw [List.take_length, h.1, List.take_length] at this
  exact this
set_option maxRecDepth 100000 in
set_option maxHeartbeats 4000000 in
theorem Has_any {w : World} (a : Option Addr) (ca p v0 : Nat) (L : List Rq) (hp : p < 256) (hv : v0 < 256) (ha : RdQ w a L) (oka : ∀ r ∈ L, RqOk w 0 r) :
    Calls Try.prog 28 #[.slice a L.length ca, .int .u8 ((p : Nat) : Int), .int .u8 ((v0 : Nat) : Int)] w fun e w' => e = .returned (.int .i64 ((hasQ p v0 L : Nat) : Int)) ∧ Below w.heap.size w w' := by
  obtain ⟨n, hn⟩ : ∃ n, n = L.length := ⟨_, rfl⟩
  rw [← hn]
  have hn2 : n ≤ 1000 := by rw [hn]; exact ha.len
  have HA := Lib.hid ha
  have HOA := Lib.hid oka
  have HN := Lib.hid hn
  have hza := zero_rq
  clear ha oka hn
  go_enter Try.func28, Try.ntmps28
  go_wp2_with fail
  go_loopw [7, 12] (fun k v wr => ∃ i : Nat, i ≤ n ∧ v = .int .i64 (i : Nat) ∧ k = .int .i64 ((hasQ p v0 (L.take i) : Nat) : Int) ∧ Below w.heap.size w wr) (fun _ v _ => n - (intOf v).toNat)
  case atStart => exact ⟨0, Nat.zero_le _, rfl, rfl, Below.refl _ _⟩
  case round =>
    obtain ⟨i, hi, rfl, rfl, hbw⟩ := hrel
    have HBW := Lib.hid hbw
    have hsz := hbw.size
    clear hbw
    by_cases hlt : i < n
    · have hiL : i < L.length := by rw [← HN.out]; exact hlt
      obtain ⟨ba, oa, rfl, _, ra⟩ := (HA.out.below HBW.out).at hiL
      have hsc := hasQ_succ p v0 L hiL
      have hax := HOA.out _ (getD_memQ L hiL)
      obtain ⟨x, hx⟩ : ∃ x, x = L.getD i rq0 := ⟨_, rfl⟩
      rw [← hx] at ra hsc hax
      clear hx
      obtain ⟨kk, hkk⟩ : ∃ kk, kk = hasQ p v0 (L.take i) := ⟨_, rfl⟩
      have hkl : kk ≤ 1000 := by rw [hkk]; exact Nat.le_trans (hasQ_le _ _ _) (by rw [List.length_take]; omega)
      rw [← hkk] at hsc ⊢
      clear hkk hiL
      obtain ⟨s, u, c, t, xa, xn, xc, xd⟩ := x
      have hs1 : s < 256 := hax.hs
      have hu1 : u < 256 := hax.hu
      have HSC := Lib.hid (show hasQ p v0 (L.take (i + 1)) = kk + (if s = p ∧ u = v0 then 1 else 0) from hsc)
      clear hax hsc
      have hb5 := (Below.refl wr.heap.size wr).alloc (Nat.le_refl _) (.cells #[.int .u8 ((s : Nat) : Int), .int .u8 ((u : Nat) : Int), .int .u16 ((c : Nat) : Int), .int .u32 ((t : Nat) : Int), .slice xa xn xc] 123)
      have hx5 := heap_alloc_new wr (.cells #[.int .u8 ((s : Nat) : Int), .int .u8 ((u : Nat) : Int), .int .u16 ((c : Nat) : Int), .int .u32 ((t : Nat) : Int), .slice xa xn xc] 123)
      go_upto_region 5 with (first | ((with_reducible show wpList _ _ _ (_ :: _) _ _); refine wpList_load_mid rfl 123 _ rfl _ (oa + i * 5) rfl (Rq.cs ⟨s, u, c, t, xa, xn, xc, xd⟩) _ ra Try.underlying123 rfl size_rq ?_; rw [show (Rq.cs ⟨s, u, c, t, xa, xn, xc, xd⟩).toArray = #[.int .u8 ((s : Nat) : Int), .int .u8 ((u : Nat) : Int), .int .u16 ((c : Nat) : Int), .int .u32 ((t : Nat) : Int), .slice xa xn xc] from rfl]; (try go_simp)) | ((with_reducible show wpList _ _ _ (_ :: _) _ _); refine wpList_store_row rfl 123 _ _ rfl _ _ rfl rfl _ _ (heap_alloc_new _ _) (by exact size_rq) (by rfl) (by simp [Value.oneCell']) ?_; rw [World.setRow_alloc_new]))
      obtain ⟨w5, hw5⟩ : ∃ w5, w5 = wr.alloc (.cells #[.int .u8 ((s : Nat) : Int), .int .u8 ((u : Nat) : Int), .int .u16 ((c : Nat) : Int), .int .u32 ((t : Nat) : Int), .slice xa xn xc] 123) := ⟨_, rfl⟩
      obtain ⟨g6, hg6⟩ : ∃ g, g = wr.heap.size := ⟨_, rfl⟩
      rw [← hw5] at hb5 hx5 ⊢
      rw [show (Value.pointer (some ⟨wr.heap.size, 0, none⟩)) = .pointer (some ⟨g6, 0, none⟩) by rw [hg6]]
      rw [← hg6] at hx5
      have HB5 := Lib.hid (HBW.out.trans (hb5.mono hsz))
      have x0 : w5.cell? ⟨g6, 0, none⟩ = some (.int .u8 ((s : Nat) : Int)) := cell_of_row _ _ 0 _ _ _ hx5
      have x1 : w5.cell? ⟨g6, 1, none⟩ = some (.int .u8 ((u : Nat) : Int)) := cell_of_row _ _ 1 _ _ _ hx5
      clear hw5 hg6 hx5 hb5 ra hza
      simp only [Act.put]
      by_cases e1 : s = p
      · have f1 : ((s : Int) == (p : Int)) = true := by rw [beq_iff_eq]; omega
        by_cases e2 : u = v0
        · have f2 : ((u : Int) == (v0 : Int)) = true := by rw [beq_iff_eq]; omega
          have HR := Lib.hid (show hasQ p v0 (L.take (i + 1)) = kk + 1 by rw [HSC.out, if_pos ⟨e1, e2⟩])
          clear e1 e2
          go_wp2_with fail
          go_roundw
          case rel => exact ⟨i + 1, by omega, by go_num, by rw [HR.out]; go_num, HB5.out⟩
          case measure => simp [intOf]; omega
        · have f2 : ((u : Int) == (v0 : Int)) = false := by rw [beq_eq_false_iff_ne]; omega
          have HR := Lib.hid (show hasQ p v0 (L.take (i + 1)) = kk by rw [HSC.out, if_neg (fun h => e2 h.2), Nat.add_zero])
          clear e1 e2
          go_wp2_with fail
          go_roundw
          case rel => exact ⟨i + 1, by omega, by go_num, by rw [HR.out], HB5.out⟩
          case measure => simp [intOf]; omega
      · have f1 : ((s : Int) == (p : Int)) = false := by rw [beq_eq_false_iff_ne]; omega
        have HR := Lib.hid (show hasQ p v0 (L.take (i + 1)) = kk by rw [HSC.out, if_neg (fun h => e1 h.1), Nat.add_zero])
        clear e1
        go_wp2_with fail
        go_roundw
        case rel => exact ⟨i + 1, by omega, by go_num, by rw [HR.out], HB5.out⟩
        case measure => simp [intOf]; omega
    · obtain rfl : i = n := by omega
      have e : L.take i = L := List.take_of_length_le (by rw [HN.out]; exact Nat.le_refl _)
      go_wp2_with fail
      go_ret
      exact ⟨by rw [e]; rfl, HBW.out⟩
end Go.Proofs.Ytioclbkgfbjpdaa
