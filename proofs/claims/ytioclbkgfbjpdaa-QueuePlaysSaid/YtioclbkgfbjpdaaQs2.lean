/- Layer 11: the law's same. -/
import Derived.Test.YtioclbkgfbjpdaaQs
import Derived.Deep.MidRow
namespace Go.Proofs.Ytioclbkgfbjpdaa
open Go.RowKit Go.Own
set_option linter.unusedVariables false
set_option linter.unusedSimpArgs false
/-- A list of reports as it is read. -/
structure RdQ (w : World) (a : Option Addr) (L : List Rq) : Prop where
  rd : 0 < L.length → ∃ b off, a = some ⟨b, off, none⟩ ∧ b < w.heap.size ∧ ∀ j u, (ql L)[j]? = some u → w.cell? ⟨b, off + j, none⟩ = some u
  len : L.length ≤ 1000
theorem RdQ.below {w w' : World} {a : Option Addr} {L : List Rq} (h : RdQ w a L) (hb : Below w.heap.size w w') : RdQ w' a L :=
  ⟨fun hp => by
    obtain ⟨b, off, e, h1, h2⟩ := h.rd hp
    exact ⟨b, off, e, Nat.lt_of_lt_of_le h1 hb.size, fun j u hj => (hb.cell (p := ⟨b, off + j, none⟩) h1).trans (h2 j u hj)⟩, h.len⟩
theorem size_11 : (Try.prog.info? 57).map (·.size) = some 5 := by kernel_rfl
theorem zero_11 (w : World) : (zeroValue 57).run Try.prog w = .ok (.agg #[.int .u8 (rq0.s : Nat), .int .u8 (rq0.u : Nat), .int .u16 (rq0.c : Nat), .int .u32 (rq0.t : Nat), .slice rq0.a rq0.n rq0.cp]) w := by kernel_rfl
theorem Below.drewN_any (B : Nat) (w : World) (n : Nat) : Below B w (w.drewN n) := ⟨rfl, rfl, rfl, Nat.le_refl _, fun _ _ => rfl⟩
theorem getD_memQ (L : List Rq) {i : Nat} (h : i < L.length) : L.getD i rq0 ∈ L := by simp [List.getD, h]
theorem RdQ.at {w : World} {a : Option Addr} {L : List Rq} (h : RdQ w a L) {i : Nat} (hi : i < L.length) : ∃ b off, a = some ⟨b, off, none⟩ ∧ b < w.heap.size ∧ w.rangeAt b (off + i * 5) (L.getD i rq0).cs := by
  obtain ⟨b, off, e, h1, h2⟩ := h.rd (by omega)
  refine ⟨b, off, e, h1, fun j v hv => ?_⟩
  have hj : j < 5 := (List.getElem?_eq_some_iff.1 hv).1
  rw [Nat.add_assoc]
  refine h2 (i * 5 + j) v ?_
  rw [ql_at L i hi j hj]; exact hv
set_option maxRecDepth 100000 in
set_option maxHeartbeats 4000000 in
theorem LSame {w : World} (a b : Option Addr) (ca cb : Nat) (L M : List Rq) (ha : RdQ w a L) (hb : RdQ w b M) (oka : ∀ r ∈ L, RqOk w 0 r) (okb : ∀ r ∈ M, RqOk w 0 r) (h : AlkL L M) :
    Calls Try.prog 21 #[.slice a L.length ca, .slice b M.length cb] w fun e w' => e = .returned (.bool true) ∧ Below w.heap.size w w' := by
  obtain ⟨n, hn⟩ : ∃ n, n = L.length := ⟨_, rfl⟩
  have hm := h.1
  rw [← hm, ← hn]
  have hn2 : n ≤ 1000 := by rw [hn]; exact ha.len
  have HA := Lib.hid ha
  have HB := Lib.hid hb
  have HOA := Lib.hid oka
  have HOB := Lib.hid okb
  have HH := Lib.hid h
  have HN := Lib.hid hn
  have HM := Lib.hid hm
  clear ha hb oka okb h hn hm
  go_enter Try.func21, Try.ntmps21
  go_wp2_with fail
  have hza := zero_rq
  have hzb := zero_11
  go_loopw [15] (fun v wr => ∃ i : Nat, i ≤ n ∧ v = .int .i64 (i : Nat) ∧ Below w.heap.size w wr) (fun v _ => n - (intOf v).toNat)
  case atStart => exact ⟨0, Nat.zero_le _, rfl, Below.refl _ _⟩
  case round =>
    obtain ⟨i, hi, rfl, hbw⟩ := hrel
    have HBW := Lib.hid hbw
    have hsz := hbw.size
    clear hbw
    by_cases hlt : i < n
    · have hiL : i < L.length := by rw [← HN.out]; exact hlt
      have hiM : i < M.length := by rw [← HM.out]; exact hiL
      obtain ⟨ba, oa, rfl, _, ra⟩ := (HA.out.below HBW.out).at hiL
      obtain ⟨bb, ob, rfl, lb, rb⟩ := (HB.out.below HBW.out).at hiM
      have hax := HOA.out _ (getD_memQ L hiL)
      have hbx := HOB.out _ (getD_memQ M hiM)
      have hal := HH.out.2 i hiL
      obtain ⟨x, hx⟩ : ∃ x, x = L.getD i rq0 := ⟨_, rfl⟩
      obtain ⟨y, hy⟩ : ∃ y, y = M.getD i rq0 := ⟨_, rfl⟩
      rw [← hx] at ra hax hal
      rw [← hy] at rb hbx hal
      clear hx hy hiL hiM
      obtain ⟨s, u, c, t, xa, xn, xc, xd⟩ := x
      obtain ⟨s', u', c', t', ya, yn, yc, xd'⟩ := y
      obtain ⟨h1, h2, h3, h4, h5⟩ := hal
      simp only at h1 h2 h3 h4 h5
      subst h1 h2 h3 h4 h5
      have HAX := Lib.hid hax
      have HBX := Lib.hid hbx
      clear hax hbx
      go_upto_region 6 with (first | ((with_reducible show wpList _ _ _ (_ :: _) _ _); refine wpList_load_mid rfl 123 _ rfl _ (oa + i * 5) rfl (Rq.cs ⟨s, u, c, t, xa, xn, xc, xd⟩) _ ra Try.underlying123 rfl size_rq ?_; rw [show (Rq.cs ⟨s, u, c, t, xa, xn, xc, xd⟩).toArray = #[.int .u8 ((s : Nat) : Int), .int .u8 ((u : Nat) : Int), .int .u16 ((c : Nat) : Int), .int .u32 ((t : Nat) : Int), .slice xa xn xc] from rfl]; (try go_simp)) | ((with_reducible show wpList _ _ _ (_ :: _) _ _); refine wpList_store_row rfl 123 _ _ rfl _ _ rfl rfl _ _ (heap_alloc_new _ _) (by exact size_rq) (by rfl) (by simp [Value.oneCell']) ?_; rw [World.setRow_alloc_new]))
      have hb5 := (Below.refl wr.heap.size wr).alloc (Nat.le_refl _) (.cells #[.int .u8 ((s : Nat) : Int), .int .u8 ((u : Nat) : Int), .int .u16 ((c : Nat) : Int), .int .u32 ((t : Nat) : Int), .slice xa xn xc] 123)
      have hx5 := heap_alloc_new wr (.cells #[.int .u8 ((s : Nat) : Int), .int .u8 ((u : Nat) : Int), .int .u16 ((c : Nat) : Int), .int .u32 ((t : Nat) : Int), .slice xa xn xc] 123)
      obtain ⟨w5, hw5⟩ : ∃ w5, w5 = wr.alloc (.cells #[.int .u8 ((s : Nat) : Int), .int .u8 ((u : Nat) : Int), .int .u16 ((c : Nat) : Int), .int .u32 ((t : Nat) : Int), .slice xa xn xc] 123) := ⟨_, rfl⟩
      obtain ⟨g6, hg6⟩ : ∃ g, g = wr.heap.size := ⟨_, rfl⟩
      rw [← hw5] at hb5 hx5 ⊢
      rw [show (Value.pointer (some ⟨wr.heap.size, 0, none⟩)) = .pointer (some ⟨g6, 0, none⟩) by rw [hg6]]
      rw [← hg6] at hx5
      have HX5 := Lib.hid hx5
      have HB5 := Lib.hid hb5
      have rb : w5.rangeAt bb (ob + i * 5) (Rq.cs ⟨s, u, c, t, ya, yn, yc, xd⟩) := fun j v hv => (hb5.cell (p := ⟨bb, ob + i * 5 + j, none⟩) lb).trans (rb j v hv)
      clear hw5 hg6 hx5 hb5 ra lb
      simp only [Act.put]
      go_upto_region 7 with (first | ((with_reducible show wpList _ _ _ (_ :: _) _ _); refine wpList_load_mid rfl 57 _ rfl _ (ob + i * 5) rfl (Rq.cs ⟨s, u, c, t, ya, yn, yc, xd⟩) _ rb Try.underlying57 rfl size_11 ?_; rw [show (Rq.cs ⟨s, u, c, t, ya, yn, yc, xd⟩).toArray = #[.int .u8 ((s : Nat) : Int), .int .u8 ((u : Nat) : Int), .int .u16 ((c : Nat) : Int), .int .u32 ((t : Nat) : Int), .slice ya yn yc] from rfl]; (try go_simp)) | ((with_reducible show wpList _ _ _ (_ :: _) _ _); refine wpList_store_row rfl 57 _ _ rfl _ _ rfl rfl _ _ (heap_alloc_new _ _) (by exact size_11) (by rfl) (by simp [Value.oneCell']) ?_; rw [World.setRow_alloc_new]))
      have hb6 := (Below.refl w5.heap.size w5).alloc (Nat.le_refl _) (.cells #[.int .u8 ((s : Nat) : Int), .int .u8 ((u : Nat) : Int), .int .u16 ((c : Nat) : Int), .int .u32 ((t : Nat) : Int), .slice ya yn yc] 57)
      have hy6 := heap_alloc_new w5 (.cells #[.int .u8 ((s : Nat) : Int), .int .u8 ((u : Nat) : Int), .int .u16 ((c : Nat) : Int), .int .u32 ((t : Nat) : Int), .slice ya yn yc] 57)
      obtain ⟨w6, hw6⟩ : ∃ w6, w6 = w5.alloc (.cells #[.int .u8 ((s : Nat) : Int), .int .u8 ((u : Nat) : Int), .int .u16 ((c : Nat) : Int), .int .u32 ((t : Nat) : Int), .slice ya yn yc] 57) := ⟨_, rfl⟩
      obtain ⟨g7, hg7⟩ : ∃ g, g = w5.heap.size := ⟨_, rfl⟩
      rw [← hw6] at hb6 hy6 ⊢
      rw [show (Value.pointer (some ⟨w5.heap.size, 0, none⟩)) = .pointer (some ⟨g7, 0, none⟩) by rw [hg7]]
      rw [← hg7] at hy6
      have hx6 := box_below HX5.out hb6 (box_lt HX5.out)
      have hB6 : Below w.heap.size w w6 := (HBW.out.trans (HB5.out.mono hsz)).trans (hb6.mono (Nat.le_trans hsz HB5.out.size))
      have HB6 := Lib.hid hB6
      have hrx := HAX.out.rd.below hB6
      have hry := HBX.out.rd.below hB6
      have lnx : xd.length = xn := HAX.out.len
      have lny : xd.length = yn := HBX.out.len
      have hby : bytes xd := HAX.out.by_
      have HS := Lib.hid ((Same_any xa ya xn yn xc yc _ _ xd xd w6 lnx lny hrx hry hby hby).mono (R' := fun e w' => e = .returned (.bool true) ∧ ∃ m, w' = w6.drewN m) (fun e w' ⟨he, hj⟩ => ⟨by rw [he]; simp, hj⟩))
      have x0 : w6.cell? ⟨g6, 0, none⟩ = some (.int .u8 ((s : Nat) : Int)) := cell_of_row _ _ 0 _ _ _ hx6
      have x1 : w6.cell? ⟨g6, 1, none⟩ = some (.int .u8 ((u : Nat) : Int)) := cell_of_row _ _ 1 _ _ _ hx6
      have x2 : w6.cell? ⟨g6, 2, none⟩ = some (.int .u16 ((c : Nat) : Int)) := cell_of_row _ _ 2 _ _ _ hx6
      have x3 : w6.cell? ⟨g6, 3, none⟩ = some (.int .u32 ((t : Nat) : Int)) := cell_of_row _ _ 3 _ _ _ hx6
      have x4 : w6.cell? ⟨g6, 4, none⟩ = some (.slice xa xn xc) := cell_of_row _ _ 4 _ _ _ hx6
      have y0 : w6.cell? ⟨g7, 0, none⟩ = some (.int .u8 ((s : Nat) : Int)) := cell_of_row _ _ 0 _ _ _ hy6
      have y1 : w6.cell? ⟨g7, 1, none⟩ = some (.int .u8 ((u : Nat) : Int)) := cell_of_row _ _ 1 _ _ _ hy6
      have y2 : w6.cell? ⟨g7, 2, none⟩ = some (.int .u16 ((c : Nat) : Int)) := cell_of_row _ _ 2 _ _ _ hy6
      have y3 : w6.cell? ⟨g7, 3, none⟩ = some (.int .u32 ((t : Nat) : Int)) := cell_of_row _ _ 3 _ _ _ hy6
      have y4 : w6.cell? ⟨g7, 4, none⟩ = some (.slice ya yn yc) := cell_of_row _ _ 4 _ _ _ hy6
      clear hw6 hg7 hb6 hy6 hx6 hB6 hrx hry lnx lny hby rb HB5 HX5 hza hzb
      simp only [Act.put]
      go_wp2_with fail
      go_at_call 66
      refine (HS.out).mono ?_
      rintro e w' ⟨rfl, nq, rfl⟩
      have HB7 := Lib.hid (HB6.out.trans (Below.drewN_any _ w6 nq))
      obtain ⟨w7, hw7⟩ : ∃ w7, w7 = w6.drewN nq := ⟨_, rfl⟩
      rw [← hw7] at HB7 ⊢
      clear hw7 x0 x1 x2 x3 x4 y0 y1 y2 y3 y4 HS
      go_wp2_with fail
      go_roundw
      case rel => exact ⟨i + 1, by omega, by go_num, HB7.out⟩
      case measure => simp [intOf]; omega
    · obtain rfl : i = n := by omega
      go_wp2_with fail
      go_ret
      exact ⟨rfl, HBW.out⟩
end Go.Proofs.Ytioclbkgfbjpdaa
