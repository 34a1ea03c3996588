/- Contracts of layer 11 (the queue): what a queue is; made, asked. -/
import Derived.Test.YtioclbkgfbjpdaaRqL
import Derived.Test.YtioclbkgfbjpdaaFloB
namespace Go.Proofs.Ytioclbkgfbjpdaa
open Go.RowKit Go.Own
set_option linter.unusedVariables false
set_option linter.unusedSimpArgs false
/-- What lies in a report's slice; none of it below B. -/
structure RqOk (w : World) (B : Nat) (r : Rq) : Prop where
  hs : r.s < 256
  hu : r.u < 256
  hc : r.c < 65536
  ht : r.t < 4294967296
  len : r.d.length = r.n
  le : r.n ≤ 189
  by_ : bytes r.d
  rd : Rd w.heap.size w r.a r.n r.cp (bv r.d)
  lo : ∀ x, r.a = some x → B ≤ x.block
/-- A queue: its block gq, its ring's blocks g and b, its room n, the next number. -/
structure QuS (w : World) (B gq g b n cnt d : Nat) (L : List Rq) : Prop where
  box : w.heap[gq]? = some (.cells #[.pointer (some ⟨g, 0, none⟩), .int .u16 (cnt : Nat)] 125 (0, 0))
  ring : Ring w g b n L d
  ng : gq ≠ g
  nb : gq ≠ b
  hcnt : cnt < 65536
  hg : g < B
  hb : b < B
  hq : gq < B
  data : ∀ r ∈ L, RqOk w B r
/-- All but the queue's three blocks stays as it is. -/
structure Kep3 (gq g b : Nat) (w w' : World) : Prop where
  os : w'.os = w.os
  tape : w'.tape = w.tape
  output : w'.output = w.output
  size : w.heap.size ≤ w'.heap.size
  block : ∀ k, k < w.heap.size → k ≠ gq → k ≠ g → k ≠ b → w'.heap[k]? = w.heap[k]?
theorem Kep3.refl (gq g b : Nat) (w : World) : Kep3 gq g b w w := ⟨rfl, rfl, rfl, Nat.le_refl _, fun _ _ _ _ _ => rfl⟩
theorem Kep3.trans {gq g b : Nat} {w w' w'' : World} (h : Kep3 gq g b w w') (k : Kep3 gq g b w' w'') : Kep3 gq g b w w'' :=
  ⟨k.os.trans h.os, k.tape.trans h.tape, k.output.trans h.output, Nat.le_trans h.size k.size, fun i hi h1 h2 h3 => (k.block i (Nat.lt_of_lt_of_le hi h.size) h1 h2 h3).trans (h.block i hi h1 h2 h3)⟩
theorem Kep3.below {gq g b B : Nat} {w w' : World} (h : Kep3 gq g b w w') (hq : B ≤ gq) (hg : B ≤ g) (hb : B ≤ b) (hB : B ≤ w.heap.size) : Below B w w' :=
  ⟨h.os, h.tape, h.output, h.size, fun k hk => h.block k (by omega) (by omega) (by omega) (by omega)⟩
theorem Kep3.of_below {gq g b : Nat} {w w' : World} (h : Below w.heap.size w w') : Kep3 gq g b w w' := ⟨h.os, h.tape, h.output, h.size, fun k hk _ _ _ => h.block k hk⟩
theorem Kep3.of_kept {gq g b : Nat} {w w' : World} (h : Kept g b w w') : Kep3 gq g b w w' := ⟨h.os, h.tape, h.output, h.size, fun k hk _ h1 h2 => h.block k hk h1 h2⟩
theorem Kep3.set {gq g b : Nat} {w w' : World} (h : Kep3 gq g b w w') (i : Nat) (u : Value) : Kep3 gq g b w (w'.setCell ⟨gq, i, none⟩ u) :=
  h.trans ⟨rfl, rfl, rfl, by simp, fun k _ h1 _ _ => heap_setCell_other w' ⟨gq, i, none⟩ k u h1⟩
theorem Rd.away {w w' : World} {n B : Nat} {a : Option Addr} {l c : Nat} {f : Nat → Value} (h : Rd w.heap.size w a l c f) (hsz : w.heap.size ≤ w'.heap.size) (hk : ∀ x, a = some x → x.block < w.heap.size → w'.heap[x.block]? = w.heap[x.block]?) : Rd w'.heap.size w' a l c f :=
  ⟨h.le, h.top, h.nil_, fun hl => by
    obtain ⟨b, off, e, hb, hc⟩ := h.row hl
    exact ⟨b, off, e, Nat.lt_of_lt_of_le hb hsz, fun i hi => (World.cell?_of_block (a := ⟨b, off + i, none⟩) (hk ⟨b, off, none⟩ e hb)).trans (hc i hi)⟩⟩
theorem RqOk.kep {w w' : World} {B gq g b : Nat} {r : Rq} (h : RqOk w B r) (hk : Kep3 gq g b w w') (hq : gq < B) (hg : g < B) (hb : b < B) : RqOk w' B r :=
  ⟨h.hs, h.hu, h.hc, h.ht, h.len, h.le, h.by_, Rd.away (n := 0) (B := 0) h.rd hk.size (fun x hx hlt => by
    have := h.lo x hx
    exact hk.block _ hlt (by omega) (by omega) (by omega)), h.lo⟩
theorem RqOk.below {w w' : World} {B k : Nat} {r : Rq} (h : RqOk w B r) (hb : Below k w w') (hk : w.heap.size ≤ k) : RqOk w' B r :=
  ⟨h.hs, h.hu, h.hc, h.ht, h.len, h.le, h.by_, rd_grow h.rd (hb.mono hk), h.lo⟩
theorem QuS.below {w w' : World} {B gq g b n cnt d k : Nat} {L : List Rq} (h : QuS w B gq g b n cnt d L) (hb : Below k w w') (hk : w.heap.size ≤ k) : QuS w' B gq g b n cnt d L :=
  ⟨box_below h.box hb (Nat.lt_of_lt_of_le (box_lt h.box) hk), h.ring.below hb hk, h.ng, h.nb, h.hcnt, h.hg, h.hb, h.hq, fun r hr => (h.data r hr).below hb hk⟩
section
variable {w : World} {B gq g b n cnt d : Nat} {L : List Rq}
theorem QuS.p0 (h : QuS w B gq g b n cnt d L) : w.cell? ⟨gq, 0, none⟩ = some (.pointer (some ⟨g, 0, none⟩)) := cell_of_row w gq 0 _ _ _ h.box
theorem QuS.p1 (h : QuS w B gq g b n cnt d L) : w.cell? ⟨gq, 1, none⟩ = some (.int .u16 (cnt : Nat)) := cell_of_row w gq 1 _ _ _ h.box
theorem QuS.fz (h : QuS w B gq g b n cnt d L) (i : Nat) : w.frozen? ⟨gq, i, none⟩ = false := frozen_of_row w gq i _ _ h.box
set_option maxHeartbeats 1000000 in
theorem qLen (h : QuS w B gq g b n cnt d L) : Calls Try.prog 24 #[.pointer (some ⟨gq, 0, none⟩)] w fun e w' => e = .returned (.int .i64 (L.length : Nat)) ∧ w = w' := by
  have p0 := h.p0
  have H := Lib.hid h.ring
  clear h
  go_enter Try.func24, Try.ntmps24
  go_wp2_with fail
  go_at_call 70
  refine (rLen H.out).mono ?_
  rintro e w' ⟨rfl, rfl⟩
  go_wp2
  go_ret
  exact ⟨rfl, rfl⟩
set_option maxHeartbeats 1000000 in
theorem qDropped (h : QuS w B gq g b n cnt d L) : Calls Try.prog 25 #[.pointer (some ⟨gq, 0, none⟩)] w fun e w' => e = .returned (.int .i64 (d : Nat)) ∧ w = w' := by
  have p0 := h.p0
  have H := Lib.hid h.ring
  clear h
  go_enter Try.func25, Try.ntmps25
  go_wp2_with fail
  go_at_call 71
  refine (rDropped H.out).mono ?_
  rintro e w' ⟨rfl, rfl⟩
  go_wp2
  go_ret
  exact ⟨rfl, rfl⟩
set_option maxHeartbeats 1000000 in
theorem qCount (h : QuS w B gq g b n cnt d L) : Calls Try.prog 26 #[.pointer (some ⟨gq, 0, none⟩)] w fun e w' => e = .returned (.int .u16 (cnt : Nat)) ∧ w = w' := by
  have p1 := h.p1
  clear h
  go_enter Try.func26, Try.ntmps26
  go_wp2
  go_ret
  exact ⟨rfl, rfl⟩
end
set_option maxRecDepth 100000 in
set_option maxHeartbeats 1000000 in
theorem qNew_ok (n : Nat) (w : World) (h1 : 1 ≤ n) (h2 : n ≤ 16) : Calls Try.prog 18 #[.int .i64 (n : Nat)] w fun e w' => ∃ gq g b, e = .returned (.tuple #[.pointer (some ⟨gq, 0, none⟩), .int .i64 0]) ∧ QuS w' w'.heap.size gq g b n 0 0 [] ∧ w.heap.size ≤ gq ∧ w.heap.size ≤ g ∧ w.heap.size ≤ b ∧ Below w.heap.size w w' := by
  go_enter Try.func18, Try.ntmps18
  go_wp2_with fail
  go_at_call 65
  refine (iNew_ok n w h1 (by omega)).mono ?_
  rintro e w1 ⟨g, b, rfl, hR, hg, hb, hB⟩
  have HR := Lib.hid hR
  have HB := Lib.hid hB
  have hgw := hR.le.2.2.2.2.1
  have hbw := hR.le.2.2.2.2.2.1
  clear hR hB
  go_wp2
  go_ret2
  have hal : Below w1.heap.size w1 (w1.alloc (.cells #[.pointer (some ⟨g, 0, none⟩), .int .u16 0] 125)) := (Below.refl _ _).alloc (Nat.le_refl _) _
  have hs := HB.out.size
  exact ⟨_, g, b, rfl, ⟨heap_alloc_new _ _, HR.out.below hal (Nat.le_refl _), by omega, by omega, by omega, by simp; omega, by simp; omega, by simp, fun r hr => absurd hr (by simp)⟩, hs, hg, hb, HB.out.trans (hal.mono hs)⟩
set_option maxHeartbeats 1000000 in
theorem qNew_bad (n : Int) (w : World) (h : n < 1 ∨ 16 < n) : Calls Try.prog 18 #[.int .i64 n] w fun e w' => e = .returned (.tuple #[.pointer none, .int .i64 1]) ∧ w = w' := by
  by_cases h2 : 16 < n
  · go_enter Try.func18, Try.ntmps18
    go_wp2
    go_ret2
    exact ⟨rfl, rfl⟩
  · have h1 : n < 1 := by omega
    clear h
    go_enter Try.func18, Try.ntmps18
    go_wp2_with fail
    go_at_call 65
    refine (iNew_bad n w h1).mono ?_
    rintro e w' ⟨rfl, rfl⟩
    go_wp2
    go_ret2
    exact ⟨rfl, rfl⟩
end Go.Proofs.Ytioclbkgfbjpdaa
