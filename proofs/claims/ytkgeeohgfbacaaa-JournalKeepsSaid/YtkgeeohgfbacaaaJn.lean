/- Layer 17: journals: made; all, counted, since. -/
import Derived.Test.YtkgeeohgfbacaaaJo
namespace Go.Proofs.Ytkgeeohgfbacaaa.Je
open Go.RowKit Go.Own Go.Shelf
set_option linter.unusedVariables false
set_option linter.unusedSimpArgs false
theorem jNew_ok (n : Nat) (w : World) (h1 : 1 ≤ n) (h2 : n ≤ 16) : Calls Try.prog 59 #[.int .i64 (n : Nat)] w fun e w' => ∃ gj g b, e = .returned (.tuple #[.pointer (some ⟨gj, 0, none⟩), .int .i64 0]) ∧ JS w' gj g b n [] 0 ∧ w.heap.size ≤ gj ∧ w.heap.size ≤ g ∧ w.heap.size ≤ b ∧ Below w.heap.size w w' := by
  go_enter Try.func59, Try.ntmps59
  go_wp2_with fail
  go_at_call 111
  refine (iNew_ok n w h1 (by omega)).mono ?_
  rintro e w1 ⟨g, b, rfl, hr, hg, hb, hbe⟩
  have hal : Below w1.heap.size w1 (w1.alloc (.cells #[.pointer (some ⟨g, 0, none⟩)] 217)) := (Below.refl _ _).alloc (Nat.le_refl _) _
  have hbox := heap_alloc_new w1 (.cells #[.pointer (some ⟨g, 0, none⟩)] 217)
  have hle := hr.le
  have HR := Lib.hid (hr.below hal (Nat.le_refl _))
  have HB := Lib.hid (hbe.trans (hal.mono hbe.size))
  have hsz := hbe.size
  have HX := Lib.hid hbox
  clear hr hbe hal hbox
  go_wp2
  go_ret2
  exact ⟨_, _, _, rfl, ⟨HX.out, HR.out, by omega, by omega⟩, hsz, hg, hb, HB.out⟩
theorem jNew_bad (n : Int) (w : World) (h : n < 1 ∨ 16 < n) : Calls Try.prog 59 #[.int .i64 n] w fun e w' => e = .returned (.tuple #[.pointer none, .int .i64 1]) ∧ w = w' := by
  by_cases h2 : 16 < n
  · clear h
    go_enter Try.func59, Try.ntmps59
    go_wp2
    go_ret2
    exact ⟨rfl, rfl⟩
  · have h1 : n < 1 := by omega
    clear h
    go_enter Try.func59, Try.ntmps59
    go_wp2_with fail
    go_at_call 111
    refine (iNew_bad n w h1).mono ?_
    rintro e w1 ⟨rfl, rfl⟩
    go_wp2
    go_ret2
    exact ⟨rfl, rfl⟩
section
variable {w : World} {pj pr : Option Addr} {L : List En} {lo : Nat}
theorem Jr.below {w' : World} (h : Jr w pj pr L lo) (hb : Below w.heap.size w w') : Jr w' pj pr L lo :=
  ⟨fun w1 k => h.kept w1 (hb.trans (k.mono hb.size)), fun w1 k => h.len w1 (hb.trans (k.mono hb.size)), fun w1 k => h.lost w1 (hb.trans (k.mono hb.size)), fun w1 k => h.at' w1 (hb.trans (k.mono hb.size)), fun w1 k => h.list w1 (hb.trans (k.mono hb.size)), h.le⟩
theorem selJ (h : Jr w pj pr L lo) (FN : Nat) (lb : Array Value) (p : En → Bool) (eg : ∀ args w, (callFunc FN args).run Try.prog w = .ok (.enter FN args) w)
    (hp : ∀ W x, Below w.heap.size w W → Calls Try.prog FN (#[.agg #[.int .u32 (x.q : Nat), .int .u32 (x.t : Nat), .int .u8 (x.e : Nat), .int .u8 (x.g : Nat), .int .u32 (x.d : Nat)]] ++ lb) W fun e W' => e = .returned (.bool (p x)) ∧ Below W.heap.size W W') :
    Calls Try.prog 115 #[.pointer pj, .func (.func FN) #[] lb] w fun e w' => ∃ v, e = .returned v ∧ w'.ownsRow w.heap.size 143 5 v (L.filter p).length (ql (L.filter p)) ∧ Below w.heap.size w w' :=
  selP pj pr h.le FN lb p eg hp h.kept (fun w1 hb => rAllP (h.list w1 hb))
theorem all1 (W : World) (x : En) : Calls Try.prog 116 #[.agg #[.int .u32 (x.q : Nat), .int .u32 (x.t : Nat), .int .u8 (x.e : Nat), .int .u8 (x.g : Nat), .int .u32 (x.d : Nat)]] W fun e W' => e = .returned (.bool true) ∧ Below W.heap.size W W' := by
  go_enter Try.func116, Try.ntmps116
  go_wp2
  go_ret
  exact ⟨rfl, (Below.refl _ _).alloc (Nat.le_refl _) _⟩
theorem count1 (W : World) (x : En) (B ev : Nat) (hB : B < W.heap.size) (hc : W.cell? ⟨B, 0, none⟩ = some (.int .u8 (ev : Nat))) : Calls Try.prog 119 #[.agg #[.int .u32 (x.q : Nat), .int .u32 (x.t : Nat), .int .u8 (x.e : Nat), .int .u8 (x.g : Nat), .int .u32 (x.d : Nat)], .pointer (some ⟨B, 0, none⟩)] W fun e W' => e = .returned (.bool (decide (x.e = ev))) ∧ Below W.heap.size W W' := by
  have hal : Below W.heap.size W (W.alloc (.cells #[.int .u32 (x.q : Nat), .int .u32 (x.t : Nat), .int .u8 (x.e : Nat), .int .u8 (x.g : Nat), .int .u32 (x.d : Nat)] 143)) := (Below.refl _ _).alloc (Nat.le_refl _) _
  have hc' := (hal.cell (p := ⟨B, 0, none⟩) hB).trans hc
  have hee : ∃ t : Bool, decide (x.e = ev) = t ∧ (((x.e : Nat) : Int) == (ev : Int)) = t := by
    by_cases h : x.e = ev
    · exact ⟨true, by simp [h], by simp [h]⟩
    · exact ⟨false, by simp [h], by rw [beq_eq_false_iff_ne]; omega⟩
  obtain ⟨t, ht, ht'⟩ := hee
  rw [ht]
  clear ht
  go_enter Try.func119, Try.ntmps119
  go_wp2
  go_ret
  exact ⟨rfl, hal⟩
theorem since1 (W : World) (x : En) (B sq : Nat) (hB : B < W.heap.size) (hc : W.cell? ⟨B, 0, none⟩ = some (.int .u32 (sq : Nat))) : Calls Try.prog 120 #[.agg #[.int .u32 (x.q : Nat), .int .u32 (x.t : Nat), .int .u8 (x.e : Nat), .int .u8 (x.g : Nat), .int .u32 (x.d : Nat)], .pointer (some ⟨B, 0, none⟩)] W fun e W' => e = .returned (.bool (decide (sq < x.q))) ∧ Below W.heap.size W W' := by
  have hal : Below W.heap.size W (W.alloc (.cells #[.int .u32 (x.q : Nat), .int .u32 (x.t : Nat), .int .u8 (x.e : Nat), .int .u8 (x.g : Nat), .int .u32 (x.d : Nat)] 143)) := (Below.refl _ _).alloc (Nat.le_refl _) _
  have hc' := (hal.cell (p := ⟨B, 0, none⟩) hB).trans hc
  go_enter Try.func120, Try.ntmps120
  go_wp2
  go_ret
  exact ⟨rfl, hal⟩
theorem jAll (h : Jr w pj pr L lo) : Calls Try.prog 63 #[.pointer pj] w fun e w' => ∃ v, e = .returned v ∧ w'.ownsRow w.heap.size 143 5 v L.length (ql L) ∧ Below w.heap.size w w' := by
  have hs := selJ h 116 #[] (fun _ => true) (enters_of Try.func116 (by kernel_rfl) rfl) (fun W x _ => all1 W x)
  have e : L.filter (fun _ => true) = L := by simp
  rw [e] at hs
  have HS := Lib.hid hs
  clear hs e h
  go_enter Try.func63, Try.ntmps63
  go_wp2_with fail
  go_at_call 115
  refine HS.out.mono ?_
  rintro e w1 ⟨v, rfl, ho, hb⟩
  have HO := Lib.hid ho
  clear ho
  go_wp2
  go_ret
  exact ⟨_, rfl, HO.out, hb⟩
theorem jCount (h : Jr w pj pr L lo) (ev : Nat) : Calls Try.prog 67 #[.pointer pj, .int .u8 (ev : Nat)] w fun e w' => e = .returned (.int .i64 ((L.filter (fun x => decide (x.e = ev))).length : Nat)) ∧ Below w.heap.size w w' := by
  have hal : Below w.heap.size w (w.alloc (.cells #[.int .u8 (ev : Nat)] 5)) := (Below.refl _ _).alloc (Nat.le_refl _) _
  have hc := box_cell (heap_alloc_new w (.cells #[.int .u8 (ev : Nat)] 5))
  have hs := selJ (h.below hal) 119 #[.pointer (some ⟨w.heap.size, 0, none⟩)] (fun x => decide (x.e = ev)) (enters_of Try.func119 (by kernel_rfl) rfl)
    (fun W x hb => count1 W x w.heap.size ev (Nat.lt_of_lt_of_le (by simp) hb.size) ((hb.cell (p := ⟨w.heap.size, 0, none⟩) (by simp)).trans hc))
  have HS := Lib.hid hs
  clear hs h hc
  go_enter Try.func67, Try.ntmps67
  go_wp2_with fail
  go_at_call 115
  refine HS.out.mono ?_
  rintro e w1 ⟨v, rfl, ho, hb⟩
  obtain ⟨a, c, rfl⟩ := own_form ho
  have HB := Lib.hid (hal.trans (hb.mono hal.size))
  clear ho hb hal
  go_wp2
  go_ret
  exact ⟨rfl, HB.out⟩
theorem jSince (h : Jr w pj pr L lo) (sq : Nat) : Calls Try.prog 68 #[.pointer pj, .int .u32 (sq : Nat)] w fun e w' => ∃ v, e = .returned v ∧ w'.ownsRow w.heap.size 143 5 v (L.filter (fun x => decide (sq < x.q))).length (ql (L.filter (fun x => decide (sq < x.q)))) ∧ Below w.heap.size w w' := by
  have hal : Below w.heap.size w (w.alloc (.cells #[.int .u32 (sq : Nat)] 53)) := (Below.refl _ _).alloc (Nat.le_refl _) _
  have hc := box_cell (heap_alloc_new w (.cells #[.int .u32 (sq : Nat)] 53))
  have hs := selJ (h.below hal) 120 #[.pointer (some ⟨w.heap.size, 0, none⟩)] (fun x => decide (sq < x.q)) (enters_of Try.func120 (by kernel_rfl) rfl)
    (fun W x hb => since1 W x w.heap.size sq (Nat.lt_of_lt_of_le (by simp) hb.size) ((hb.cell (p := ⟨w.heap.size, 0, none⟩) (by simp)).trans hc))
  have HS := Lib.hid hs
  clear hs h hc
  go_enter Try.func68, Try.ntmps68
  go_wp2_with fail
  go_at_call 115
  refine HS.out.mono ?_
  rintro e w1 ⟨v, rfl, ho, hb⟩
  obtain ⟨a, c, rfl⟩ := own_form ho
  have HO := Lib.hid (own_baseE ho (hal.size))
  have HB := Lib.hid (hal.trans (hb.mono hal.size))
  clear ho hb hal
  go_wp2
  go_ret
  exact ⟨_, rfl, HO.out, HB.out⟩
end
end Go.Proofs.Ytkgeeohgfbacaaa.Je
