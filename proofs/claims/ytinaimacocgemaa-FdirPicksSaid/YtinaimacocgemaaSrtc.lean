/- Layer 22: the stable sort of at most twenty alarms. -/
import Derived.Test.YtinaimacocgemaaSrtb
namespace Go.Proofs.Ytinaimacocgemaa
open Go.RowKit Go.Own Go.Shelf Go.Lib Go.Sort Bs
set_option linter.unusedVariables false
set_option linter.unusedSimpArgs false
/-- What a sort leaves. -/
structure SrtP (w w' : World) (blk : Nat) (d' : Array Al) : Prop where
  h : HoldsK Al.cs 3 w' blk 0 d'
  be : ∀ B, B ≤ blk → B ≤ w.heap.size → Go.RowKit.Below B w w'
  lt : blk < w'.heap.size
theorem SrtP.tr {w w2 w' : World} {blk : Nat} {d d' : Array Al} (h : SrtP w w2 blk d) (h2 : SrtP w2 w' blk d') : SrtP w w' blk d' :=
  ⟨h2.h, fun B hB hw => (h.be B hB hw).trans (h2.be B hB (Nat.le_trans hw (h.be B hB hw).size)), h2.lt⟩
theorem srtP_of {w : World} {blk : Nat} {d d' : Array Al} {n : Nat} {os : Array Obj} (hH : HoldsK Al.cs 3 w blk 0 d) (hblk : blk < w.heap.size) (hs : d'.size = d.size) : SrtP w (sortWorldK Al.cs 3 w blk 0 n d' os) blk d' := by
  have hz := size_sortWorldK_c Al.cs 3 w blk 0 n d' os
  refine ⟨holdsK_sortWorldK_c Al.cs 3 w blk 0 d d' n os hH hblk hs, fun B hB hw => ⟨rfl, rfl, rfl, hz, fun k hk => ?_⟩, Nat.lt_of_lt_of_le hblk hz⟩
  unfold sortWorldK grow putRowK putRow mapBlock
  simp only [Array.getElem?_append]
  rw [if_pos (by simp [Sort.ahead]; omega), Array.getElem?_modify, if_neg (by omega)]
  rfl
theorem ins_size (d : Array Al) (a b i : Nat) : (insOuter (ltOf cfA) a b i d).size = d.size := by
  have hi : ∀ (a j : Nat) (d : Array Al), (insInner (ltOf cfA) a j d).size = d.size := by
    intro a j
    induction j with
    | zero => intro d; rfl
    | succ j ih =>
      intro d
      unfold insInner
      split
      · rw [ih]; simp [swp]
      · rfl
  generalize hm : b - i = m
  induction m generalizing i d with
  | zero => unfold insOuter; rw [if_neg (by omega)]
  | succ m ih => unfold insOuter; rw [if_pos (by omega), ih _ _ (by omega), hi]
theorem agg_al (w : World) : (isAgg (rhoS.t 24)).run Try.prog w = .ok true w := by kernel_rfl
theorem siz_al (w : World) : (Go.sizeOf (rhoS.t 24)).run Try.prog w = .ok 3 w := by kernel_rfl
theorem ins_any (blk cap a b : Nat) (d : Array Al) (w : World) (hH : HoldsK Al.cs 3 w blk 0 d) (hblk : blk < w.heap.size) (hab : a ≤ b) (hb : b ≤ d.size) (hsz : d.size ≤ 20) :
    Calls Try.prog 122 #[.slice (some ⟨blk, 0, none⟩) d.size cap, .int .i64 a, .int .i64 b, .func (.func 96) #[] #[]] w fun e w' => e = .returned (.tuple #[]) ∧ SrtP w w' blk (Sort.insertionSort (ltOf cfA) d a b) := by
  have eg : ∀ args w, (callFunc 96 args).run Try.prog w = .ok (.enter 96 args) w := fun args w => by kernel_rfl
  have hc := AnyQ.insertionSortCmpFunc lays20 3 agg_al siz_al Al.cs (fun _ => rfl) Al.one cfA 96 #[] blk 0 cap a b d w eg (cmpLays blk 0 d.size w) hH hblk hab hb (by omega)
  change Calls Try.prog 122 _ _ _ at hc
  refine hc.mono ?_
  rintro e w' ⟨rfl, n, os, rfl⟩
  exact ⟨rfl, srtP_of hH hblk (ins_size _ _ _ _)⟩
theorem ins_none (w : World) (fv : Value) : Calls Try.prog 122 #[.slice none 0 0, .int .i64 0, .int .i64 0, fv] w fun e w' => e = .returned (.tuple #[]) ∧ w' = w := by
  go_enter Try.func122, Try.ntmps122
  go_wp2
  refine wp_loop_rounds 1 ?_
  rw [rounds_succ]
  go_wp2
  go_end0
  exact ⟨rfl, rfl⟩
def srtA (d : Array Al) : Array Al := Sort.insertionSort (ltOf cfA) d 0 d.size
theorem srtA_size (d : Array Al) : (srtA d).size = d.size := ins_size _ _ _ _
theorem stable_none (w : World) : Calls Try.prog 116 #[.slice none 0 0, .int .i64 0, .func (.func 96) #[] #[]] w fun e w' => e = .returned (.tuple #[]) ∧ w' = w := by
  have HI := Lib.hid (fun (w : World) (fv : Value) => ins_none w fv)
  go_enter Try.func116, Try.ntmps116
  go_wp2
  refine wp_loop_rounds 1 ?_
  rw [rounds_succ]
  go_wp2_with (go_at_call 122; refine (HI.out _ _).mono ?_; rintro e w2 ⟨rfl, rfl⟩)
  refine wp_loop_rounds 1 ?_
  rw [rounds_succ]
  go_wp2
  go_end0
  exact ⟨rfl, rfl⟩
set_option maxHeartbeats 1000000 in
theorem stable_any (blk cap : Nat) (d : Array Al) (w : World) (hH : HoldsK Al.cs 3 w blk 0 d) (hblk : blk < w.heap.size) (hsz : d.size ≤ 20) :
    Calls Try.prog 116 #[.slice (some ⟨blk, 0, none⟩) d.size cap, .int .i64 d.size, .func (.func 96) #[] #[]] w fun e w' => e = .returned (.tuple #[]) ∧ SrtP w w' blk (srtA d) := by
  by_cases h20 : d.size < 20
  · have HI := Lib.hid (show Calls Try.prog 122 #[.slice (some ⟨blk, 0, none⟩) d.size cap, .int .i64 0, .int .i64 d.size, .func (.func 96) #[] #[]] w fun e w' => e = .returned (.tuple #[]) ∧ SrtP w w' blk (srtA d) from ins_any blk cap 0 d.size d w hH hblk (Nat.zero_le _) (Nat.le_refl _) hsz)
    obtain ⟨n, hn⟩ : ∃ n, n = d.size := ⟨_, rfl⟩
    rw [← hn] at HI h20 ⊢
    clear hH hblk hsz hn
    go_enter Try.func116, Try.ntmps116
    go_wp2
    refine wp_loop_rounds 1 ?_
    rw [rounds_succ]
    go_wp2_with (go_at_call 122; refine HI.out.mono ?_; rintro e w2 ⟨rfl, hp⟩)
    have HP := Lib.hid hp
    clear hp
    refine wp_loop_rounds 1 ?_
    rw [rounds_succ]
    go_wp2
    go_end0
    exact ⟨rfl, HP.out⟩
  · have hn : d.size = 20 := by omega
    have HI := Lib.hid (show Calls Try.prog 122 #[.slice (some ⟨blk, 0, none⟩) 20 cap, .int .i64 0, .int .i64 20, .func (.func 96) #[] #[]] w fun e w' => e = .returned (.tuple #[]) ∧ SrtP w w' blk (srtA d) from by have := ins_any blk cap 0 d.size d w hH hblk (Nat.zero_le _) (Nat.le_refl _) hsz; unfold srtA; rw [hn] at this ⊢; exact this)
    have HI2 := Lib.hid (show ∀ w2, SrtP w w2 blk (srtA d) → Calls Try.prog 122 #[.slice (some ⟨blk, 0, none⟩) 20 cap, .int .i64 20, .int .i64 20, .func (.func 96) #[] #[]] w2 fun e w' => e = .returned (.tuple #[]) ∧ SrtP w2 w' blk (srtA d) from fun w2 hs => by
      have h2 := ins_any blk cap 20 20 (srtA d) w2 hs.h hs.lt (Nat.le_refl _) (by rw [srtA_size, hn]; exact Nat.le_refl _) (by rw [srtA_size]; exact hsz)
      rw [show (srtA d).size = 20 by rw [srtA_size, hn]] at h2
      have e : Sort.insertionSort (ltOf cfA) (srtA d) 20 20 = srtA d := by unfold Sort.insertionSort insOuter; rw [if_neg (by omega)]
      rw [e] at h2
      exact h2)
    rw [hn]
    clear hH hblk hsz hn h20
    go_enter Try.func116, Try.ntmps116
    go_wp2
    refine wp_loop_rounds 2 ?_
    rw [rounds_succ]
    go_wp2_with (go_at_call 122; refine HI.out.mono ?_; rintro e w2 ⟨rfl, hp⟩)
    have HP := Lib.hid hp
    clear hp HI
    try go_wp2_with fail
    rw [rounds_succ]
    go_wp2_with (go_at_call 122; refine (HI2.out _ HP.out).mono ?_; rintro e w3 ⟨rfl, hp⟩)
    have HP2 := Lib.hid (HP.out.tr hp)
    clear hp HI2 HP
    try go_wp2_with fail
    refine wp_loop_rounds 1 ?_
    rw [rounds_succ]
    go_wp2
    go_end0
    exact ⟨rfl, HP2.out⟩
theorem sort_none (w : World) : Calls Try.prog 95 #[.slice none 0 0, .func (.func 96) #[] #[]] w fun e w' => e = .returned (.tuple #[]) ∧ w' = w := by
  have HI := Lib.hid (fun (w : World) => stable_none w)
  go_enter Try.func95, Try.ntmps95
  go_wp2_with fail
  go_at_call 116
  refine (HI.out _).mono ?_
  rintro e w2 ⟨rfl, rfl⟩
  go_wp2
  go_end0
  exact ⟨rfl, rfl⟩
theorem sort_any (blk cap : Nat) (d : Array Al) (w : World) (hH : HoldsK Al.cs 3 w blk 0 d) (hblk : blk < w.heap.size) (hsz : d.size ≤ 20) :
    Calls Try.prog 95 #[.slice (some ⟨blk, 0, none⟩) d.size cap, .func (.func 96) #[] #[]] w fun e w' => e = .returned (.tuple #[]) ∧ SrtP w w' blk (srtA d) := by
  have HI := Lib.hid (stable_any blk cap d w hH hblk hsz)
  clear hH hblk hsz
  go_enter Try.func95, Try.ntmps95
  go_wp2_with fail
  go_at_call 116
  refine HI.out.mono ?_
  rintro e w2 ⟨rfl, hp⟩
  have HP := Lib.hid hp
  clear hp
  go_wp2
  go_end0
  exact ⟨rfl, HP.out⟩
end Go.Proofs.Ytinaimacocgemaa
