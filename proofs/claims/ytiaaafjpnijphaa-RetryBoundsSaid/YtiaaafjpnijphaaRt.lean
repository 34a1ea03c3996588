/- Layer 19: retry counters. -/
import Derived.Test.YtiaaafjpnijphaaCxP
import Derived.Test.YtiaaafjpnijphaaBs3
import Derived.Test.YtiaaafjpnijphaaBs2
import Derived.Test.YtiaaafjpnijphaaFlo3
import Derived.Deep.CutBlock
import Derived.Deep.DeepCutAuto
namespace Go.Proofs.Ytiaaafjpnijphaa
open Go.RowKit Go.Own
set_option linter.unusedVariables false
set_option linter.unusedSimpArgs false
/-- Limits. -/
structure Lm where
  l0 : Int
  l1 : Int
  l2 : Int
  l3 : Int
  l4 : Int
  l5 : Int
def Lm.l (m : Lm) (k : Int) : Int := if k = 0 then m.l0 else if k = 1 then m.l1 else if k = 2 then m.l2 else if k = 3 then m.l3 else if k = 4 then m.l4 else m.l5
structure Lm.Ok (m : Lm) : Prop where
  l0 : 0 ≤ m.l0 ∧ m.l0 < 256
  l1 : 0 ≤ m.l1 ∧ m.l1 < 256
  l2 : 0 ≤ m.l2 ∧ m.l2 < 256
  l3 : 0 ≤ m.l3 ∧ m.l3 < 256
  l4 : 0 ≤ m.l4 ∧ m.l4 < 256
  l5 : 0 ≤ m.l5 ∧ m.l5 < 256
theorem Lm.l_ok {m : Lm} (h : m.Ok) (k : Int) : 0 ≤ m.l k ∧ m.l k < 256 := by
  have := h.l0; have := h.l1; have := h.l2; have := h.l3; have := h.l4; have := h.l5
  unfold Lm.l
  repeat' split
  all_goals omega
theorem Cx.setR_at (c : Cx) (k x : Int) (j : Int) (h0 : 0 ≤ j) (h6 : j < 6) (hk0 : 0 ≤ k) (hk6 : k < 6) : (c.setR k x).r j = if j = k then x else c.r j := by
  have hj : j = 0 ∨ j = 1 ∨ j = 2 ∨ j = 3 ∨ j = 4 ∨ j = 5 := by omega
  have hk : k = 0 ∨ k = 1 ∨ k = 2 ∨ k = 3 ∨ k = 4 ∨ k = 5 := by omega
  rcases hj with rfl | rfl | rfl | rfl | rfl | rfl <;> rcases hk with rfl | rfl | rfl | rfl | rfl | rfl <;> rfl
theorem Cx.setR_good (c : Cx) (k x : Int) (h : c.Ok) (h0 : 0 ≤ x) (h1 : x < 256) : (c.setR k x).Ok := by
  obtain ⟨a1, a2, a3, a4, a5, a6, a7, a8, a9, a10, a11, a12, a13, a14, a15, a16, a17⟩ := h
  refine ⟨a1, a2, ?_, ?_, ?_, ?_, ?_, ?_, a9, a10, a11, a12, a13, a14, a15, a16, a17⟩ <;> (unfold Cx.setR; dsimp only; split <;> omega)
theorem Cx.r_good (c : Cx) (h : c.Ok) (j : Int) : 0 ≤ c.r j ∧ c.r j < 256 := by
  have := h.r0; have := h.r1; have := h.r2; have := h.r3; have := h.r4; have := h.r5
  unfold Cx.r
  repeat' split
  all_goals omega
/-- May a role be switched over once more? -/
def canR (m : Lm) (c : Cx) (k : Int) : Bool := decide (0 ≤ k ∧ k < 6 ∧ c.r k < m.l k)
def oneMore (m : Lm) (c : Cx) (k : Int) : Option Cx := if canR m c k then some (c.setR k (c.r k + 1)) else none
/-- Each of these roles switched over once more. -/
def spend (m : Lm) : Cx → List Int → Option Cx
  | c, [] => some c
  | c, k :: ks => (oneMore m c k).bind fun d => spend m d ks
theorem spend_snoc (m : Lm) (k : Int) : ∀ (l : List Int) (c : Cx), spend m c (l ++ [k]) = (spend m c l).bind fun d => oneMore m d k
  | [], c => by simp [spend]
  | i :: l, c => by
    simp only [List.cons_append, spend]
    cases h : oneMore m c i with
    | none => rfl
    | some d => simpa using spend_snoc m k l d
theorem spend_append (m : Lm) (q : List Int) : ∀ (l : List Int) (c : Cx), spend m c (l ++ q) = (spend m c l).bind fun d => spend m d q
  | [], c => by simp [spend]
  | i :: l, c => by
    simp only [List.cons_append, spend]
    cases h : oneMore m c i with
    | none => rfl
    | some d => simpa using spend_append m q l d
/-- Roles' counts, each by so much more. -/
def Cx.bump (c : Cx) (n : Int → Nat) : Cx := ⟨c.f, c.i, c.r0 + n 0, c.r1 + n 1, c.r2 + n 2, c.r3 + n 3, c.r4 + n 4, c.r5 + n 5, c.c0, c.c1, c.c2, c.c3, c.c4, c.c5, c.m, c.n, c.x, c.h⟩
theorem Cx.bump_r (c : Cx) (n : Int → Nat) (k : Int) (h0 : 0 ≤ k) (h6 : k < 6) : (c.bump n).r k = c.r k + n k := by
  have hk : k = 0 ∨ k = 1 ∨ k = 2 ∨ k = 3 ∨ k = 4 ∨ k = 5 := by omega
  rcases hk with rfl | rfl | rfl | rfl | rfl | rfl <;> rfl
/-- Is none above its limit then? -/
structure May (m : Lm) (c : Cx) (l : List Int) : Prop where
  role : ∀ k ∈ l, 0 ≤ k ∧ k < 6
  le : ∀ k, 0 ≤ k → k < 6 → 0 < l.count k → c.r k + (l.count k : Nat) ≤ m.l k
theorem May.nil (m : Lm) (c : Cx) : May m c [] := ⟨by simp, by simp⟩
theorem May.cons {m : Lm} {c : Cx} {k : Int} {l : List Int} : May m c (k :: l) ↔ canR m c k = true ∧ May m (c.setR k (c.r k + 1)) l := by
  constructor
  · intro h
    obtain ⟨k0, k6⟩ := h.role k (by simp)
    have hc := h.le k k0 k6 (by simp)
    rw [List.count_cons_self] at hc
    refine ⟨by simp [canR]; omega, fun j hj => h.role j (by simp [hj]), fun j j0 j6 hp => ?_⟩
    rw [c.setR_at _ _ _ j0 j6 k0 k6]
    by_cases e : j = k
    · subst e
      rw [if_pos rfl]
      omega
    · rw [if_neg e]
      have := h.le j j0 j6 (by rw [List.count_cons_of_ne (Ne.symm e)]; exact hp)
      rw [List.count_cons_of_ne (Ne.symm e)] at this
      exact this
  · rintro ⟨hc, h⟩
    obtain ⟨k0, k6, hlt⟩ : 0 ≤ k ∧ k < 6 ∧ c.r k < m.l k := by simpa [canR] using hc
    refine ⟨fun j hj => ?_, fun j j0 j6 hp => ?_⟩
    · rcases List.mem_cons.1 hj with rfl | hj
      · exact ⟨k0, k6⟩
      · exact h.role j hj
    · by_cases e : j = k
      · subst e
        rw [List.count_cons_self]
        by_cases hz : 0 < l.count j
        · have := h.le j j0 j6 hz
          rw [c.setR_at _ _ _ j0 j6 k0 k6, if_pos rfl] at this
          omega
        · omega
      · rw [List.count_cons_of_ne (Ne.symm e)] at hp ⊢
        have := h.le j j0 j6 hp
        rw [c.setR_at _ _ _ j0 j6 k0 k6, if_neg e] at this
        exact this
theorem bump_cons (c : Cx) (k : Int) (l : List Int) (h0 : 0 ≤ k) (h6 : k < 6) : (c.setR k (c.r k + 1)).bump (fun j => l.count j) = c.bump (fun j => (k :: l).count j) := by
  have hk : k = 0 ∨ k = 1 ∨ k = 2 ∨ k = 3 ∨ k = 4 ∨ k = 5 := by omega
  rcases hk with rfl | rfl | rfl | rfl | rfl | rfl <;> (simp [Cx.bump, Cx.setR, Cx.r, List.count_cons]; try omega)
theorem spend_yes {m : Lm} : ∀ (l : List Int) {c : Cx}, May m c l → spend m c l = some (c.bump fun j => l.count j)
  | [], c, _ => by simp [spend, Cx.bump]
  | k :: l, c, h => by
    obtain ⟨hc, h2⟩ := May.cons.1 h
    obtain ⟨k0, k6, _⟩ : 0 ≤ k ∧ k < 6 ∧ c.r k < m.l k := by simpa [canR] using hc
    simp only [spend, oneMore, hc, if_true, Option.bind_some]
    rw [spend_yes l h2, bump_cons c k l k0 k6]
theorem spend_may {m : Lm} : ∀ (l : List Int) {c d : Cx}, spend m c l = some d → May m c l
  | [], c, _, _ => May.nil m c
  | k :: l, c, d, h => by
    simp only [spend, oneMore] at h
    cases hc : canR m c k with
    | false => rw [hc] at h; simp at h
    | true =>
      rw [hc] at h
      simp only [if_true, Option.bind_some] at h
      exact May.cons.2 ⟨hc, spend_may l h⟩
theorem spend_no {m : Lm} {l : List Int} {c : Cx} (h : ¬ May m c l) : spend m c l = none := by
  cases e : spend m c l with
  | none => rfl
  | some d => exact absurd (spend_may l e) h
theorem spend_good {m : Lm} (hm : m.Ok) {l : List Int} {c d : Cx} (hc : c.Ok) (h : spend m c l = some d) : d.Ok := by
  induction l generalizing c with
  | nil => simp [spend] at h; rw [← h]; exact hc
  | cons k l ih =>
    simp only [spend, oneMore] at h
    cases hk : canR m c k with
    | false => rw [hk] at h; simp at h
    | true =>
      rw [hk] at h
      simp only [if_true, Option.bind_some] at h
      obtain ⟨k0, k6, hlt⟩ : 0 ≤ k ∧ k < 6 ∧ c.r k < m.l k := by simpa [canR] using hk
      have := c.r_good hc k
      have := Lm.l_ok hm k
      exact ih (c.setR_good k _ hc (by omega) (by omega)) h

theorem size_lm : (Try.prog.info? 129).map (·.size) = some 6 := by kernel_rfl
def Lm.of (m : Lm) (k : Int) : Int := if 0 ≤ k ∧ k < 6 then m.l k else 0
theorem Lm.of_ok {m : Lm} (h : m.Ok) (k : Int) : 0 ≤ m.of k ∧ m.of k < 256 := by
  have := Lm.l_ok h k
  unfold Lm.of
  split <;> omega
theorem isRole_any (k : Int) (w : World) : Calls Try.prog 108 #[.int .i64 k] w fun e w' => e = .returned (.bool (decide (0 ≤ k ∧ k < 6))) ∧ w = w' := by
  by_cases h0 : 0 ≤ k
  · by_cases h6 : k < 6
    · rw [decide_eq_true (p := 0 ≤ k ∧ k < 6) ⟨h0, h6⟩]
      go_enter Try.func108, Try.ntmps108
      go_wp2
      go_ret
      exact ⟨rfl, rfl⟩
    · rw [decide_eq_false (p := 0 ≤ k ∧ k < 6) (by omega)]
      go_enter Try.func108, Try.ntmps108
      go_wp2
      go_ret
      exact ⟨rfl, rfl⟩
  · rw [decide_eq_false (p := 0 ≤ k ∧ k < 6) (by omega)]
    go_enter Try.func108, Try.ntmps108
    go_wp2
    go_ret
    exact ⟨rfl, rfl⟩
set_option maxHeartbeats 1000000 in
theorem of_any {m : Lm} (hm : m.Ok) (k : Int) (w : World) : Calls Try.prog 106 #[.agg #[.int .u8 m.l0, .int .u8 m.l1, .int .u8 m.l2, .int .u8 m.l3, .int .u8 m.l4, .int .u8 m.l5], .int .i64 k] w fun e w' => e = .returned (.int .i64 (m.of k)) ∧ Below w.heap.size w w' := by
  by_cases hk : 0 ≤ k ∧ k < 6
  · have hk' : k = 0 ∨ k = 1 ∨ k = 2 ∨ k = 3 ∨ k = 4 ∨ k = 5 := by omega
    clear hk
    rcases hk' with rfl | rfl | rfl | rfl | rfl | rfl
    · skip
      obtain ⟨z0, z1⟩ := hm.l0
      have ew : wrap64 m.l0 = m.l0 := by unfold wrap64; omega
      go_enter Try.func106, Try.ntmps106
      go_wp2_with fail
      refine (isRole_any _ _).mono ?_
      rintro e w2 ⟨rfl, rfl⟩
      simp only [Int.reduceLE, Int.reduceLT, and_self, decide_true]
      go_wp2
      go_ret
      exact ⟨by simp [Lm.of, Lm.l, ew], by repeat' (first | (with_reducible exact Below.refl _ _) | (with_reducible assumption) | (with_reducible refine Below.setCell ?_ ?_ _) | (with_reducible refine Below.alloc ?_ ?_ _) | (with_reducible refine Below.drew ?_) | (with_reducible refine Below.drawsN ?_ _) | go_size)⟩
    · skip
      obtain ⟨z0, z1⟩ := hm.l1
      have ew : wrap64 m.l1 = m.l1 := by unfold wrap64; omega
      go_enter Try.func106, Try.ntmps106
      go_wp2_with fail
      refine (isRole_any _ _).mono ?_
      rintro e w2 ⟨rfl, rfl⟩
      simp only [Int.reduceLE, Int.reduceLT, and_self, decide_true]
      go_wp2
      go_ret
      exact ⟨by simp [Lm.of, Lm.l, ew], by repeat' (first | (with_reducible exact Below.refl _ _) | (with_reducible assumption) | (with_reducible refine Below.setCell ?_ ?_ _) | (with_reducible refine Below.alloc ?_ ?_ _) | (with_reducible refine Below.drew ?_) | (with_reducible refine Below.drawsN ?_ _) | go_size)⟩
    · skip
      obtain ⟨z0, z1⟩ := hm.l2
      have ew : wrap64 m.l2 = m.l2 := by unfold wrap64; omega
      go_enter Try.func106, Try.ntmps106
      go_wp2_with fail
      refine (isRole_any _ _).mono ?_
      rintro e w2 ⟨rfl, rfl⟩
      simp only [Int.reduceLE, Int.reduceLT, and_self, decide_true]
      go_wp2
      go_ret
      exact ⟨by simp [Lm.of, Lm.l, ew], by repeat' (first | (with_reducible exact Below.refl _ _) | (with_reducible assumption) | (with_reducible refine Below.setCell ?_ ?_ _) | (with_reducible refine Below.alloc ?_ ?_ _) | (with_reducible refine Below.drew ?_) | (with_reducible refine Below.drawsN ?_ _) | go_size)⟩
    · skip
      obtain ⟨z0, z1⟩ := hm.l3
      have ew : wrap64 m.l3 = m.l3 := by unfold wrap64; omega
      go_enter Try.func106, Try.ntmps106
      go_wp2_with fail
      refine (isRole_any _ _).mono ?_
      rintro e w2 ⟨rfl, rfl⟩
      simp only [Int.reduceLE, Int.reduceLT, and_self, decide_true]
      go_wp2
      go_ret
      exact ⟨by simp [Lm.of, Lm.l, ew], by repeat' (first | (with_reducible exact Below.refl _ _) | (with_reducible assumption) | (with_reducible refine Below.setCell ?_ ?_ _) | (with_reducible refine Below.alloc ?_ ?_ _) | (with_reducible refine Below.drew ?_) | (with_reducible refine Below.drawsN ?_ _) | go_size)⟩
    · skip
      obtain ⟨z0, z1⟩ := hm.l4
      have ew : wrap64 m.l4 = m.l4 := by unfold wrap64; omega
      go_enter Try.func106, Try.ntmps106
      go_wp2_with fail
      refine (isRole_any _ _).mono ?_
      rintro e w2 ⟨rfl, rfl⟩
      simp only [Int.reduceLE, Int.reduceLT, and_self, decide_true]
      go_wp2
      go_ret
      exact ⟨by simp [Lm.of, Lm.l, ew], by repeat' (first | (with_reducible exact Below.refl _ _) | (with_reducible assumption) | (with_reducible refine Below.setCell ?_ ?_ _) | (with_reducible refine Below.alloc ?_ ?_ _) | (with_reducible refine Below.drew ?_) | (with_reducible refine Below.drawsN ?_ _) | go_size)⟩
    · skip
      obtain ⟨z0, z1⟩ := hm.l5
      have ew : wrap64 m.l5 = m.l5 := by unfold wrap64; omega
      go_enter Try.func106, Try.ntmps106
      go_wp2_with fail
      refine (isRole_any _ _).mono ?_
      rintro e w2 ⟨rfl, rfl⟩
      simp only [Int.reduceLE, Int.reduceLT, and_self, decide_true]
      go_wp2
      go_ret
      exact ⟨by simp [Lm.of, Lm.l, ew], by repeat' (first | (with_reducible exact Below.refl _ _) | (with_reducible assumption) | (with_reducible refine Below.setCell ?_ ?_ _) | (with_reducible refine Below.alloc ?_ ?_ _) | (with_reducible refine Below.drew ?_) | (with_reducible refine Below.drawsN ?_ _) | go_size)⟩
  · have e0 : m.of k = 0 := by unfold Lm.of; rw [if_neg hk]
    have ed : decide (0 ≤ k ∧ k < 6) = false := decide_eq_false hk
    rw [e0]
    clear hk e0
    go_enter Try.func106, Try.ntmps106
    go_wp2_with fail
    refine (isRole_any _ _).mono ?_
    rintro e w2 ⟨rfl, rfl⟩
    rw [ed]
    clear ed
    go_wp2
    go_ret
    exact ⟨rfl, by repeat' (first | (with_reducible exact Below.refl _ _) | (with_reducible assumption) | (with_reducible refine Below.setCell ?_ ?_ _) | (with_reducible refine Below.alloc ?_ ?_ _) | (with_reducible refine Below.drew ?_) | (with_reducible refine Below.drawsN ?_ _) | go_size)⟩
def againR (c : Cx) (k most : Int) : Cx × Bool := if 0 ≤ k ∧ k < 6 ∧ c.r k < min most 255 then (c.setR k (c.r k + 1), true) else (c, false)
theorem Again_det {c d : Cx} {k most : Int} {b : Bool} (w : World) (hok : c.Ok) (h : againR c k most = (d, b)) :
    Calls Try.prog 105 #[.agg #[.int .u16 c.f, .int .u16 c.i, .int .u8 c.r0, .int .u8 c.r1, .int .u8 c.r2, .int .u8 c.r3, .int .u8 c.r4, .int .u8 c.r5, .int .i8 c.c0, .int .i8 c.c1, .int .i8 c.c2, .int .i8 c.c3, .int .i8 c.c4, .int .i8 c.c5, .int .u8 c.m, .int .u16 c.n, .bool c.x, .int .u8 c.h], .int .i64 k, .int .i64 most] w fun e w' => e = .returned (.tuple #[.agg #[.int .u16 d.f, .int .u16 d.i, .int .u8 d.r0, .int .u8 d.r1, .int .u8 d.r2, .int .u8 d.r3, .int .u8 d.r4, .int .u8 d.r5, .int .i8 d.c0, .int .i8 d.c1, .int .i8 d.c2, .int .i8 d.c3, .int .i8 d.c4, .int .i8 d.c5, .int .u8 d.m, .int .u16 d.n, .bool d.x, .int .u8 d.h], .bool b]) ∧ Below w.heap.size w w' := by
  unfold againR at h
  by_cases hk : 0 ≤ k ∧ k < 6
  · rcases Again_in c k most (min most 255) w hok hk.1 hk.2 rfl with ⟨hlt, hc⟩ | ⟨hlt, hc⟩
    · rw [if_pos ⟨hk.1, hk.2, hlt⟩] at h
      cases h
      exact hc
    · rw [if_neg (fun e => hlt e.2.2)] at h
      cases h
      exact hc
  · rw [if_neg (fun e => hk ⟨e.1, e.2.1⟩)] at h
    cases h
    exact Again_no c k most w (by omega)
theorem againR_of {m : Lm} (hm : m.Ok) (c : Cx) (k : Int) : againR c k (m.of k) = if canR m c k then (c.setR k (c.r k + 1), true) else (c, false) := by
  have hl := Lm.l_ok hm k
  unfold againR canR Lm.of
  by_cases hk : 0 ≤ k ∧ k < 6
  · rw [if_pos hk]
    by_cases hc : c.r k < m.l k
    · rw [if_pos ⟨hk.1, hk.2, by omega⟩, if_pos (by simp; omega)]
    · rw [if_neg (by omega), if_neg (by simp; omega)]
  · rw [if_neg (by omega), if_neg (by simp; omega)]
def spendR (m : Lm) (c : Cx) (l : List Int) : Cx × Bool := match spend m c l with
  | some d => (d, true)
  | none => (c, false)
theorem al3 (w : World) (A B C : Obj) : (((w.alloc A).alloc B).alloc C).heap[w.heap.size]? = some A ∧ (((w.alloc A).alloc B).alloc C).heap[w.heap.size + 1]? = some B ∧ (((w.alloc A).alloc B).alloc C).heap[w.heap.size + 2]? = some C := by
  have s1 : (w.alloc A).heap.size = w.heap.size + 1 := by simp
  have s2 : ((w.alloc A).alloc B).heap.size = w.heap.size + 2 := by simp
  have b := heap_alloc_new (w.alloc A) B
  have c := heap_alloc_new ((w.alloc A).alloc B) C
  rw [s1] at b
  rw [s2] at c
  exact ⟨(heap_alloc_old _ _ (by omega)).trans ((heap_alloc_old _ _ (by omega)).trans (heap_alloc_new _ _)), (heap_alloc_old _ _ (by omega)).trans b, c⟩
theorem al4 (w : World) (A B C D : Obj) : ((((w.alloc A).alloc B).alloc C).alloc D).heap[w.heap.size]? = some A ∧ ((((w.alloc A).alloc B).alloc C).alloc D).heap[w.heap.size + 1]? = some B ∧ ((((w.alloc A).alloc B).alloc C).alloc D).heap[w.heap.size + 2]? = some C ∧ ((((w.alloc A).alloc B).alloc C).alloc D).heap[w.heap.size + 3]? = some D := by
  obtain ⟨a, b, c⟩ := al3 w A B C
  have s3 : (((w.alloc A).alloc B).alloc C).heap.size = w.heap.size + 3 := by simp
  have d := heap_alloc_new (((w.alloc A).alloc B).alloc C) D
  rw [s3] at d
  exact ⟨(heap_alloc_old _ _ (by omega)).trans a, (heap_alloc_old _ _ (by omega)).trans b, (heap_alloc_old _ _ (by omega)).trans c, d⟩
/-- Where a spending stands. -/
structure SpSt (w wr : World) (g0 g1 g2 g3 : Nat) (m : Lm) (c d : Cx) : Prop where
  be : Below w.heap.size w wr
  h2 : w.heap.size ≤ g2
  h3 : w.heap.size ≤ g3
  n0 : g0 ≠ g3
  n1 : g1 ≠ g3
  n2 : g2 ≠ g3
  bm : wr.heap[g0]? = some (.cells #[.int .u8 m.l0, .int .u8 m.l1, .int .u8 m.l2, .int .u8 m.l3, .int .u8 m.l4, .int .u8 m.l5] 129 (0, 0))
  bc : wr.heap[g1]? = some (.cells #[.int .u16 c.f, .int .u16 c.i, .int .u8 c.r0, .int .u8 c.r1, .int .u8 c.r2, .int .u8 c.r3, .int .u8 c.r4, .int .u8 c.r5, .int .i8 c.c0, .int .i8 c.c1, .int .i8 c.c2, .int .i8 c.c3, .int .i8 c.c4, .int .i8 c.c5, .int .u8 c.m, .int .u16 c.n, .bool c.x, .int .u8 c.h] 131 (0, 0))
  br : wr.heap[g2]? = some (.cells #[.int .u16 cxZero.f, .int .u16 cxZero.i, .int .u8 cxZero.r0, .int .u8 cxZero.r1, .int .u8 cxZero.r2, .int .u8 cxZero.r3, .int .u8 cxZero.r4, .int .u8 cxZero.r5, .int .i8 cxZero.c0, .int .i8 cxZero.c1, .int .i8 cxZero.c2, .int .i8 cxZero.c3, .int .i8 cxZero.c4, .int .i8 cxZero.c5, .int .u8 cxZero.m, .int .u16 cxZero.n, .bool cxZero.x, .int .u8 cxZero.h] 131 (0, 0))
  bd : wr.heap[g3]? = some (.cells #[.int .u16 d.f, .int .u16 d.i, .int .u8 d.r0, .int .u8 d.r1, .int .u8 d.r2, .int .u8 d.r3, .int .u8 d.r4, .int .u8 d.r5, .int .i8 d.c0, .int .i8 d.c1, .int .i8 d.c2, .int .i8 d.c3, .int .i8 d.c4, .int .i8 d.c5, .int .u8 d.m, .int .u16 d.n, .bool d.x, .int .u8 d.h] 131 (0, 0))
theorem SpSt.step {w wr w' : World} {g0 g1 g2 g3 : Nat} {m : Lm} {c d : Cx} (h : SpSt w wr g0 g1 g2 g3 m c d) (hb : Below wr.heap.size wr w') : SpSt w w' g0 g1 g2 g3 m c d :=
  ⟨h.be.trans (hb.mono h.be.size), h.h2, h.h3, h.n0, h.n1, h.n2, box_below h.bm hb (box_lt h.bm), box_below h.bc hb (box_lt h.bc), box_below h.br hb (box_lt h.br), box_below h.bd hb (box_lt h.bd)⟩
theorem bel_rowR {w w' : World} {g : Nat} (h : Below w.heap.size w w') (hg : w.heap.size ≤ g) (cs : Array Value) : Below w.heap.size w (w'.setRow g cs) :=
  ⟨h.os, h.tape, h.output, by simpa [World.setRow] using h.size, fun i hi => (setRow_other _ g i _ (by omega)).trans (h.block i hi)⟩
theorem SpSt.put {w wr : World} {g0 g1 g2 g3 : Nat} {m : Lm} {c d : Cx} (h : SpSt w wr g0 g1 g2 g3 m c d) (d' : Cx) : SpSt w (wr.setRow g3 #[.int .u16 d'.f, .int .u16 d'.i, .int .u8 d'.r0, .int .u8 d'.r1, .int .u8 d'.r2, .int .u8 d'.r3, .int .u8 d'.r4, .int .u8 d'.r5, .int .i8 d'.c0, .int .i8 d'.c1, .int .i8 d'.c2, .int .i8 d'.c3, .int .i8 d'.c4, .int .i8 d'.c5, .int .u8 d'.m, .int .u16 d'.n, .bool d'.x, .int .u8 d'.h]) g0 g1 g2 g3 m c d' :=
  ⟨bel_rowR h.be h.h3 _, h.h2, h.h3, h.n0, h.n1, h.n2, (setRow_other _ g3 g0 _ h.n0).trans h.bm, (setRow_other _ g3 g1 _ h.n1).trans h.bc, (setRow_other _ g3 g2 _ h.n2).trans h.br, setRow_heap _ g3 _ _ _ _ h.bd⟩
theorem SpSt.res {w wr : World} {g0 g1 g2 g3 : Nat} {m : Lm} {c d : Cx} (h : SpSt w wr g0 g1 g2 g3 m c d) (d' : Cx) : (wr.setRow g2 #[.int .u16 d'.f, .int .u16 d'.i, .int .u8 d'.r0, .int .u8 d'.r1, .int .u8 d'.r2, .int .u8 d'.r3, .int .u8 d'.r4, .int .u8 d'.r5, .int .i8 d'.c0, .int .i8 d'.c1, .int .i8 d'.c2, .int .i8 d'.c3, .int .i8 d'.c4, .int .i8 d'.c5, .int .u8 d'.m, .int .u16 d'.n, .bool d'.x, .int .u8 d'.h]).heap[g2]? = some (.cells #[.int .u16 d'.f, .int .u16 d'.i, .int .u8 d'.r0, .int .u8 d'.r1, .int .u8 d'.r2, .int .u8 d'.r3, .int .u8 d'.r4, .int .u8 d'.r5, .int .i8 d'.c0, .int .i8 d'.c1, .int .i8 d'.c2, .int .i8 d'.c3, .int .i8 d'.c4, .int .i8 d'.c5, .int .u8 d'.m, .int .u16 d'.n, .bool d'.x, .int .u8 d'.h] 131 (0, 0)) ∧ Below w.heap.size w (wr.setRow g2 #[.int .u16 d'.f, .int .u16 d'.i, .int .u8 d'.r0, .int .u8 d'.r1, .int .u8 d'.r2, .int .u8 d'.r3, .int .u8 d'.r4, .int .u8 d'.r5, .int .i8 d'.c0, .int .i8 d'.c1, .int .i8 d'.c2, .int .i8 d'.c3, .int .i8 d'.c4, .int .i8 d'.c5, .int .u8 d'.m, .int .u16 d'.n, .bool d'.x, .int .u8 d'.h]) :=
  ⟨setRow_heap _ g2 _ _ _ _ h.br, bel_rowR h.be h.h2 _⟩
set_option maxRecDepth 100000 in
set_option maxHeartbeats 4000000 in
theorem Spend_det {m : Lm} {c d : Cx} {b : Bool} (a : Option Addr) (len cap n : Nat) (l : List Int) (w : World) (hm : m.Ok) (hok : c.Ok) (hl : l.length = len) (hn : n ≤ w.heap.size) (hr : Rd n w a len cap (Bs.iv l)) (h : spendR m c l = (d, b)) :
    Calls Try.prog 64 #[.agg #[.int .u8 m.l0, .int .u8 m.l1, .int .u8 m.l2, .int .u8 m.l3, .int .u8 m.l4, .int .u8 m.l5], .agg #[.int .u16 c.f, .int .u16 c.i, .int .u8 c.r0, .int .u8 c.r1, .int .u8 c.r2, .int .u8 c.r3, .int .u8 c.r4, .int .u8 c.r5, .int .i8 c.c0, .int .i8 c.c1, .int .i8 c.c2, .int .i8 c.c3, .int .i8 c.c4, .int .i8 c.c5, .int .u8 c.m, .int .u16 c.n, .bool c.x, .int .u8 c.h], .slice a len cap] w fun e w' => e = .returned (.tuple #[.agg #[.int .u16 d.f, .int .u16 d.i, .int .u8 d.r0, .int .u8 d.r1, .int .u8 d.r2, .int .u8 d.r3, .int .u8 d.r4, .int .u8 d.r5, .int .i8 d.c0, .int .i8 d.c1, .int .i8 d.c2, .int .i8 d.c3, .int .i8 d.c4, .int .i8 d.c5, .int .u8 d.m, .int .u16 d.n, .bool d.x, .int .u8 d.h], .bool b]) ∧ Below w.heap.size w w' := by
  have hzc := zero_cx
  have h1 := hr.le
  have h2 := hr.top
  unfold maxLen at h2
  have H := Lib.hid h
  have HR := Lib.hid hr
  have HN := Lib.hid hn
  clear h hr hn
  go_enter Try.func64, Try.ntmps64
  go_wp2_with (first | ((with_reducible show wpList _ _ _ (_ :: _) _ _); refine wpList_load_row rfl 131 _ rfl _ rfl _ _ _ _ (al3 _ _ _ _).2.1 Try.underlying131 rfl (by exact size_cx) ?_; (try go_simp)) | ((with_reducible show wpList _ _ _ (_ :: _) _ _); refine wpList_store_row rfl 131 _ _ rfl _ _ rfl rfl _ _ (heap_alloc_new _ _) (by exact size_cx) (by rfl) (by simp [Value.oneCell']) ?_; rw [World.setRow_alloc_new]))
  obtain ⟨ws, hws, hS⟩ : ∃ ws, ws = ((((w.alloc (.cells #[.int .u8 m.l0, .int .u8 m.l1, .int .u8 m.l2, .int .u8 m.l3, .int .u8 m.l4, .int .u8 m.l5] 129)).alloc (.cells #[.int .u16 c.f, .int .u16 c.i, .int .u8 c.r0, .int .u8 c.r1, .int .u8 c.r2, .int .u8 c.r3, .int .u8 c.r4, .int .u8 c.r5, .int .i8 c.c0, .int .i8 c.c1, .int .i8 c.c2, .int .i8 c.c3, .int .i8 c.c4, .int .i8 c.c5, .int .u8 c.m, .int .u16 c.n, .bool c.x, .int .u8 c.h] 131)).alloc (.cells #[.int .u16 cxZero.f, .int .u16 cxZero.i, .int .u8 cxZero.r0, .int .u8 cxZero.r1, .int .u8 cxZero.r2, .int .u8 cxZero.r3, .int .u8 cxZero.r4, .int .u8 cxZero.r5, .int .i8 cxZero.c0, .int .i8 cxZero.c1, .int .i8 cxZero.c2, .int .i8 cxZero.c3, .int .i8 cxZero.c4, .int .i8 cxZero.c5, .int .u8 cxZero.m, .int .u16 cxZero.n, .bool cxZero.x, .int .u8 cxZero.h] 131)).alloc (.cells #[.int .u16 c.f, .int .u16 c.i, .int .u8 c.r0, .int .u8 c.r1, .int .u8 c.r2, .int .u8 c.r3, .int .u8 c.r4, .int .u8 c.r5, .int .i8 c.c0, .int .i8 c.c1, .int .i8 c.c2, .int .i8 c.c3, .int .i8 c.c4, .int .i8 c.c5, .int .u8 c.m, .int .u16 c.n, .bool c.x, .int .u8 c.h] 131)) ∧ SpSt w ws w.heap.size (w.heap.size + 1) (w.heap.size + 1 + 1) (w.heap.size + 1 + 1 + 1) m c c := by
    obtain ⟨f0, f1, f2, f3⟩ := al4 w (.cells #[.int .u8 m.l0, .int .u8 m.l1, .int .u8 m.l2, .int .u8 m.l3, .int .u8 m.l4, .int .u8 m.l5] 129) (.cells #[.int .u16 c.f, .int .u16 c.i, .int .u8 c.r0, .int .u8 c.r1, .int .u8 c.r2, .int .u8 c.r3, .int .u8 c.r4, .int .u8 c.r5, .int .i8 c.c0, .int .i8 c.c1, .int .i8 c.c2, .int .i8 c.c3, .int .i8 c.c4, .int .i8 c.c5, .int .u8 c.m, .int .u16 c.n, .bool c.x, .int .u8 c.h] 131) (.cells #[.int .u16 cxZero.f, .int .u16 cxZero.i, .int .u8 cxZero.r0, .int .u8 cxZero.r1, .int .u8 cxZero.r2, .int .u8 cxZero.r3, .int .u8 cxZero.r4, .int .u8 cxZero.r5, .int .i8 cxZero.c0, .int .i8 cxZero.c1, .int .i8 cxZero.c2, .int .i8 cxZero.c3, .int .i8 cxZero.c4, .int .i8 cxZero.c5, .int .u8 cxZero.m, .int .u16 cxZero.n, .bool cxZero.x, .int .u8 cxZero.h] 131) (.cells #[.int .u16 c.f, .int .u16 c.i, .int .u8 c.r0, .int .u8 c.r1, .int .u8 c.r2, .int .u8 c.r3, .int .u8 c.r4, .int .u8 c.r5, .int .i8 c.c0, .int .i8 c.c1, .int .i8 c.c2, .int .i8 c.c3, .int .i8 c.c4, .int .i8 c.c5, .int .u8 c.m, .int .u16 c.n, .bool c.x, .int .u8 c.h] 131)
    exact ⟨_, rfl, by repeat' (first | (with_reducible exact Below.refl _ _) | (with_reducible assumption) | (with_reducible refine Below.setCell ?_ ?_ _) | (with_reducible refine Below.alloc ?_ ?_ _) | (with_reducible refine Below.drew ?_) | (with_reducible refine Below.drawsN ?_ _) | go_size), by omega, by omega, by omega, by omega, by omega, f0, f1, f2, f3⟩
  rw [← hws]
  obtain ⟨g3, hg3⟩ : ∃ g, g = w.heap.size + 1 + 1 + 1 := ⟨_, rfl⟩
  rw [← hg3] at hS ⊢
  obtain ⟨g2, hg2⟩ : ∃ g, g = w.heap.size + 1 + 1 := ⟨_, rfl⟩
  rw [← hg2] at hS ⊢
  obtain ⟨g1, hg1⟩ : ∃ g, g = w.heap.size + 1 := ⟨_, rfl⟩
  rw [← hg1] at hS ⊢
  obtain ⟨g0, hg0⟩ : ∃ g, g = w.heap.size := ⟨_, rfl⟩
  rw [show (Value.pointer (some ⟨w.heap.size, 0, none⟩)) = .pointer (some ⟨g0, 0, none⟩) by rw [hg0]]
  have hS : SpSt w ws g0 g1 g2 g3 m c c := by rw [hg0]; exact hS
  have HS := Lib.hid hS
  clear hS hws hg3 hg2 hg1 hg0 hzc
  go_loopw [15] (fun i wr => ∃ (j : Nat) (q : Cx), j ≤ len ∧ i = .int .i64 j ∧ spend m c (l.take j) = some q ∧ q.Ok ∧ SpSt w wr g0 g1 g2 g3 m c q) (fun i _ => len - (intOf i).toNat)
  case atStart => exact ⟨0, c, Nat.zero_le _, rfl, rfl, hok, HS.out⟩
  case round =>
    obtain ⟨j, q, hj, rfl, hsp, hq, hS⟩ := hrel
    clear HS
    by_cases hlt : j < len
    · obtain ⟨bb, off, rfl, hbb, hc0⟩ := HR.out.at hlt
      have hcx := (hS.be.cell (p := ⟨bb, off + j, none⟩) (show bb < w.heap.size by have := HN.out; omega)).trans hc0
      unfold Bs.iv at hcx
      obtain ⟨x, hx⟩ : ∃ x, x = l.getD j 0 := ⟨_, rfl⟩
      have ht : l.take (j + 1) = l.take j ++ [x] := by rw [hx]; exact Bs.takeI_succ l (by omega)
      rw [← hx] at hcx
      obtain ⟨q2, b2, hq2⟩ : ∃ q2 b2, againR q x (m.of x) = (q2, b2) := ⟨_, _, rfl⟩
      have hq3 := hq2
      rw [againR_of hm] at hq3
      have h0 := hS.bm
      have h3 := hS.bd
      have HS := Lib.hid hS
      have HT := Lib.hid ht
      have HX := Lib.hid hx
      have HSP := Lib.hid hsp
      have HQ := Lib.hid hq2
      have HQ3 := Lib.hid hq3
      have l0 := box_lt h0
      have l3 := box_lt h3
      clear hS ht hx hsp hc0 hq2 hq3
      go_wp2_with fail
      obtain ⟨I, W, hne, hWI, hIW⟩ := Go.Mix.family (fun v => Below wr.heap.size wr v) (Below.refl _ _)
      have HJ := Lib.hid hIW
      have HW := Lib.hid hWI
      clear hWI hIW
      refine Go.Flo3.wp_region (fun w' => ∃ i, w' = W i) 9 [Go.Flo.Spec.is (.int .i64 (m.of x)), Go.Flo.Spec.is (.tuple #[.agg #[.int .u16 q2.f, .int .u16 q2.i, .int .u8 q2.r0, .int .u8 q2.r1, .int .u8 q2.r2, .int .u8 q2.r3, .int .u8 q2.r4, .int .u8 q2.r5, .int .i8 q2.c0, .int .i8 q2.c1, .int .i8 q2.c2, .int .i8 q2.c3, .int .i8 q2.c4, .int .i8 q2.c5, .int .u8 q2.m, .int .u16 q2.n, .bool q2.x, .int .u8 q2.h], .bool b2])] (by kernel_rfl) (by kernel_rfl) (by decide) (by rintro _ w' ⟨i, rfl⟩ hb; exact HJ.out _ ((HW.out i).trans (hb.mono (HW.out i).size))) (HJ.out _ (Below.refl _ _).drew) ?_
      simp only [Go.Flo.pair, Go.Mix.calm, List.take, List.drop, if_true, Bool.false_eq_true, if_false, Nat.reduceAdd, Nat.reduceSub]
      (refine Go.Flo.fw_calm rfl ?_ (fun K hK => ?_); (first | exact Go.Mix.wanted_none rfl | exact Go.Mix.wanted_tt rfl rfl rfl | exact Go.Mix.wanted_ff rfl rfl rfl); refine Go.Flo.quiet_load_row 131 _ rfl g3 rfl _ #[.int .u16 q.f, .int .u16 q.i, .int .u8 q.r0, .int .u8 q.r1, .int .u8 q.r2, .int .u8 q.r3, .int .u8 q.r4, .int .u8 q.r5, .int .i8 q.c0, .int .i8 q.c1, .int .i8 q.c2, .int .i8 q.c3, .int .i8 q.c4, .int .i8 q.c5, .int .u8 q.m, .int .u16 q.n, .bool q.x, .int .u8 q.h] _ (by rintro _ ⟨i, rfl⟩; exact ((HW.out i).block g3 l3).trans h3) Try.underlying131 rfl size_cx ?_; go_simp; refine hK _ ?_; clear hK K)
      (first | (refine Go.Flo.fw_calm rfl ?_ (fun K hK => ?_); (first | exact Go.Mix.wanted_none rfl | exact Go.Mix.wanted_tt rfl rfl rfl | exact Go.Mix.wanted_ff rfl rfl rfl); go_big_quiet_op; refine hK _ ?_; clear hK K) | (refine Go.Flo.fw_skip ?_ (fun K hK => ?_); (first | exact Go.Mix.wanted_tf rfl rfl rfl | exact Go.Mix.wanted_ft rfl rfl rfl); go_simp; refine hK _ ?_; clear hK K) | (refine Go.Flo.fw_any rfl ?_ (fun K hK => ?_); (first | exact Go.Mix.wanted_none rfl | exact Go.Mix.wanted_tt rfl rfl rfl | exact Go.Mix.wanted_ff rfl rfl rfl); go_simp; (try (go_ints; try go_simp)); refine hK _ ?_; clear hK K))
      (refine Go.Flo.fw_calm rfl ?_ (fun K hK => ?_); (first | exact Go.Mix.wanted_none rfl | exact Go.Mix.wanted_tt rfl rfl rfl | exact Go.Mix.wanted_ff rfl rfl rfl); refine Go.Flo.quiet_load_row 129 _ rfl g0 rfl _ #[.int .u8 m.l0, .int .u8 m.l1, .int .u8 m.l2, .int .u8 m.l3, .int .u8 m.l4, .int .u8 m.l5] _ (by rintro _ ⟨i, rfl⟩; exact ((HW.out i).block g0 l0).trans h0) Try.underlying129 rfl size_lm ?_; go_simp; refine hK _ ?_; clear hK K)
      (first | (refine Go.Flo.fw_calm rfl ?_ (fun K hK => ?_); (first | exact Go.Mix.wanted_none rfl | exact Go.Mix.wanted_tt rfl rfl rfl | exact Go.Mix.wanted_ff rfl rfl rfl); go_big_quiet_op; refine hK _ ?_; clear hK K) | (refine Go.Flo.fw_skip ?_ (fun K hK => ?_); (first | exact Go.Mix.wanted_tf rfl rfl rfl | exact Go.Mix.wanted_ft rfl rfl rfl); go_simp; refine hK _ ?_; clear hK K) | (refine Go.Flo.fw_any rfl ?_ (fun K hK => ?_); (first | exact Go.Mix.wanted_none rfl | exact Go.Mix.wanted_tt rfl rfl rfl | exact Go.Mix.wanted_ff rfl rfl rfl); go_simp; (try (go_ints; try go_simp)); refine hK _ ?_; clear hK K))
      refine Go.Flo.fw_loud rfl ?_ rfl (by simp) (fun wv hwv hav K hK => ?_) (fun v hv K hK => ?_)
      · (first | exact Go.Mix.wanted_none rfl | exact Go.Mix.wanted_tt rfl rfl rfl | exact Go.Mix.wanted_ff rfl rfl rfl)
      · obtain ⟨iv, rfl⟩ := hwv
        have hbv := HW.out iv
        (first | go_big_op | go_simp)
        go_at_call 106
        refine (of_any hm x _).mono ?_
        rintro e w' ⟨rfl, hb⟩
        exact hK _ _ (Go.Flo.owes_is _ rfl hb)
      obtain rfl := hv.is
      go_simp
      refine hK _ ?_
      clear hK K hv
      refine Go.Flo.fw_loud rfl ?_ rfl (by simp) (fun wv hwv hav K hK => ?_) (fun v hv K hK => ?_)
      · (first | exact Go.Mix.wanted_none rfl | exact Go.Mix.wanted_tt rfl rfl rfl | exact Go.Mix.wanted_ff rfl rfl rfl)
      · obtain ⟨iv, rfl⟩ := hwv
        have hbv := HW.out iv
        (first | go_big_op | go_simp)
        go_at_call 105
        refine (Again_det _ hq HQ.out).mono ?_
        rintro e w' ⟨rfl, hb⟩
        exact hK _ _ (Go.Flo.owes_is _ rfl hb)
      obtain rfl := hv.is
      go_simp
      refine hK _ ?_
      clear hK K hv
      (repeat (first | (refine Go.Flo.fw_calm rfl ?_ (fun K hK => ?_); (first | exact Go.Mix.wanted_none rfl | exact Go.Mix.wanted_tt rfl rfl rfl | exact Go.Mix.wanted_ff rfl rfl rfl); go_big_quiet_op; refine hK _ ?_; clear hK K) | (refine Go.Flo.fw_skip ?_ (fun K hK => ?_); (first | exact Go.Mix.wanted_tf rfl rfl rfl | exact Go.Mix.wanted_ft rfl rfl rfl); go_simp; refine hK _ ?_; clear hK K) | (refine Go.Flo.fw_any rfl ?_ (fun K hK => ?_); (first | exact Go.Mix.wanted_none rfl | exact Go.Mix.wanted_tt rfl rfl rfl | exact Go.Mix.wanted_ff rfl rfl rfl); go_simp; (try (go_ints; try go_simp)); refine hK _ ?_; clear hK K)))
      refine Go.Flo.fw_nil ?_
      intro w2 hww2 hfw2 huw2
      obtain ⟨iend, hiend⟩ := hww2
      have hbw2 := HW.out iend
      rw [← hiend] at hbw2
      clear hiend iend huw2
      have hS2 := HS.out.step hbw2
      have hC2 := hS2.bd
      have HS3 := Lib.hid (hS2.put q2)
      clear hfw2 HJ HW hne hS2 h0 h3 l0 l3 hbw2 HS
      clear W I
      refine ⟨fun _ => True, trivial, ?_⟩

      (refine Go.Mix.walk_loud rfl ?_ (fun K hK => ?_); (first | exact Go.Mix.wanted_none rfl | exact Go.Mix.wanted_tt rfl rfl rfl | exact Go.Mix.wanted_ff rfl rfl rfl); refine wp_store_row 131 _ _ rfl _ #[.int .u16 q2.f, .int .u16 q2.i, .int .u8 q2.r0, .int .u8 q2.r1, .int .u8 q2.r2, .int .u8 q2.r3, .int .u8 q2.r4, .int .u8 q2.r5, .int .i8 q2.c0, .int .i8 q2.c1, .int .i8 q2.c2, .int .i8 q2.c3, .int .i8 q2.c4, .int .i8 q2.c5, .int .u8 q2.m, .int .u16 q2.n, .bool q2.x, .int .u8 q2.h] rfl rfl 131 _ hC2 size_cx rfl (by simp [Value.oneCell']) (hK _ _ trivial ?_); clear hK K)
      (repeat (first | (refine Go.Mix.walk_calm rfl ?_ (fun K hK => ?_); (first | exact Go.Mix.wanted_none rfl | exact Go.Mix.wanted_tt rfl rfl rfl | exact Go.Mix.wanted_ff rfl rfl rfl); go_big_quiet_op; refine hK _ ?_; clear hK K) | (refine Go.Mix.walk_skip ?_ (fun K hK => ?_); (first | exact Go.Mix.wanted_tf rfl rfl rfl | exact Go.Mix.wanted_ft rfl rfl rfl); go_simp; refine hK _ ?_; clear hK K) | (refine Go.Mix.walk_loud rfl ?_ (fun K hK => ?_); (first | exact Go.Mix.wanted_none rfl | exact Go.Mix.wanted_tt rfl rfl rfl | exact Go.Mix.wanted_ff rfl rfl rfl); (first | go_big_op | go_simp); (first | (refine hK _ _ trivial ?_; clear hK K) | (fail; (try dsimp only); refine hK _ _ trivial ?_; clear hK K))) | (refine Go.Mix.walk_step (fun K hK => ?_); go_simp; (try (go_ints; try go_simp)); refine hK _ _ ?_; clear hK K)))
      refine Go.Mix.walk_nil ?_
      obtain ⟨w3, hw3⟩ : ∃ w3, w3 = w2.setRow g3 #[.int .u16 q2.f, .int .u16 q2.i, .int .u8 q2.r0, .int .u8 q2.r1, .int .u8 q2.r2, .int .u8 q2.r3, .int .u8 q2.r4, .int .u8 q2.r5, .int .i8 q2.c0, .int .i8 q2.c1, .int .i8 q2.c2, .int .i8 q2.c3, .int .i8 q2.c4, .int .i8 q2.c5, .int .u8 q2.m, .int .u16 q2.n, .bool q2.x, .int .u8 q2.h] := ⟨_, rfl⟩
      rw [← hw3] at HS3 ⊢
      clear hC2 hw3 HQ
      cases hcr : canR m q x with
      | true =>
        have e3 := HQ3.out
        rw [hcr, if_pos rfl] at e3
        obtain ⟨ee, rfl⟩ := Prod.mk.inj e3
        obtain ⟨x0, x6, xl⟩ : 0 ≤ x ∧ x < 6 ∧ q.r x < m.l x := by simpa [canR] using hcr
        have z1 := q.r_good hq x
        have z2 := Lm.l_ok hm x
        have hok2 : q2.Ok := by rw [← ee]; exact q.setR_good x _ hq (by omega) (by omega)
        have hsp2 : spend m c (l.take (j + 1)) = some q2 := by
          rw [HT.out, spend_snoc, HSP.out, Option.bind_some, oneMore, hcr, if_pos rfl, ee]
        have HSP2 := Lib.hid hsp2
        clear e3 ee HQ3 hcr x0 x6 xl z1 z2 hsp2
        go_wp2_with fail
        go_roundw
        case rel => exact ⟨j + 1, q2, by omega, by go_num, HSP2.out, hok2, HS3.out⟩
        case measure => simp [intOf]; omega
      | false =>
        have e3 := HQ3.out
        rw [hcr, if_neg (by simp)] at e3
        obtain ⟨ee, rfl⟩ := Prod.mk.inj e3
        have hno : spend m c l = none := by
          have e : l = l.take (j + 1) ++ l.drop (j + 1) := (List.take_append_drop _ _).symm
          rw [e, spend_append, HT.out, spend_snoc, HSP.out, Option.bind_some, oneMore, hcr, if_neg (by simp)]
          rfl
        have hh := H.out
        unfold spendR at hh
        rw [hno] at hh
        obtain ⟨rfl, rfl⟩ := Prod.mk.inj hh
        have b1 := HS3.out.bc
        have b2 := HS3.out.br
        have R := HS3.out.res c
        clear e3 ee HQ3 hcr hno hh
        go_wp2_with (first | ((with_reducible show wpList _ _ _ (_ :: _) _ _); refine wpList_load_row rfl 131 _ rfl _ rfl _ _ _ _ b1 Try.underlying131 rfl (by exact size_cx) ?_; (try go_simp)) | ((with_reducible show wpList _ _ _ (_ :: _) _ _); refine wpList_store_row rfl 131 _ _ rfl _ _ rfl rfl _ _ b2 (by exact size_cx) (by rfl) (by simp [Value.oneCell']) ?_))
        refine bodyPost_ret (results_cell_tmp2 rfl _ _ _ _ _ _ rfl R.1 Try.underlying131 rfl size_cx) rfl ?_
        exact ⟨rfl, R.2⟩
    · obtain rfl : j = len := by omega
      have ht : l.take j = l := List.take_of_length_le (by omega)
      rw [ht] at hsp
      have hh := H.out
      unfold spendR at hh
      rw [hsp] at hh
      obtain ⟨rfl, rfl⟩ := Prod.mk.inj hh
      have b1 := hS.bd
      have b2 := hS.br
      have R := hS.res q
      clear ht hsp hh hS
      go_wp2_with (first | ((with_reducible show wpList _ _ _ (_ :: _) _ _); refine wpList_load_row rfl 131 _ rfl _ rfl _ _ _ _ b1 Try.underlying131 rfl (by exact size_cx) ?_; (try go_simp)) | ((with_reducible show wpList _ _ _ (_ :: _) _ _); refine wpList_store_row rfl 131 _ _ rfl _ _ rfl rfl _ _ b2 (by exact size_cx) (by rfl) (by simp [Value.oneCell']) ?_))
      refine bodyPost_ret (results_cell_tmp2 rfl _ _ _ _ _ _ rfl R.1 Try.underlying131 rfl size_cx) rfl ?_
      exact ⟨rfl, R.2⟩
end Go.Proofs.Ytiaaafjpnijphaa
