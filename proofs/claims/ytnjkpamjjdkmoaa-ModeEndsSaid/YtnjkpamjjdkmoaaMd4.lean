/- Layer 24: the document's Ask; names; == of modes. -/
import Derived.Test.YtnjkpamjjdkmoaaMd2
import Derived.Test.YtnjkpamjjdkmoaaFlat
import Derived.Test.YtnjkpamjjdkmoaaFlatEq
namespace Go.Proofs.Ytnjkpamjjdkmoaa
open Go.RowKit Go.Own Go.ChangeShapes Go.WideShapes
set_option linter.unusedVariables false
set_option linter.unusedSimpArgs false
/-- A mode's name. -/
def nmM : Nat → ByteArray
  | 0 => ⟨#[115, 97, 102, 101]⟩
  | 1 => ⟨#[100, 101, 116, 117, 109, 98, 108, 101]⟩
  | 2 => ⟨#[115, 117, 110]⟩
  | 3 => ⟨#[110, 111, 109, 105, 110, 97, 108]⟩
  | _ => ⟨#[]⟩
theorem nmM_none {l : Nat} (h : 4 ≤ l) : nmM l = ⟨#[]⟩ := by
  obtain ⟨k, rfl⟩ : ∃ k, l = k + 4 := ⟨l - 4, by omega⟩
  rfl
set_option maxHeartbeats 1000000 in
theorem NameM_any (l : Nat) (w : World) (h : l < 256) : Calls Try.prog 72 #[.int .u8 (l : Nat)] w fun e w' => e = .returned (.string (nmM l)) ∧ w = w' := by
  rcases (by omega : l = 0 ∨ l = 1 ∨ l = 2 ∨ l = 3 ∨ 4 ≤ l) with rfl | rfl | rfl | rfl | h5
  · go_enter Try.func72, Try.ntmps72
    go_wp2
    go_ret
    exact ⟨rfl, rfl⟩
  · go_enter Try.func72, Try.ntmps72
    go_wp2
    go_ret
    exact ⟨rfl, rfl⟩
  · go_enter Try.func72, Try.ntmps72
    go_wp2
    go_ret
    exact ⟨rfl, rfl⟩
  · go_enter Try.func72, Try.ntmps72
    go_wp2
    go_ret
    exact ⟨rfl, rfl⟩
  · rw [nmM_none h5]
    have k0 : ((l : Int) == 0) = false := by rw [beq_eq_false_iff_ne]; omega
    have k1 : ((l : Int) == 1) = false := by rw [beq_eq_false_iff_ne]; omega
    have k2 : ((l : Int) == 2) = false := by rw [beq_eq_false_iff_ne]; omega
    have k3 : ((l : Int) == 3) = false := by rw [beq_eq_false_iff_ne]; omega
    go_enter Try.func72, Try.ntmps72
    go_wp2
    go_ret
    exact ⟨rfl, rfl⟩
theorem wf8 {x : Nat} (h : x < 256) : (Lit.int .u8 (x : Int)).wf = true := by
  have e1 : IntKind.u8.min = 0 := by decide
  have e2 : IntKind.u8.max = 255 := by decide
  simp [Lit.wf, e1, e2]
  omega
theorem wf16 {x : Nat} (h : x < 65536) : (Lit.int .u16 (x : Int)).wf = true := by
  have e1 : IntKind.u16.min = 0 := by decide
  have e2 : IntKind.u16.max = 65535 := by decide
  simp [Lit.wf, e1, e2]
  omega
def moSh : List Leaf := [.int .u8, .int .u16, .int .u8, .int .u8, .int .u8]
theorem mo_plain {a : Mo} (h : a.Ok) : Plain moSh (#[.int .u8 ((Mo.m a : Nat) : Int), .int .u16 ((Mo.s a : Nat) : Int), .int .u8 ((Mo.c a : Nat) : Int), .int .u8 ((Mo.n a : Nat) : Int), .int .u8 ((Mo.d a : Nat) : Int)] : Array Value).toList := by
  obtain ⟨h1, h2, h3, h4, h5⟩ := h
  exact ⟨⟨_, rfl, wf8 (by omega)⟩, ⟨_, rfl, wf16 h2⟩, ⟨_, rfl, wf8 h3⟩, ⟨_, rfl, wf8 h4⟩, ⟨_, rfl, wf8 h5⟩, trivial⟩
theorem mo_cells {a b : Mo} : (#[.int .u8 ((Mo.m a : Nat) : Int), .int .u16 ((Mo.s a : Nat) : Int), .int .u8 ((Mo.c a : Nat) : Int), .int .u8 ((Mo.n a : Nat) : Int), .int .u8 ((Mo.d a : Nat) : Int)] : Array Value) = #[.int .u8 ((Mo.m b : Nat) : Int), .int .u16 ((Mo.s b : Nat) : Int), .int .u8 ((Mo.c b : Nat) : Int), .int .u8 ((Mo.n b : Nat) : Int), .int .u8 ((Mo.d b : Nat) : Int)] ↔ a = b := by
  constructor
  · intro h
    have := congrArg Array.toList h
    simp at this
    obtain ⟨h1, h2, h3, h4, h5⟩ := this
    cases a; cases b
    simp only [Mo.mk.injEq]
    simp only [] at h1 h2 h3 h4 h5
    omega
  · rintro rfl; rfl
theorem eqMo {a b : Mo} (ha : a.Ok) (hb : b.Ok) (w : World) : (binOp .eql 123 (.agg #[.int .u8 ((Mo.m a : Nat) : Int), .int .u16 ((Mo.s a : Nat) : Int), .int .u8 ((Mo.c a : Nat) : Int), .int .u8 ((Mo.n a : Nat) : Int), .int .u8 ((Mo.d a : Nat) : Int)]) (.agg #[.int .u8 ((Mo.m b : Nat) : Int), .int .u16 ((Mo.s b : Nat) : Int), .int .u8 ((Mo.c b : Nat) : Int), .int .u8 ((Mo.n b : Nat) : Int), .int .u8 ((Mo.d b : Nat) : Int)])).run Try.prog w = .ok (.bool (decide (a = b))) w := by
  obtain ⟨r, h, hi⟩ := eql_plain (P := Try.prog) (t := 123) (sh := moSh) (xs := #[.int .u8 ((Mo.m a : Nat) : Int), .int .u16 ((Mo.s a : Nat) : Int), .int .u8 ((Mo.c a : Nat) : Int), .int .u8 ((Mo.n a : Nat) : Int), .int .u8 ((Mo.d a : Nat) : Int)]) (ys := #[.int .u8 ((Mo.m b : Nat) : Int), .int .u16 ((Mo.s b : Nat) : Int), .int .u8 ((Mo.c b : Nat) : Int), .int .u8 ((Mo.n b : Nat) : Int), .int .u8 ((Mo.d b : Nat) : Int)]) (m := 9) (by omega) (by kernel_rfl) (by kernel_rfl) (by kernel_rfl) (by kernel_rfl) (mo_plain ha) (mo_plain hb) w
  rw [h, show r = decide (a = b) by rw [Bool.eq_iff_iff, hi, decide_eq_true_eq]; exact mo_cells]
theorem eqMr {a b : Mo} (ha : a.Ok) (hb : b.Ok) (w : World) : (binOp .eql 129 (.agg #[.int .u8 ((Mo.m a : Nat) : Int), .int .u16 ((Mo.s a : Nat) : Int), .int .u8 ((Mo.c a : Nat) : Int), .int .u8 ((Mo.n a : Nat) : Int), .int .u8 ((Mo.d a : Nat) : Int)]) (.agg #[.int .u8 ((Mo.m b : Nat) : Int), .int .u16 ((Mo.s b : Nat) : Int), .int .u8 ((Mo.c b : Nat) : Int), .int .u8 ((Mo.n b : Nat) : Int), .int .u8 ((Mo.d b : Nat) : Int)])).run Try.prog w = .ok (.bool (decide (a = b))) w := by
  obtain ⟨r, h, hi⟩ := eql_plain (P := Try.prog) (t := 129) (sh := moSh) (xs := #[.int .u8 ((Mo.m a : Nat) : Int), .int .u16 ((Mo.s a : Nat) : Int), .int .u8 ((Mo.c a : Nat) : Int), .int .u8 ((Mo.n a : Nat) : Int), .int .u8 ((Mo.d a : Nat) : Int)]) (ys := #[.int .u8 ((Mo.m b : Nat) : Int), .int .u16 ((Mo.s b : Nat) : Int), .int .u8 ((Mo.c b : Nat) : Int), .int .u8 ((Mo.n b : Nat) : Int), .int .u8 ((Mo.d b : Nat) : Int)]) (m := 9) (by omega) (by kernel_rfl) (by kernel_rfl) (by kernel_rfl) (by kernel_rfl) (mo_plain ha) (mo_plain hb) w
  rw [h, show r = decide (a = b) by rw [Bool.eq_iff_iff, hi, decide_eq_true_eq]; exact mo_cells]
open Go.ChangeShapes Go.WideShapes Go.Deep in
theorem fit_8 {w : World} {ks : List Leaf} {cs : List Value} (h : Fit w (.int .u8 :: ks) cs) : ∃ (x : Nat) (vs : List Value), cs = .int .u8 ((x : Nat) : Int) :: vs ∧ x < 256 ∧ Fit w ks vs := by
  match cs, h with
  | v :: vs, ⟨⟨z, hz, hw⟩, h2⟩ =>
    have hb := bounds_u8 hw
    obtain ⟨x, rfl⟩ := Int.eq_ofNat_of_zero_le hb.1
    exact ⟨x, vs, by rw [hz], by omega, h2⟩
open Go.ChangeShapes Go.WideShapes Go.Deep in
theorem fit_16 {w : World} {ks : List Leaf} {cs : List Value} (h : Fit w (.int .u16 :: ks) cs) : ∃ (x : Nat) (vs : List Value), cs = .int .u16 ((x : Nat) : Int) :: vs ∧ x < 65536 ∧ Fit w ks vs := by
  match cs, h with
  | v :: vs, ⟨⟨z, hz, hw⟩, h2⟩ =>
    have hb := bounds_u16 hw
    obtain ⟨x, rfl⟩ := Int.eq_ofNat_of_zero_le hb.1
    exact ⟨x, vs, by rw [hz], by omega, h2⟩
/-- A configuration that came in. -/
theorem cf_fit {w : World} {cs : List Value} (h : Fit w [.int .u8, .int .u8, .int .u8, .int .u16, .int .u16, .int .u16, .int .u16] cs) : ∃ c : Cf, c.Ok ∧ cs.toArray = #[.int .u8 ((Cf.calm c : Nat) : Int), .int .u8 ((Cf.seen c : Nat) : Int), .int .u8 ((Cf.lost c : Nat) : Int), .int .u16 ((Cf.t c 0 : Nat) : Int), .int .u16 ((Cf.t c 1 : Nat) : Int), .int .u16 ((Cf.t c 2 : Nat) : Int), .int .u16 ((Cf.t c 3 : Nat) : Int)] := by
  obtain ⟨a, v1, rfl, ha, h⟩ := fit_8 h
  obtain ⟨b, v2, rfl, hb, h⟩ := fit_8 h
  obtain ⟨c, v3, rfl, hc, h⟩ := fit_8 h
  obtain ⟨d, v4, rfl, hd, h⟩ := fit_16 h
  obtain ⟨e, v5, rfl, he, h⟩ := fit_16 h
  obtain ⟨f, v6, rfl, hf, h⟩ := fit_16 h
  obtain ⟨g, v7, rfl, hg, h⟩ := fit_16 h
  have : v7 = [] := by cases v7 with
    | nil => rfl
    | cons => exact h.elim
  subst this
  refine ⟨⟨a, b, c, fun k => if k = 0 then d else if k = 1 then e else if k = 2 then f else g⟩, ⟨ha, hb, hc, fun k hk => ?_⟩, rfl⟩
  dsimp only
  repeat' split
  all_goals assumption
section
variable {P : Program}
theorem eqiM {t : TypeId} {sh : List Leaf} {xs ys : Array Value} {m : Nat} (hm : 10000 = (10000 - m) + m) (hl : leaves P 9 t = some sh) (hk : P.keyTypeAt m t = true) (hs : (match P.underlying t with | some (.struct _) | some (.array _ _) => true | _ => false) = true)
    (hc : P.cellsOf t = sh.length) (hx : Plain sh xs.toList) (hy : Plain sh ys.toList) (w : World) : ∃ r : Bool, (Op.equalIn 10000 t (.agg xs) (.agg ys)).run P w = .ok r w ∧ (r = true ↔ xs = ys) := by
  have hf : ∀ zs : Array Value, Plain sh zs.toList → (Value.agg zs).formed P t = true := by
    intro zs hz
    have hzl := hz.len
    unfold Value.formed
    split at hs
    · rename_i fs e
      simp [e, hc]
      simpa using hzl
    · rename_i n q e
      simp [e, hc]
      simpa using hzl
    · cases hs
  obtain ⟨r, hr, hi⟩ := run_equalIn_deep (P := P) (10000 - m) m t hk w 9 9 (.agg xs) (.agg ys) _ _ (hf xs hx) (hf ys hy) (lits_plain 9 m t sh _ hl hk hx) (lits_plain 9 m t sh _ hl hk hy)
  rw [← hm] at hr
  refine ⟨r, hr, hi.trans ⟨fun h => ?_, fun h => by rw [h]⟩⟩
  have := hx.inj hy h
  exact Array.toList_inj.1 this
end
theorem neqMo {a : Mo} (ha : a.Ok) (w : World) : (binOp .neq 123 (.agg #[.int .u8 ((Mo.m a : Nat) : Int), .int .u16 ((Mo.s a : Nat) : Int), .int .u8 ((Mo.c a : Nat) : Int), .int .u8 ((Mo.n a : Nat) : Int), .int .u8 ((Mo.d a : Nat) : Int)]) (.agg #[.int .u8 ((Mo.m a : Nat) : Int), .int .u16 ((Mo.s a : Nat) : Int), .int .u8 ((Mo.c a : Nat) : Int), .int .u8 ((Mo.n a : Nat) : Int), .int .u8 ((Mo.d a : Nat) : Int)])).run Try.prog w = .ok (.bool false) w := by
  obtain ⟨r, h, hi⟩ := eqiM (P := Try.prog) (t := 123) (sh := moSh) (xs := #[.int .u8 ((Mo.m a : Nat) : Int), .int .u16 ((Mo.s a : Nat) : Int), .int .u8 ((Mo.c a : Nat) : Int), .int .u8 ((Mo.n a : Nat) : Int), .int .u8 ((Mo.d a : Nat) : Int)]) (ys := #[.int .u8 ((Mo.m a : Nat) : Int), .int .u16 ((Mo.s a : Nat) : Int), .int .u8 ((Mo.c a : Nat) : Int), .int .u8 ((Mo.n a : Nat) : Int), .int .u8 ((Mo.d a : Nat) : Int)]) (m := 9) (by omega) (by kernel_rfl) (by kernel_rfl) (by kernel_rfl) (by kernel_rfl) (mo_plain ha) (mo_plain ha) w
  rw [run_neq_struct, h, hi.2 rfl]; rfl
theorem neqMr {a : Mo} (ha : a.Ok) (w : World) : (binOp .neq 129 (.agg #[.int .u8 ((Mo.m a : Nat) : Int), .int .u16 ((Mo.s a : Nat) : Int), .int .u8 ((Mo.c a : Nat) : Int), .int .u8 ((Mo.n a : Nat) : Int), .int .u8 ((Mo.d a : Nat) : Int)]) (.agg #[.int .u8 ((Mo.m a : Nat) : Int), .int .u16 ((Mo.s a : Nat) : Int), .int .u8 ((Mo.c a : Nat) : Int), .int .u8 ((Mo.n a : Nat) : Int), .int .u8 ((Mo.d a : Nat) : Int)])).run Try.prog w = .ok (.bool false) w := by
  obtain ⟨r, h, hi⟩ := eqiM (P := Try.prog) (t := 129) (sh := moSh) (xs := #[.int .u8 ((Mo.m a : Nat) : Int), .int .u16 ((Mo.s a : Nat) : Int), .int .u8 ((Mo.c a : Nat) : Int), .int .u8 ((Mo.n a : Nat) : Int), .int .u8 ((Mo.d a : Nat) : Int)]) (ys := #[.int .u8 ((Mo.m a : Nat) : Int), .int .u16 ((Mo.s a : Nat) : Int), .int .u8 ((Mo.c a : Nat) : Int), .int .u8 ((Mo.n a : Nat) : Int), .int .u8 ((Mo.d a : Nat) : Int)]) (m := 9) (by omega) (by kernel_rfl) (by kernel_rfl) (by kernel_rfl) (by kernel_rfl) (mo_plain ha) (mo_plain ha) w
  rw [run_neq_struct, h, hi.2 rfl]; rfl
end Go.Proofs.Ytnjkpamjjdkmoaa
