import PyProof.Rows.All
import Wide.All
import OpenK.AllK
import Wide.FinOn
import HandS.ForMost
import HandS.Gcd
import HandS.Wide
import HandS.IsInst
import HandS.Zip
import PySem.Challenge.RW_kettlerow_k02_fractions_reckoned
set_option Elab.async false
set_option linter.all false
set_option maxRecDepth 100000
set_option maxHeartbeats 4000000
/-! ### own rules and words, of no law -/
namespace KR
open PySem PySem.Spec PyProof.Rows L2

/-- * of any two ints whose product is told to fit -/
theorem op_mulX {X : Cx} : OpR X (binaryOp .Mult) (rI IntMulOk fun i j => .int (i * j)) := opI fun _ _ _ _ _ _ _ hc q => mul_int q hc
/-- // by any divisor but 0, to some three thousand figures -/
def DivOk (_ j : Int) : Prop := j ≠ 0 ∧ j.natAbs.log2 < 9000
theorem op_fdivX {X : Cx} : OpR X (binaryOp .FloorDiv) (rI DivOk fun i j => .int (i.fdiv j)) := opI fun _ _ _ _ _ _ _ hc q => floordiv_int hc.1 q (.inl (PyProof.noPylong_of_log2 hc.2))
theorem mulL {i j : Int} (h : i.natAbs < 2 ^ 64) : IntMulOk i j := CMul.ok (.inl ⟨by omega, by omega⟩)
theorem mulR {i j : Int} (h : j.natAbs < 2 ^ 64) : IntMulOk i j := CMul.ok (.inr ⟨by omega, by omega⟩)
theorem mulW {i j : Int} {a b : Nat} (ha : i.natAbs < 2 ^ a) (hb : j.natAbs < 2 ^ b) (h0 : 0 < a) (h1 : 0 < b) (h : a + b ≤ 1000000) : IntMulOk i j := (wide_mul ha hb h0 h1 h).ok
theorem divOk {i j : Int} {b : Nat} (h : j ≠ 0) (hb : j.natAbs < 2 ^ b) (h0 : 0 < b) (h9 : b ≤ 9000) : DivOk i j := ⟨h, Nat.lt_of_lt_of_le (PySem.Flt.log2_lt_of h0 hb) h9⟩
theorem add_lt {i j : Int} {a : Nat} (ha : i.natAbs < 2 ^ a) (hb : j.natAbs < 2 ^ a) : (i + j).natAbs < 2 ^ (a + 1) := by
  rw [Nat.pow_succ]
  omega
theorem sub_lt {i j : Int} {a : Nat} (ha : i.natAbs < 2 ^ a) (hb : j.natAbs < 2 ^ a) : (i - j).natAbs < 2 ^ (a + 1) := by
  rw [Nat.pow_succ]
  omega
theorem lt_up {i : Int} {a b : Nat} (ha : i.natAbs < 2 ^ a) (h : a ≤ b) : i.natAbs < 2 ^ b := Nat.lt_of_lt_of_le ha (Nat.pow_le_pow_right (by decide) h)
theorem bit_lt {c : Prop} [Decidable c] : (if c then (1 : Int) else 0).natAbs < 2 ^ 64 := by split <;> decide
theorem bit_nn {c : Prop} [Decidable c] : (0 : Int) ≤ (if c then (1 : Int) else 0) := by split <;> decide
theorem bit_or {c : Prop} [Decidable c] : (if c then (1 : Int) else 0) = 0 ∨ (if c then (1 : Int) else 0) = 1 := by split <;> simp
theorem small {n : Nat} (h : n ≤ 100000) : n ≤ sizeLine := Nat.le_trans h (by decide)
theorem small' {n : Nat} (h : n < 100000) : n < sizeLine := Nat.lt_of_lt_of_le h (by decide)

/-! the heap but for one object that is written -/
/-- all that was tracked but p is as it was -/
def Fr (p : Addr) (H H' : Hp) : Prop := ∀ b o, b ≠ p → H b = some o → H' b = some o
theorem Fr.refl {p : Addr} {H : Hp} : Fr p H H := fun _ _ _ h => h
theorem Fr.trans {p : Addr} {H H1 H2 : Hp} (a : Fr p H H1) (b : Fr p H1 H2) : Fr p H H2 := fun c o n h => b c o n (a c o n h)
theorem Fr.of {p : Addr} {H H1 : Hp} (a : Same H H1) : Fr p H H1 := fun c o _ h => a c o h
theorem same_new {H : Hp} {p : Addr} {o : HO} (h : H p = none) : Same H (upd H p o) := fun b x e => by
  rw [upd_ne (ne_of_none e h)]
  exact e
theorem Fr.new {p q : Addr} {H H1 : Hp} {o : HO} (a : Fr p H H1) (h : H1 q = none) : Fr p H (upd H1 q o) := a.trans (.of (same_new h))
theorem Fr.put {p : Addr} {H H1 : Hp} {o : HO} (a : Fr p H H1) : Fr p H (upd H1 p o) := fun c x n h => by
  rw [upd_ne n]
  exact a c x n h
/-- what is new there was new ahead of it, if the written one stands -/
theorem Fr.free {p q : Addr} {H H1 : Hp} {o : HO} (a : Fr p H H1) (hp : H1 p = some o) (h : H1 q = none) : H q = none := by
  cases e : H q with
  | none => rfl
  | some u =>
    have n : q ≠ p := fun z => by
      rw [z, hp] at h
      cases h
    rw [a q u n e] at h
    cases h

/-! a reading may be asked for more than is wanted; displays whose new heap is a letter -/
def clA (t : TA) : TA := fun σ H Q => ∃ Q0 : List V → Hp → Prop, (∀ xs H1, Q0 xs H1 → Q xs H1) ∧ t σ H Q0
theorem pa_cl {X : Cx} {es : List Expr} {t : TA} (h : PA X es t) : PA X es (clA t) := ⟨fun pos pins s σ H Q I ⟨Q0, m, q⟩ =>
  thn (h.run pos pins s σ H Q0 I q) fun us s1 ⟨xs, H1, I1, r, z⟩ => ⟨xs, H1, I1, r, m _ _ z⟩⟩
def tTupI (t : TA) : TE := fun σ H Q => t σ H fun xs H1 => Nat.ble xs.length 100000 = true ∧ ∀ p H', Same H1 H' → H1 p = none → H' p = some (.tup xs) → Q (.ref p) H'
def tLstI (t : TA) : TE := fun σ H Q => t σ H fun xs H1 => Nat.ble xs.length 100000 = true ∧ ∀ p H', Same H1 H' → H1 p = none → H' p = some (.lst xs) → Q (.ref p) H'
theorem pe_tupI {X : Cx} {es : List Expr} {k : Nat} {pos : Pos} {t : TA} (h : PA X es t) : PE X (.Tuple es k pos) (tTupI t) := ⟨fun pins s σ H Q I q =>
  (pe_tup (pa_cl h)).run pins s σ H Q I ⟨_, fun _ _ ⟨z, w⟩ => ⟨small (Nat.le_of_ble_eq_true z), fun p hp => w p _ (same_new hp) hp upd_same⟩, q⟩⟩
theorem pe_lstI {X : Cx} {es : List Expr} {pos : Pos} {t : TA} (h : PA X es t) : PE X (.List es pos) (tLstI t) := ⟨fun pins s σ H Q I q =>
  (pe_lst (pa_cl h)).run pins s σ H Q I ⟨_, fun _ _ ⟨z, w⟩ => ⟨small (Nat.le_of_ble_eq_true z), fun p hp => w p _ (same_new hp) hp upd_same⟩, q⟩⟩
theorem ite_iT {i j : Int} {A B : Prop} (h : i = j) (q : A) : if decide (V.int i = V.int j) = true then A else B := by
  rw [if_pos (decide_eq_true (congrArg V.int h))]
  exact q
theorem ite_iF {i j : Int} {A B : Prop} (h : i ≠ j) (q : B) : if decide (V.int i = V.int j) = true then A else B := by
  rw [if_neg (by rw [decide_eq_false fun z => h (V.int.inj z)]; exact Bool.false_ne_true)]
  exact q
theorem ite_nT {i j : Int} {A B : Prop} (h : i ≠ j) (q : A) : if (!decide (V.int i = V.int j)) = true then A else B := by
  rw [if_pos (by rw [decide_eq_false fun z => h (V.int.inj z)] <;> rfl)]
  exact q
theorem ite_nF {i j : Int} {A B : Prop} (h : i = j) (q : B) : if (!decide (V.int i = V.int j)) = true then A else B := by
  rw [if_neg (by rw [decide_eq_true (congrArg V.int h)]; exact Bool.false_ne_true)]
  exact q
/-- the law's box of draws: n is more than have been mixed -/
def BoxAt (H : Hp) (p : Addr) (n : Nat) : Prop := ∃ a b c : Int, H p = some (.lst [.int a, .int b, .int c]) ∧ 0 ≤ a ∧ 0 ≤ b ∧ b < 2 ^ 62 ∧ 0 ≤ c ∧ c ≤ (n : Int)
theorem BoxAt.mono {H : Hp} {p : Addr} {n m : Nat} (h : BoxAt H p n) (le : n ≤ m) : BoxAt H p m := by
  obtain ⟨a, b, c, h1, h2, h3, h4, h5, h6⟩ := h
  exact ⟨a, b, c, h1, h2, h3, h4, h5, by omega⟩
theorem BoxAt.same {H H' : Hp} {p : Addr} {n : Nat} (h : BoxAt H p n) (s : Same H H') : BoxAt H' p n := by
  obtain ⟨a, b, c, h1, h2⟩ := h
  exact ⟨a, b, c, s _ _ h1, h2⟩
theorem BoxAt.ne {H : Hp} {p q : Addr} {n : Nat} {xs : List V} (h : BoxAt H p n) (t : H q = some (.tup xs)) : q ≠ p := by
  obtain ⟨a, b, c, h1, _⟩ := h
  exact ne_of t h1 (by intro z; cases z)
theorem BoxAt.some {H : Hp} {p : Addr} {n : Nat} (h : BoxAt H p n) : ∃ o, H p = some o := by
  obtain ⟨a, b, c, h1, _⟩ := h
  exact ⟨_, h1⟩
/-- a tuple stays -/
theorem Fr.tup {p q : Addr} {H H1 : Hp} {n : Nat} {xs : List V} (a : Fr p H H1) (hb : BoxAt H p n) (t : H q = some (.tup xs)) : H1 q = some (.tup xs) := a q _ (hb.ne t) t
/-- a pair of ints -/
def PrAt (H : Hp) (q : Addr) (t b : Int) : Prop := H q = some (.tup [.int t, .int b])
theorem at0 {x : V} {xs : List V} : atI (x :: xs) 0 = some x := atI_nat (j := 0) rfl
theorem at1 {x y : V} {xs : List V} : atI (x :: y :: xs) 1 = some y := atI_nat (j := 1) rfl
theorem at2 {x y z : V} {xs : List V} : atI (x :: y :: z :: xs) 2 = some z := atI_nat (j := 2) rfl

/-! fractions -/
/-- the law's own lowest terms -/
def low (t b : Int) : Int × Int := (t / (Nat.gcd t.natAbs b.natAbs : Nat) * (if b < 0 then -1 else 1), (b.natAbs : Int) / (Nat.gcd t.natAbs b.natAbs : Nat))
structure IsLow (t b : Int) : Prop where
  pos : 0 < b
  cop : Nat.gcd t.natAbs b.natAbs = 1
theorem dvd_mul {a b : Int} (h : a ∣ b) : a * (b / a) = b := Int.mul_ediv_cancel' h
theorem low_facts (t b : Int) (hb : b ≠ 0) : IsLow (low t b).1 (low t b).2 ∧ t * (low t b).2 = (low t b).1 * b := by
  have hg : 0 < Nat.gcd t.natAbs b.natAbs := Nat.gcd_pos_of_pos_right _ (by omega)
  generalize e : Nat.gcd t.natAbs b.natAbs = g at hg
  have d1 : g ∣ t.natAbs := e ▸ Nat.gcd_dvd_left _ _
  have d2 : g ∣ b.natAbs := e ▸ Nat.gcd_dvd_right _ _
  obtain ⟨x, hx⟩ := d1
  obtain ⟨y, hy⟩ := d2
  have hc : Nat.gcd x y = 1 := by
    rw [hx, hy, Nat.gcd_mul_left] at e
    exact Nat.eq_of_mul_eq_mul_left hg (by rw [e, Nat.mul_one])
  have hy0 : 0 < y := by
    rcases Nat.eq_zero_or_pos y with z | z
    · rw [z, Nat.mul_zero] at hy
      omega
    · exact z
  have h2 : (low t b).2 = (y : Int) := by
    show (b.natAbs : Int) / (Nat.gcd t.natAbs b.natAbs : Nat) = (y : Int)
    rw [e, hy, Int.natCast_mul]
    exact Int.mul_ediv_cancel_left _ (by omega)
  have ht : t = (g : Int) * x ∨ t = -((g : Int) * x) := by
    have q : (t.natAbs : Int) = (g : Int) * x := by rw [hx, Int.natCast_mul]
    omega
  have hbb : (b.natAbs : Int) = (g : Int) * y := by rw [hy, Int.natCast_mul]
  have h1 : (low t b).1 = (t / (g : Int)) * (if b < 0 then -1 else 1) := by
    show t / (Nat.gcd t.natAbs b.natAbs : Nat) * (if b < 0 then -1 else 1) = _
    rw [e]
  have h3 : t / (g : Int) = x ∨ t / (g : Int) = -(x : Int) := by
    rcases ht with q | q
    · left
      rw [q]
      exact Int.mul_ediv_cancel_left _ (by omega)
    · right
      rw [q, ← Int.mul_neg]
      exact Int.mul_ediv_cancel_left _ (by omega)
  have h4 : (g : Int) * (t / (g : Int)) = t := dvd_mul (by
    rcases ht with q | q
    · exact ⟨x, q⟩
    · exact ⟨-x, by rw [q, Int.mul_neg]⟩)
  refine ⟨⟨by rw [h2]; omega, ?_⟩, ?_⟩
  · rw [h2, h1]
    have q : ((t / (g : Int)) * (if b < 0 then -1 else 1)).natAbs = x := by
      split <;> rcases h3 with z | z <;> rw [z] <;> omega
    rw [q]
    exact hc
  · rw [h2, h1]
    by_cases c : b < 0
    · rw [if_pos c]
      have q : b = -((g : Int) * y) := by omega
      grind
    · rw [if_neg c]
      have q : b = (g : Int) * y := by omega
      grind
theorem low_pos (t b : Int) (hb : b ≠ 0) : 0 < (low t b).2 := (low_facts t b hb).1.pos
/-- two fractions in lowest terms that are alike across are one -/
theorem isLow_uniq {x y u v : Int} (h : IsLow x y) (k : IsLow u v) (e : x * v = u * y) : x = u ∧ y = v := by
  have h1 := h.pos
  have k1 := k.pos
  have e1 : x.natAbs * v.natAbs = u.natAbs * y.natAbs := by rw [← Int.natAbs_mul, ← Int.natAbs_mul, e]
  have d1 : y.natAbs ∣ v.natAbs := (Nat.Coprime.symm h.cop).dvd_of_dvd_mul_left (by rw [e1]; exact Nat.dvd_mul_left _ _)
  have d2 : v.natAbs ∣ y.natAbs := (Nat.Coprime.symm k.cop).dvd_of_dvd_mul_left (by rw [← e1]; exact Nat.dvd_mul_left _ _)
  have e2 : y.natAbs = v.natAbs := Nat.dvd_antisymm d1 d2
  have e3 : y = v := by omega
  subst e3
  exact ⟨Int.eq_of_mul_eq_mul_right (by omega) e, rfl⟩
theorem low_eq {t b x y : Int} (hb : b ≠ 0) (h : IsLow x y) (e : t * y = x * b) : low t b = (x, y) := by
  obtain ⟨h1, h2⟩ := low_facts t b hb
  have q : (low t b).1 * y = x * (low t b).2 := by
    have z : b * ((low t b).1 * y) = b * (x * (low t b).2) := by grind
    exact Int.eq_of_mul_eq_mul_left hb z
  obtain ⟨a1, a2⟩ := isLow_uniq h1 h q
  exact Prod.ext a1 a2
theorem low_id {t b : Int} (h : IsLow t b) : low t b = (t, b) := low_eq (by have := h.pos; omega) h rfl
theorem low_le (t b : Int) : (low t b).1.natAbs ≤ t.natAbs ∧ (low t b).2.natAbs ≤ b.natAbs := by
  generalize e : Nat.gcd t.natAbs b.natAbs = g
  have h1 : (low t b).1 = (t / (g : Int)) * (if b < 0 then -1 else 1) := by
    show t / (Nat.gcd t.natAbs b.natAbs : Nat) * (if b < 0 then -1 else 1) = _
    rw [e]
  have h2 : (low t b).2 = (b.natAbs : Int) / (g : Int) := by
    show (b.natAbs : Int) / (Nat.gcd t.natAbs b.natAbs : Nat) = _
    rw [e]
  have d1 : (g : Int) ∣ t := e ▸ Int.ofNat_dvd_left.mpr (Nat.gcd_dvd_left _ _)
  constructor
  · rw [h1]
    have q : (t / (g : Int) * (if b < 0 then -1 else 1)).natAbs = (t / (g : Int)).natAbs := by
      split <;> omega
    rw [q]
    obtain ⟨z, rfl⟩ := d1
    by_cases c : (g : Int) = 0
    · rw [c, Int.zero_mul, Int.zero_ediv]
      omega
    · rw [Int.mul_ediv_cancel_left _ c, Int.natAbs_mul]
      exact Nat.le_mul_of_pos_left _ (by omega)
  · rw [h2, ← Int.natCast_ediv, Int.natAbs_natCast]
    exact Nat.div_le_self _ _
theorem low_lt {t b : Int} {n : Nat} (h1 : t.natAbs < 2 ^ n) (h2 : b.natAbs < 2 ^ n) : (low t b).1.natAbs < 2 ^ n ∧ (low t b).2.natAbs < 2 ^ n :=
  ⟨Nat.lt_of_le_of_lt (low_le t b).1 h1, Nat.lt_of_le_of_lt (low_le t b).2 h2⟩
/-- a fraction in lowest terms, of fewer than sixty figures -/
structure FrAt (H : Hp) (x : Addr) (a b : Int) : Prop where
  at_ : H x = some (.tup [.int a, .int b])
  low : IsLow a b
  ta : a.natAbs < 2 ^ 200
  tb : b.natAbs < 2 ^ 200
theorem FrAt.same {H H' : Hp} {x : Addr} {a b : Int} (h : FrAt H x a b) (s : Same H H') : FrAt H' x a b := ⟨s _ _ h.at_, h.low, h.ta, h.tb⟩
theorem FrAt.fr {H H' : Hp} {x p : Addr} {a b : Int} {n : Nat} (h : FrAt H x a b) (B : BoxAt H p n) (f : Fr p H H') : FrAt H' x a b := ⟨f.tup B h.at_, h.low, h.ta, h.tb⟩
/-- a new pair of two numbers' lowest terms -/
def sp_low : Sp := fun vs H Q _ => ∃ t b : Int, vs = [.int t, .int b] ∧ b ≠ 0 ∧ t.natAbs < 2 ^ 2000 ∧ b.natAbs < 2 ^ 2000 ∧ ∀ p H', Same H H' → H p = none → H' p = some (.tup [.int (low t b).1, .int (low t b).2]) → Q (.ref p) H'
/-- two pairs in, low of what f and g say of them out -/
def sp_two (K : PySem.W.Frag) (f g : Int → Int → Int → Int → Int) : Sp := fun vs H Q _ => ∃ (x y : Addr) (a b c d : Int), vs = [.ref x, .ref y] ∧ SqT K H x [.int a, .int b] ∧ SqT K H y [.int c, .int d] ∧ g a b c d ≠ 0 ∧ a.natAbs < 2 ^ 900 ∧ b.natAbs < 2 ^ 900 ∧ c.natAbs < 2 ^ 900 ∧ d.natAbs < 2 ^ 900 ∧
  ∀ p H', Same H H' → H p = none → H' p = some (.tup [.int (low (f a b c d) (g a b c d)).1, .int (low (f a b c d) (g a b c d)).2]) → Q (.ref p) H'
/-- by a divisor turned about -/
theorem fdiv_neg {t g : Int} (h : g ∣ t) : t.fdiv (-g) = t / g * -1 := by
  obtain ⟨z, rfl⟩ := h
  by_cases c : g = 0
  · subst c
    simp
  · rw [Int.mul_ediv_cancel_left _ c, show g * z = (-g) * (-z) by grind, Int.mul_fdiv_cancel_left _ (by omega)]
    omega

/-! data of the law's own making, n deep -/
theorem Same.put {H0 H : Hp} {D : Addr} {o : HO} (s : Same H0 H) (h : H0 D = none) : Same H0 (upd H D o) := fun b u e => by
  rw [upd_ne (ne_of_none e h)]
  exact s b u e
inductive Dt (H : Hp) : Nat → V → PyData → Prop
  | non (n : Nat) : Dt H (n + 1) .non .none
  | bl (n : Nat) (b : Bool) : Dt H (n + 1) (.bl b) (.bool b)
  | int (n : Nat) (i : Int) : Dt H (n + 1) (.int i) (.int i)
  | str (n : Nat) (x : Str) (ok : PyData.canLay0 (.str x) = true) : Dt H (n + 1) (.str x) (.str x)
  | lst {n : Nat} {a : Addr} {xs : List V} {ds : List PyData} : H a = some (.lst xs) → xs.length = ds.length → xs.length ≤ 100000 → (∀ (i : Nat) (x : V) (d : PyData), xs[i]? = some x → ds[i]? = some d → Dt H n x d) → Dt H (n + 1) (.ref a) (.list ds)
  | tup {n : Nat} {a : Addr} {xs : List V} {ds : List PyData} : H a = some (.tup xs) → xs.length = ds.length → xs.length ≤ 100000 → (∀ (i : Nat) (x : V) (d : PyData), xs[i]? = some x → ds[i]? = some d → Dt H n x d) → Dt H (n + 1) (.ref a) (.tuple ds)
theorem Dt.same {H H' : Hp} (s : Same H H') : ∀ {n : Nat} {v : V} {d : PyData}, Dt H n v d → Dt H' n v d := by
  intro n v d h
  induction h with
  | non n => exact .non n
  | bl n b => exact .bl n b
  | int n i => exact .int n i
  | str n x ok => exact .str n x ok
  | lst h1 h2 h3 _ ih => exact .lst (s _ _ h1) h2 h3 ih
  | tup h1 h2 h3 _ ih => exact .tup (s _ _ h1) h2 h3 ih
theorem Dt.up {H : Hp} {n m : Nat} {v : V} {d : PyData} (h : Dt H n v d) : n ≤ m → Dt H m v d := by
  intro le
  induction h generalizing m with
  | non n => obtain ⟨k, rfl⟩ : ∃ k, m = k + 1 := ⟨m - 1, by omega⟩; exact .non k
  | bl n b => obtain ⟨k, rfl⟩ : ∃ k, m = k + 1 := ⟨m - 1, by omega⟩; exact .bl k b
  | int n i => obtain ⟨k, rfl⟩ : ∃ k, m = k + 1 := ⟨m - 1, by omega⟩; exact .int k i
  | str n x ok => obtain ⟨k, rfl⟩ : ∃ k, m = k + 1 := ⟨m - 1, by omega⟩; exact .str k x ok
  | lst h1 h2 h3 _ ih => obtain ⟨k, rfl⟩ : ∃ k, m = k + 1 := ⟨m - 1, by omega⟩; exact .lst h1 h2 h3 fun i x d a b => ih i x d a b (by omega)
  | tup h1 h2 h3 _ ih => obtain ⟨k, rfl⟩ : ∃ k, m = k + 1 := ⟨m - 1, by omega⟩; exact .tup h1 h2 h3 fun i x d a b => ih i x d a b (by omega)
theorem Dt.tup2 {H : Hp} {n : Nat} {a : Addr} {x y : V} {d e : PyData} (h : H a = some (.tup [x, y])) (h1 : Dt H n x d) (h2 : Dt H n y e) : Dt H (n + 1) (.ref a) (.tuple [d, e]) :=
  .tup h rfl (by show 2 ≤ 100000; decide) fun i u v hu hv => match i, hu, hv with
    | 0, hu, hv => by cases hu; cases hv; exact h1
    | 1, hu, hv => by cases hu; cases hv; exact h2
    | i + 2, hu, _ => by simp at hu
theorem Dt.pair {H : Hp} {a : Addr} {t b : Int} (h : H a = some (.tup [.int t, .int b])) : Dt H 2 (.ref a) (.tuple [.int t, .int b]) := .tup2 h (.int 0 t) (.int 0 b)
theorem Dt.lst2 {H : Hp} {n : Nat} {a : Addr} {x y : V} {d e : PyData} (h : H a = some (.lst [x, y])) (h1 : Dt H n x d) (h2 : Dt H n y e) : Dt H (n + 1) (.ref a) (.list [d, e]) :=
  .lst h rfl (by show 2 ≤ 100000; decide) fun i u v hu hv => match i, hu, hv with
    | 0, hu, hv => by cases hu; cases hv; exact h1
    | 1, hu, hv => by cases hu; cases hv; exact h2
    | i + 2, hu, _ => by simp at hu
theorem Dt.lst3 {H : Hp} {n : Nat} {a : Addr} {x y z : V} {d e f : PyData} (h : H a = some (.lst [x, y, z])) (h1 : Dt H n x d) (h2 : Dt H n y e) (h3 : Dt H n z f) : Dt H (n + 1) (.ref a) (.list [d, e, f]) :=
  .lst h rfl (by show 3 ≤ 100000; decide) fun i u v hu hv => match i, hu, hv with
    | 0, hu, hv => by cases hu; cases hv; exact h1
    | 1, hu, hv => by cases hu; cases hv; exact h2
    | 2, hu, hv => by cases hu; cases hv; exact h3
    | i + 3, hu, _ => by simp at hu
/-- a comprehension over pairs: J hands out a new tuple of px i and py i at each of n turns, while St stands -/
theorem lc_pair {J : It} {n : Nat} {St : Hp → Prop} {px py : Nat → V} (hgo : ∀ i H, i < n → St H → J.go i H) (hst : ∀ H, St H → J.stop n H)
    (hy : ∀ i H v H', i < n → St H → J.yld i H v H' → ∃ T, v = .ref T ∧ H T = none ∧ H' = upd H T (.tup [px i, py i]))
    {g : TG} {tt : TT} {te : TE} {vs : List Nat} {σ : L2.St} {H1 : Hp} {D : Addr} {Qd : Hp → Prop} (Pv : Nat → Hp → Prop) (h0 : Pv 0 (upd H1 D (.lst []))) (hq : ∀ i H, i ≤ n → Pv i H → St H)
    (hs : ∀ i T H, i < n → Pv i H → H T = none → g (.ref T) (wipe σ vs) (upd H T (.tup [px i, py i])) fun σ2 H2 => wipe σ2 vs = wipe σ vs ∧ tt σ2 H2 fun b H3 =>
      if b = true then te σ2 H3 fun y H4 => ∃ acc, H4 D = some (.lst acc) ∧ acc.length < sizeLine ∧ Pv (i + 1) (upd H4 D (.lst (acc ++ [y]))) else Pv (i + 1) H3) (hd : ∀ H, Pv n H → Qd H) :
    ∃ W : Nat → Nat → Hp → Prop, (∃ m, W 0 m (upd H1 D (.lst []))) ∧ ∀ i m H, W i m H →
      (J.stop i H ∧ Qd H) ∨ (J.go i H ∧ ∃ Nx : Hp → Prop, (∀ H', Nx H' → ∃ m', m' < m ∧ W (i + 1) m' H') ∧ ∀ x H', J.yld i H x H' → g x (wipe σ vs) H' fun σ2 H2 => wipe σ2 vs = wipe σ vs ∧ tt σ2 H2 fun b H3 =>
        if b = true then te σ2 H3 fun y H4 => ∃ acc, H4 D = some (.lst acc) ∧ acc.length < sizeLine ∧ Nx (upd H4 D (.lst (acc ++ [y]))) else Nx H3) := by
  refine ⟨fun i m H => i + m = n ∧ Pv i H, ⟨n, by omega, h0⟩, fun i m H w => ?_⟩
  obtain ⟨e, p⟩ := w
  have q := hq i H (by omega) p
  rcases Nat.lt_or_ge i n with lt | ge
  · refine Or.inr ⟨hgo i H lt q, Pv (i + 1), fun H' p' => ⟨m - 1, by omega, by omega, p'⟩, fun x H' y => ?_⟩
    obtain ⟨T, rfl, nT, rfl⟩ := hy i H x H' lt q y
    exact hs i T H lt p nT
  · obtain rfl : i = n := by omega
    exact Or.inl ⟨hst H q, hd H p⟩
theorem zipL_go {K : PySem.W.Frag} {a b : Addr} {xs ys : List V} {n : Nat} (h1 : xs.length = n) (h2 : ys.length = n) {i : Nat} {H : Hp} (lt : i < n) (q : SqL K H a xs ∧ SqL K H b ys) : (Itz K a b).go i H :=
  ⟨xs, ys, _, _, q.1, q.2, List.getElem?_eq_getElem (by omega), List.getElem?_eq_getElem (by omega)⟩
theorem zipL_stop {K : PySem.W.Frag} {a b : Addr} {xs ys : List V} {n : Nat} (h1 : xs.length = n) {H : Hp} (q : SqL K H a xs ∧ SqL K H b ys) : (Itz K a b).stop n H := ⟨xs, ys, q.1, q.2, .inl (by omega)⟩
theorem zipL_yld {K : PySem.W.Frag} {a b : Addr} {xs ys : List V} {n : Nat} (h1 : xs.length = n) (h2 : ys.length = n) {i : Nat} {H H' : Hp} {v : V} (lt : i < n) (q : SqL K H a xs ∧ SqL K H b ys) (y : (Itz K a b).yld i H v H') :
    ∃ T, v = .ref T ∧ H T = none ∧ H' = upd H T (.tup [xs.getD i .non, ys.getD i .non]) := by
  obtain ⟨T, x, y, rfl, nT, rfl, f1, f2⟩ := y
  refine ⟨T, rfl, nT, ?_⟩
  rw [List.getD_eq_getElem?_getD, List.getD_eq_getElem?_getD, f1 _ q.1, f2 _ q.2] <;> rfl
theorem zipT_go {K : PySem.W.Frag} {a b : Addr} {xs ys : List V} {n : Nat} (h1 : xs.length = n) (h2 : ys.length = n) {i : Nat} {H : Hp} (lt : i < n) (q : SqT K H a xs ∧ SqT K H b ys) : (RZ.ItzT K a b).go i H :=
  ⟨xs, ys, _, _, q.1, q.2, List.getElem?_eq_getElem (by omega), List.getElem?_eq_getElem (by omega)⟩
theorem zipT_stop {K : PySem.W.Frag} {a b : Addr} {xs ys : List V} {n : Nat} (h1 : xs.length = n) {H : Hp} (q : SqT K H a xs ∧ SqT K H b ys) : (RZ.ItzT K a b).stop n H := ⟨xs, ys, q.1, q.2, .inl (by omega)⟩
theorem zipT_yld {K : PySem.W.Frag} {a b : Addr} {xs ys : List V} {n : Nat} (h1 : xs.length = n) (h2 : ys.length = n) {i : Nat} {H H' : Hp} {v : V} (lt : i < n) (q : SqT K H a xs ∧ SqT K H b ys) (y : (RZ.ItzT K a b).yld i H v H') :
    ∃ T, v = .ref T ∧ H T = none ∧ H' = upd H T (.tup [xs.getD i .non, ys.getD i .non]) := by
  obtain ⟨T, x, y, rfl, nT, rfl, f1, f2⟩ := y
  refine ⟨T, rfl, nT, ?_⟩
  rw [List.getD_eq_getElem?_getD, List.getD_eq_getElem?_getD, f1 _ q.1, f2 _ q.2] <;> rfl
theorem getD_of {xs : List V} {i : Nat} (h : i < xs.length) : xs[i]? = some (xs.getD i .non) := by
  rw [List.getD_eq_getElem?_getD, List.getElem?_eq_getElem h] <;> rfl
theorem yesT {σ : L2.St} {H : Hp} {A B : Hp → Prop} (h : A H) : tYes σ H fun b H3 => if b = true then A H3 else B H3 := iteT (A := A H) (B := B H) h
/-- True so often -/
theorem all_true (n : Nat) : (List.replicate n true).map V.bl = List.replicate n (V.bl true) ∧ (List.replicate n true).all id = true := by
  refine ⟨List.map_replicate, ?_⟩
  induction n with
  | zero => rfl
  | succ n ih => rw [List.replicate_succ, List.all_cons, ih] <;> rfl

/-- a def of the text, where it stands and how it is called -/
structure Def (K : PySem.W.Frag) (mg : Str → Option Value) (name : Str) (st : Stmt) (f : Addr) (fd : FuncData) (ps : List Str) : Prop where
  fn : Fun K name name st f fd
  mg : mg name = some (.ref f)
  b : Binds K fd ps []
end KR
namespace KR
open PySem PySem.Spec PyProof.Rows L2
def top (i : Nat) : Stmt := PySem.Challenge.pw_kettlerow_k02_fractions_reckoned.main.body.getD i (.Pass ⟨0, 0, 0, 0⟩)
abbrev s_p_frac_of : Stmt := top 2
theorem sc_p_frac_of : FnScope ["top", "bottom", "common"] ["top", "bottom"] (defScope s_p_frac_of) := ⟨rfl, rfl, rfl, by decide +kernel, rfl, by decide +kernel, by decide +kernel⟩
abbrev s_p_sum_of : Stmt := top 3
theorem sc_p_sum_of : FnScope ["one", "other"] ["one", "other"] (defScope s_p_sum_of) := ⟨rfl, rfl, rfl, by decide +kernel, rfl, by decide +kernel, by decide +kernel⟩
abbrev s_p_difference : Stmt := top 4
theorem sc_p_difference : FnScope ["one", "other"] ["one", "other"] (defScope s_p_difference) := ⟨rfl, rfl, rfl, by decide +kernel, rfl, by decide +kernel, by decide +kernel⟩
abbrev s_p_product : Stmt := top 5
theorem sc_p_product : FnScope ["one", "other"] ["one", "other"] (defScope s_p_product) := ⟨rfl, rfl, rfl, by decide +kernel, rfl, by decide +kernel, by decide +kernel⟩
abbrev s_p_quotient : Stmt := top 6
theorem sc_p_quotient : FnScope ["one", "other"] ["one", "other"] (defScope s_p_quotient) := ⟨rfl, rfl, rfl, by decide +kernel, rfl, by decide +kernel, by decide +kernel⟩
abbrev s_l_cell_at : Stmt := top 8
theorem sc_l_cell_at : FnScope ["_law_script", "_law_k"] ["_law_script", "_law_k"] (defScope s_l_cell_at) := ⟨rfl, rfl, rfl, by decide +kernel, rfl, by decide +kernel, by decide +kernel⟩
abbrev s_l_box : Stmt := top 9
theorem sc_l_box : FnScope ["_law_script", "_law_k", "_law_cell"] ["_law_script", "_law_k"] (defScope s_l_box) := ⟨rfl, rfl, rfl, by decide +kernel, rfl, by decide +kernel, by decide +kernel⟩
abbrev s_l_take : Stmt := top 10
theorem sc_l_take : FnScope ["_law_box_here", "_law_many", "_law_found", "_law_once", "_law_twice"] ["_law_box_here", "_law_many"] (defScope s_l_take) := ⟨rfl, rfl, rfl, by decide +kernel, rfl, by decide +kernel, by decide +kernel⟩
abbrev s_l_low : Stmt := top 11
theorem sc_l_low : FnScope ["_law_top", "_law_bottom", "_law_one", "_law_other"] ["_law_top", "_law_bottom"] (defScope s_l_low) := ⟨rfl, rfl, rfl, by decide +kernel, rfl, by decide +kernel, by decide +kernel⟩
abbrev s_l_frac : Stmt := top 12
theorem sc_l_frac : FnScope ["_law_box_here", "_law_below", "_law_way", "_law_sign", "_law_most"] ["_law_box_here", "_law_below"] (defScope s_l_frac) := ⟨rfl, rfl, rfl, by decide +kernel, rfl, by decide +kernel, by decide +kernel⟩
abbrev s_l_same : Stmt := top 13
theorem sc_l_same : FnScope ["_law_found", "_law_due", "_law_one", "_law_other"] ["_law_found", "_law_due"] (defScope s_l_same) := ⟨rfl, rfl, rfl, by decide +kernel, rfl, by decide +kernel, by decide +kernel⟩
abbrev s_l_two : Stmt := top 14
theorem sc_l_two : FnScope ["_law_box_here", "_law_one", "_law_way", "_law_other"] ["_law_box_here"] (defScope s_l_two) := ⟨rfl, rfl, rfl, by decide +kernel, rfl, by decide +kernel, by decide +kernel⟩
abbrev s_l_right : Stmt := top 15
theorem sc_l_right : FnScope ["_law_box_here", "_law_turn", "_law_a", "_law_b", "_law_c", "_law_d", "_law_one", "_law_other", "_law_due", "_law_found", "_law_by"] ["_law_box_here"] (defScope s_l_right) := ⟨rfl, rfl, rfl, by decide +kernel, rfl, by decide +kernel, by decide +kernel⟩
abbrev s_p_law : Stmt := top 16
theorem sc_p_law : FnScope ["_law_script", "_law_k"] ["_law_script"] (defScope s_p_law) := ⟨rfl, rfl, rfl, by decide +kernel, rfl, by decide +kernel, by decide +kernel⟩
structure All (K : PySem.W.Frag) (mg : Str → Option Value) where
  f_p_frac_of : Addr
  fd_p_frac_of : FuncData
  d_p_frac_of : Def K mg "frac_of" s_p_frac_of f_p_frac_of fd_p_frac_of ["top", "bottom"]
  f_p_sum_of : Addr
  fd_p_sum_of : FuncData
  d_p_sum_of : Def K mg "sum_of" s_p_sum_of f_p_sum_of fd_p_sum_of ["one", "other"]
  f_p_difference : Addr
  fd_p_difference : FuncData
  d_p_difference : Def K mg "difference" s_p_difference f_p_difference fd_p_difference ["one", "other"]
  f_p_product : Addr
  fd_p_product : FuncData
  d_p_product : Def K mg "product" s_p_product f_p_product fd_p_product ["one", "other"]
  f_p_quotient : Addr
  fd_p_quotient : FuncData
  d_p_quotient : Def K mg "quotient" s_p_quotient f_p_quotient fd_p_quotient ["one", "other"]
  f_l_cell_at : Addr
  fd_l_cell_at : FuncData
  d_l_cell_at : Def K mg "_law_cell_at" s_l_cell_at f_l_cell_at fd_l_cell_at ["_law_script", "_law_k"]
  f_l_box : Addr
  fd_l_box : FuncData
  d_l_box : Def K mg "_law_box" s_l_box f_l_box fd_l_box ["_law_script", "_law_k"]
  f_l_take : Addr
  fd_l_take : FuncData
  d_l_take : Def K mg "_law_take" s_l_take f_l_take fd_l_take ["_law_box_here", "_law_many"]
  f_l_low : Addr
  fd_l_low : FuncData
  d_l_low : Def K mg "_law_low" s_l_low f_l_low fd_l_low ["_law_top", "_law_bottom"]
  f_l_frac : Addr
  fd_l_frac : FuncData
  d_l_frac : Def K mg "_law_frac" s_l_frac f_l_frac fd_l_frac ["_law_box_here", "_law_below"]
  f_l_same : Addr
  fd_l_same : FuncData
  d_l_same : Def K mg "_law_same" s_l_same f_l_same fd_l_same ["_law_found", "_law_due"]
  f_l_two : Addr
  fd_l_two : FuncData
  d_l_two : Def K mg "_law_two" s_l_two f_l_two fd_l_two ["_law_box_here"]
  f_l_right : Addr
  fd_l_right : FuncData
  d_l_right : Def K mg "_law_right" s_l_right f_l_right fd_l_right ["_law_box_here"]
  f_p_law : Addr
  fd_p_law : FuncData
  d_p_law : Def K mg "law" s_p_law f_p_law fd_p_law ["_law_script"]
  b_abs : mg "abs" = none
  b_all : mg "all" = none
  b_bool : mg "bool" = none
  b_int : mg "int" = none
  b_isinstance : mg "isinstance" = none
  b_len : mg "len" = none
  b_list : mg "list" = none
  b_min : mg "min" = none
  b_range : mg "range" = none
  b_tuple : mg "tuple" = none
  b_zip : mg "zip" = none
  m_gcd : mg "gcd" = some (.builtin "math.gcd")
end KR
namespace KR
open PySem PySem.Spec PyProof.Rows L2
section
variable {P : Program} {w : World} {K : PySem.W.Frag} {mg : Str → Option Value} {base : Heap}
def sp_l_cell_at (K : PySem.W.Frag) : Sp := fun vs H Q _ => ∃ (a : Addr) (ns : List Int) (k : Int), vs = [.ref a, .int k] ∧ SqL K H a (ns.map V.int) ∧ 0 ≤ k ∧ ∀ z : Int, Q (.int z) H
theorem ok_l_cell_at (T : All K mg) : FnOk P w K mg base CX0 1 T.f_l_cell_at T.fd_l_cell_at ["_law_script", "_law_k"] (sp_l_cell_at K) := by
  refine T.d_l_cell_at.fn.ok sc_l_cell_at (fun vs H Q E h => ?_) (fun cdv A outer s H vs Q E hr h => ?_)
  · obtain ⟨a, ns, k, rfl, _⟩ := h
    rfl
  · obtain ⟨a, ns, k, rfl, hS, h0, q⟩ := h
    refine ⟨_, (pss_cons (ps_if (pt_cmpR op_lt (pv 1) (pe_callB call_len_seq (by rfl) T.b_len PySem.boot_len (pa_cons (pv 0) pa_nil)) (nomark _)) (pss_one (ps_ret (pe_ix ix_list (pv 0) (pv 1) (fun _ _ => rfl)))) pss_nil)
      (pss_one (ps_ret pe_int))), ?_⟩
    refine ⟨_, rfl, _, rfl, a, _, rfl, .inl hS, _, _, rfl, rfl, _, rfl, ite2 (fun c => ?_) (fun c => ?_)⟩
    · have c1 : k < ((ns.map V.int).length : Int) := of_decide_eq_true c
      rw [List.length_map] at c1
      refine ⟨_, rfl, _, rfl, a, _, k, _, rfl, rfl, hS, at_of (j := k.toNat) (by omega) (by rw [List.getElem?_map, List.getElem?_eq_getElem (show k.toNat < ns.length by omega)]; rfl), ?_⟩
      exact q _
    · exact q _

end
end KR
namespace KR
open PySem PySem.Spec PyProof.Rows L2
section
variable {P : Program} {w : World} {K : PySem.W.Frag} {mg : Str → Option Value} {base : Heap}
def sp_l_box (K : PySem.W.Frag) : Sp := fun vs H Q _ => ∃ (a : Addr) (ns : List Int) (k : Int), vs = [.ref a, .int k] ∧ SqL K H a (ns.map V.int) ∧ 0 ≤ k ∧ k ≤ 63 ∧ ∀ p H', Same H H' → H p = none → BoxAt H' p 0 → Q (.ref p) H'
theorem ok_l_box (T : All K mg) : FnOk P w K mg base CX0 2 T.f_l_box T.fd_l_box ["_law_script", "_law_k"] (sp_l_box K) := by
  refine T.d_l_box.fn.ok sc_l_box (fun vs H Q E h => ?_) (fun cdv A outer s H vs Q E hr h => ?_)
  · obtain ⟨a, ns, k, rfl, _⟩ := h
    rfl
  · obtain ⟨a, ns, k, rfl, hS, h0, h1, q⟩ := h
    refine ⟨_, (pss_cons (ps_set (i := 2) sc_l_box.nd rfl (by first | exact Or.inl rfl | exact Or.inr rfl) (pe_call (ok_l_cell_at T) hr (by rfl) T.d_l_cell_at.mg T.d_l_cell_at.fn.kp T.d_l_cell_at.b .nil pass0 (pa_cons (pv 0) (pa_cons (pv 1) pa_nil))))
      (pss_one (ps_ret (pe_lstI (pa_cons (pe_op op_mulX (pe_callB call_abs (by rfl) T.b_abs (by decide +kernel) (pa_cons (pv 2) pa_nil)) (pe_callTy call_int1 (by rfl) T.b_int (by decide +kernel) (pa_cons (pe_cmpR op_ge (pe_callB call_abs (by rfl) T.b_abs (by decide +kernel) (pa_cons (pv 2) pa_nil)) (pe_op op_pow pe_int pe_int) (nomark _)) pa_nil))) (pa_cons (pe_op op_add (pe_op op_add (pe_op op_mod (pv 2) pe_int) (pe_op op_mulX pe_int (pv 1))) pe_int) (pa_cons pe_int pa_nil))))))), ?_⟩
    refine ⟨_, rfl, _, rfl, a, ns, k, rfl, hS, h0, fun z => ?_⟩
    refine ⟨_, rfl, _, rfl, _, rfl, _, rfl, _, _, rfl, rfl, ⟨by decide, by decide, by decide⟩, _, _, rfl, rfl, .inr ⟨_, rfl, ?_⟩⟩
    refine ⟨_, _, rfl, rfl, mulR bit_lt, ?_⟩
    refine ⟨_, rfl, _, _, rfl, rfl, (by show (0 : Int) < 2305843009213693951; decide), _, rfl, _, _, rfl, rfl, mulL (by decide), _, _, rfl, rfl, _, _, rfl, rfl, rfl, fun p H1 s1 hp h1 => ?_⟩
    refine q p _ s1 hp ⟨_, _, _, h1, ?_, ?_, ?_, by decide, by decide⟩
    · refine Int.mul_nonneg (by split <;> omega) bit_nn
    · omega
    · omega

end
end KR
namespace KR
open PySem PySem.Spec PyProof.Rows L2
section
variable {P : Program} {w : World} {K : PySem.W.Frag} {mg : Str → Option Value} {base : Heap}
def sp_l_take : Sp := fun vs H Q _ => ∃ (p : Addr) (m : Int) (n : Nat), vs = [.ref p, .int m] ∧ BoxAt H p n ∧ n ≤ 1000000000 ∧ 0 < m ∧ m.natAbs < 2 ^ 200 ∧ ∀ (z : Int) (H' : Hp), 0 ≤ z → z < m → BoxAt H' p (n + 1) → Fr p H H' → Q (.int z) H'
theorem ok_l_take (T : All K mg) : FnOk P w K mg base CX0 1 T.f_l_take T.fd_l_take ["_law_box_here", "_law_many"] sp_l_take := by
  refine T.d_l_take.fn.ok sc_l_take (fun vs H Q E h => ?_) (fun cdv A outer s H vs Q E hr h => ?_)
  · obtain ⟨p, m, n, rfl, _⟩ := h
    rfl
  · obtain ⟨p, m, n, rfl, hB, hn, h0, hm, q⟩ := h
    obtain ⟨a, b, c, hp, ha, hb, hb2, hc, hcn⟩ := hB
    refine ⟨_, (pss_cons (ps_if (pt_cmpR op_gt (pe_ix ix_list (pv 0) pe_int (fun _ _ => rfl)) pe_int (nomark _)) (pss_cons (ps_set (i := 2) sc_l_take.nd rfl (by first | exact Or.inl rfl | exact Or.inr rfl) (pe_op op_mod (pe_ix ix_list (pv 0) pe_int (fun _ _ => rfl)) (pv 1)))
      (pss_cons (ps_asg (pe_op op_fdivW (pe_ix ix_list (pv 0) pe_int (fun _ _ => rfl)) (pv 1)) (pg_sub (pv 0) pe_int set_list))
      (pss_one (ps_ret (pv 2))))) pss_nil)
      (pss_cons (ps_asg (pe_op op_add (pe_ix ix_list (pv 0) pe_int (fun _ _ => rfl)) pe_int) (pg_sub (pv 0) pe_int set_list))
      (pss_cons (ps_set (i := 3) sc_l_take.nd rfl (by first | exact Or.inl rfl | exact Or.inr rfl) (pe_op op_mod (pe_op op_mulX (pe_op op_add (pe_ix ix_list (pv 0) pe_int (fun _ _ => rfl)) (pe_op op_mulX pe_int (pe_ix ix_list (pv 0) pe_int (fun _ _ => rfl)))) (pe_op op_add pe_int (pe_ix ix_list (pv 0) pe_int (fun _ _ => rfl)))) pe_int))
      (pss_cons (ps_set (i := 4) sc_l_take.nd rfl (by first | exact Or.inl rfl | exact Or.inr rfl) (pe_op op_mod (pe_op op_mulX (pe_op op_add (pv 3) (pe_ix ix_list (pv 0) pe_int (fun _ _ => rfl))) (pe_op op_add (pe_op op_mod (pv 3) pe_int) pe_int)) pe_int))
      (pss_one (ps_ret (pe_op op_mod (pe_op op_fdivW (pe_op op_mod (pe_op op_add (pe_op op_mulX (pv 4) pe_int) (pv 3)) pe_int) pe_int) (pv 1)))))))), ?_⟩
    refine ⟨_, rfl, p, _, 0, _, rfl, rfl, SqL.of hp, at0, _, _, rfl, rfl, _, rfl, ite2 (fun c1 => ?_) (fun c1 => ?_)⟩
    · refine ⟨_, rfl, p, _, 0, _, rfl, rfl, SqL.of hp, at0, _, rfl, _, _, rfl, rfl, h0, ?_⟩
      refine ⟨_, rfl, p, _, 0, _, rfl, rfl, SqL.of hp, at0, _, rfl, _, _, rfl, rfl, wide_div h0 hm (by decide) (by decide), ?_⟩
      refine ⟨_, rfl, p, _, 0, 0, rfl, rfl, hp, rfl, ?_⟩
      refine ⟨_, rfl, ?_⟩
      refine q _ _ (Int.emod_nonneg _ (by omega)) (Int.emod_lt_of_pos _ h0) ⟨_, _, _, upd_same, ?_, hb, hb2, hc, by omega⟩ (Fr.put Fr.refl)
      exact Int.ediv_nonneg ha (by omega)
    · refine ⟨_, rfl, p, _, 2, _, rfl, rfl, SqL.of hp, at2, _, _, rfl, rfl, _, rfl, p, _, 2, 2, rfl, rfl, hp, rfl, ?_⟩
      have hp2 : (upd H p (.lst [.int a, .int b, .int (c + 1)])) p = some (.lst [.int a, .int b, .int (c + 1)]) := upd_same
      refine ⟨_, rfl, p, _, 1, _, rfl, rfl, SqL.of hp2, at1, _, rfl, p, _, 2, _, rfl, rfl, SqL.of hp2, at2, _, _, rfl, rfl, mulL (by decide), _, _, rfl, rfl, ?_⟩
      refine ⟨_, rfl, p, _, 2, _, rfl, rfl, SqL.of hp2, at2, _, _, rfl, rfl, _, _, rfl, rfl, mulL (by omega), _, _, rfl, rfl, (by show (0 : Int) < 2147483647; decide), ?_⟩
      generalize e1 : (b + 48271 * (c + 1)) * (39373 + (c + 1)) % 2147483647 = o
      have o1 : 0 ≤ o ∧ o < 2147483647 := by omega
      refine ⟨_, rfl, _, rfl, p, _, 2, _, rfl, rfl, SqL.of hp2, at2, _, _, rfl, rfl, _, rfl, _, _, rfl, rfl, (by show (0 : Int) < 40009; decide), _, _, rfl, rfl, _, _, rfl, rfl, mulL (by omega), _, _, rfl, rfl, (by show (0 : Int) < 2147483629; decide), ?_⟩
      generalize e2 : (o + (c + 1)) * (o % 40009 + 7) % 2147483629 = t
      have t1 : 0 ≤ t ∧ t < 2147483629 := by omega
      refine ⟨_, rfl, _, _, rfl, rfl, mulL (by omega), _, rfl, _, _, rfl, rfl, _, _, rfl, rfl, (by show (0 : Int) < 2147483587; decide), _, _, rfl, rfl, wide_div (b := 10) (by decide) (by decide) (by decide) (by decide), _, rfl, _, _, rfl, rfl, h0, ?_⟩
      exact q _ _ (Int.emod_nonneg _ (by omega)) (Int.emod_lt_of_pos _ h0) ⟨_, _, _, upd_same, ha, hb, hb2, by omega, by omega⟩ (Fr.put Fr.refl)

end
end KR
namespace KR
open PySem PySem.Spec PyProof.Rows L2
section
variable {P : Program} {w : World} {K : PySem.W.Frag} {mg : Str → Option Value} {base : Heap}
theorem ok_l_low (T : All K mg) : FnOk P w K mg base CX0 1 T.f_l_low T.fd_l_low ["_law_top", "_law_bottom"] sp_low := by
  refine T.d_l_low.fn.ok sc_l_low (fun vs H Q E h => ?_) (fun cdv A outer s H vs Q E hr h => ?_)
  · obtain ⟨t, b, rfl, _⟩ := h
    rfl
  · obtain ⟨t, b, rfl, hb, ht, hb2, q⟩ := h
    refine ⟨_, (pss_cons (ps_par (i := 2) (j := 3) (by rfl) sc_l_low.nd rfl rfl (by decide) rfl rfl (pa_cons (pe_callB call_abs (by rfl) T.b_abs (by decide +kernel) (pa_cons (pv 0) pa_nil)) (pa_cons (pe_callB call_abs (by rfl) T.b_abs (by decide +kernel) (pa_cons (pv 1) pa_nil)) pa_nil)) (by rfl))
      (pss_cons (ps_while PassesOwn.never (pt_cmpR op_gt (pv 3) pe_int (nomark _)) (pss_one (ps_par (i := 2) (j := 3) (by rfl) sc_l_low.nd rfl rfl (by decide) rfl rfl (pa_cons (pv 3) (pa_cons (pe_op op_mod (pv 2) (pv 3)) pa_nil)) (by rfl))))
      (pss_one (ps_ret (pe_tupI (pa_cons (pe_op op_mulX (pe_op op_fdivW (pv 0) (pv 2)) (pe_op op_sub pe_int (pe_op op_mulX pe_int (pe_callTy call_int1 (by rfl) T.b_int (by decide +kernel) (pa_cons (pe_cmpR op_lt (pv 1) pe_int (nomark _)) pa_nil))))) (pa_cons (pe_op op_fdivW (pe_callB call_abs (by rfl) T.b_abs (by decide +kernel) (pa_cons (pv 1) pa_nil)) (pv 2)) pa_nil))))))), ?_⟩
    have abs_ : ∀ z : Int, (if z < 0 then -z else z) = (z.natAbs : Int) := fun z => by split <;> omega
    refine ⟨_, rfl, _, rfl, _, rfl, _, rfl, _, _, rfl, ?_⟩
    rw [abs_, abs_]
    refine ⟨fun m σ H' => ∃ x y : Nat, σ = [some (.int t), some (.int b), some (.int x), some (.int y)] ∧ H' = H ∧ Nat.gcd x y = Nat.gcd t.natAbs b.natAbs ∧ m = y, ⟨_, _, _, rfl, rfl, rfl, rfl⟩, ?_⟩
    rintro m σ H' ⟨x, y, rfl, rfl, hg, rfl⟩
    refine ⟨_, rfl, _, _, rfl, rfl, _, rfl, ite2 (fun c => ?_) (fun c => ?_)⟩
    · have c1 : (0 : Int) < m := of_decide_eq_true c
      refine ⟨fun σ' H1 => ∃ x' y' : Nat, σ' = [some (.int t), some (.int b), some (.int x'), some (.int y')] ∧ H1 = H' ∧ Nat.gcd x' y' = Nat.gcd t.natAbs b.natAbs ∧ y' < m, fun σ' H1 ⟨x', y', e1, e2, e3, e4⟩ => ⟨y', e4, x', y', e1, e2, e3, rfl⟩, ?_⟩
      refine ⟨_, rfl, _, rfl, _, rfl, _, _, rfl, rfl, c1, _, _, rfl, ?_⟩
      refine ⟨m, x % m, by rw [Int.natCast_emod]; rfl, rfl, ?_, Nat.mod_lt _ (by omega)⟩
      rw [← hg, Nat.gcd_comm x m, Nat.gcd_rec m x, Nat.gcd_comm]
    · have c1 : ¬ (0 : Int) < m := of_decide_eq_false (Bool.eq_false_iff.mpr c)
      have m0 : m = 0 := by omega
      subst m0
      rw [Nat.gcd_zero_right] at hg
      have x0 : 0 < x := by
        rw [hg]
        exact Nat.gcd_pos_of_pos_right _ (by omega)
      have x1 : (x : Int).natAbs < 2 ^ 2000 := by
        rw [Int.natAbs_natCast, hg]
        exact Nat.lt_of_le_of_lt (Nat.le_of_dvd (by omega) (Nat.gcd_dvd_right _ _)) hb2
      refine ⟨_, rfl, _, rfl, _, _, rfl, rfl, wide_div (b := 2000) (by omega) x1 (by decide) (by decide), _, rfl, _, _, rfl, rfl, .inr ⟨_, rfl, ?_⟩⟩
      refine ⟨_, _, rfl, rfl, mulL (by decide), _, _, rfl, rfl, _, _, rfl, rfl, mulR (by rcases bit_or (c := decide (b < 0) = true) with z | z <;> rw [z] <;> decide), ?_⟩
      refine ⟨_, rfl, _, rfl, _, rfl, _, _, rfl, rfl, wide_div (b := 2000) (by omega) x1 (by decide) (by decide), rfl, fun p H1 s1 hp h1 => ?_⟩
      have e1 : t / (x : Int) * (1 - 2 * (if decide (b < 0) = true then 1 else 0)) = (low t b).1 := by
        unfold low
        rw [hg]
        by_cases z : b < 0
        · rw [if_pos (decide_eq_true z), if_pos z] <;> rfl
        · rw [if_neg (by rw [decide_eq_false z]; exact Bool.false_ne_true), if_neg z] <;> rfl
      have e2 : (if b < 0 then -b else b) / (x : Int) = (low t b).2 := by
        rw [abs_]
        unfold low
        rw [hg]
      refine q p H1 s1 hp ?_
      rw [← e1, ← e2]
      exact h1

end
end KR
namespace KR
open PySem PySem.Spec PyProof.Rows L2
section
variable {P : Program} {w : World} {K : PySem.W.Frag} {mg : Str → Option Value} {base : Heap}
def sp_l_frac : Sp := fun vs H Q _ => ∃ (p : Addr) (bl : Bool) (n : Nat), vs = [.ref p, .bl bl] ∧ BoxAt H p n ∧ n ≤ 999999000 ∧ ∀ (a : Addr) (t b : Int) (H' : Hp), IsLow t b → t.natAbs < 2 ^ 200 → b.natAbs < 2 ^ 200 → H' a = some (.tup [.int t, .int b]) → BoxAt H' p (n + 5) → Fr p H H' → Q (.ref a) H'
theorem ok_l_frac (T : All K mg) : FnOk P w K mg base CX0 2 T.f_l_frac T.fd_l_frac ["_law_box_here", "_law_below"] sp_l_frac := by
  refine T.d_l_frac.fn.ok sc_l_frac (fun vs H Q E h => ?_) (fun cdv A outer s H vs Q E hr h => ?_)
  · obtain ⟨p, bl, n, rfl, _⟩ := h
    rfl
  · obtain ⟨p, bl, n, rfl, hB, hn, q⟩ := h
    refine ⟨_, (pss_cons (ps_par (i := 2) (j := 3) (by rfl) sc_l_frac.nd rfl rfl (by decide) rfl rfl (pa_cons (pe_call (ok_l_take T) hr (by rfl) T.d_l_take.mg T.d_l_take.fn.kp T.d_l_take.b .nil pass0 (pa_cons (pv 0) (pa_cons pe_int pa_nil))) (pa_cons (pe_op op_sub pe_int (pe_op op_mulX (pe_op op_mulX pe_int (pe_call (ok_l_take T) hr (by rfl) T.d_l_take.mg T.d_l_take.fn.kp T.d_l_take.b .nil pass0 (pa_cons (pv 0) (pa_cons pe_int pa_nil)))) (pe_callTy call_int1 (by rfl) T.b_int (by decide +kernel) (pa_cons (pv 1) pa_nil)))) pa_nil)) (by rfl))
      (pss_cons (ps_if (pt_cmpR op_eq (pv 2) pe_int (nomark _)) (pss_one (ps_ret (pe_tupI (pa_cons (pe_op op_mulX (pe_call (ok_l_take T) hr (by rfl) T.d_l_take.mg T.d_l_take.fn.kp T.d_l_take.b .nil pass0 (pa_cons (pv 0) (pa_cons pe_int pa_nil))) (pv 3)) (pa_cons pe_int pa_nil))))) pss_nil)
      (pss_cons (ps_set (i := 4) sc_l_frac.nd rfl (by first | exact Or.inl rfl | exact Or.inr rfl) (pe_ix ix_list (pe_lstI (pa_cons pe_int (pa_cons pe_int (pa_cons (pe_op op_pow pe_int pe_int) (pa_cons (pe_op op_sub (pe_op op_pow pe_int pe_int) pe_int) pa_nil))))) (pe_op op_sub (pv 2) pe_int) (fun _ _ => rfl)))
      (pss_one (ps_ret (pe_call (ok_l_low T) hr (by rfl) T.d_l_low.mg T.d_l_low.fn.kp T.d_l_low.b .nil pass0 (pa_cons (pe_op op_mulX (pe_op op_add (pe_call (ok_l_take T) hr (by rfl) T.d_l_take.mg T.d_l_take.fn.kp T.d_l_take.b .nil pass0 (pa_cons (pv 0) (pa_cons (pv 4) pa_nil))) (pe_call (ok_l_take T) hr (by rfl) T.d_l_take.mg T.d_l_take.fn.kp T.d_l_take.b .nil pass0 (pa_cons (pv 0) (pa_cons pe_int pa_nil)))) (pv 3)) (pa_cons (pe_op op_add pe_int (pe_call (ok_l_take T) hr (by rfl) T.d_l_take.mg T.d_l_take.fn.kp T.d_l_take.b .nil pass0 (pa_cons (pv 0) (pa_cons (pv 4) pa_nil)))) pa_nil)))))))), ?_⟩
    refine ⟨_, rfl, p, 5, n, rfl, hB, by omega, by decide, by decide, fun way H1 w0 w1 B1 F1 => ?_⟩
    refine ⟨_, rfl, p, 2, n + 1, rfl, B1, by omega, by decide, by decide, fun sg H2 s0 s1 B2 F2 => ?_⟩
    refine ⟨_, _, rfl, rfl, mulL (by decide), _, rfl, .inr ⟨_, rfl, ?_⟩⟩
    refine ⟨_, _, rfl, rfl, mulR bit_lt, _, _, rfl, rfl, _, _, rfl, ?_⟩
    have hsg : ∃ sn : Int, 1 - 2 * sg * (if bl = true then 1 else 0) = sn ∧ (sn = 1 ∨ sn = -1) := ⟨_, rfl, by split <;> omega⟩
    obtain ⟨sn, esn, hsn⟩ := hsg
    dsimp only
    rw [esn]
    refine ⟨_, rfl, rfl, _, rfl, ite2 (fun c => ?_) (fun c => ?_)⟩
    · refine ⟨_, rfl, p, 3, n + 2, rfl, B2, by omega, by decide, by decide, fun z H3 z0 z1 B3 F3 => ?_⟩
      refine ⟨_, rfl, _, _, rfl, rfl, mulL (by omega), rfl, fun a H4 s4 ha h4 => ?_⟩
      have zz : z * sn = z ∨ z * sn = -z := by
        rcases hsn with e | e <;> rw [e] <;> omega
      refine q a (z * sn) 1 _ ⟨by decide, ?_⟩ (by omega) (by decide) h4 ((B3.same s4).mono (by omega)) (((F1.trans F2).trans F3).trans (Fr.of s4))
      exact Nat.gcd_one_right _
    · have c0 : way ≠ 0 := fun e => c (by rw [e]; exact decide_eq_true rfl)
      refine ⟨_, _, rfl, rfl, ⟨by decide, by decide, by decide⟩, _, _, rfl, rfl, ⟨by decide, by decide, by decide⟩, _, _, rfl, rfl, rfl, fun l H3 s3 hl h3 => ?_⟩
      obtain ⟨m, em, h0, h1⟩ : ∃ m : Int, atI ([.int 12, .int 1000, .int (10 ^ (20 : Int).toNat), .int (10 ^ (40 : Int).toNat - 100)] : List V) (way - 1) = some (.int m) ∧ 0 < m ∧ m.natAbs < 2 ^ 199 := by
        have w2 : way = 1 ∨ way = 2 ∨ way = 3 ∨ way = 4 := by omega
        rcases w2 with e | e | e | e <;> subst e
        · exact ⟨_, rfl, by decide, by decide⟩
        · exact ⟨_, rfl, by decide, by decide⟩
        · exact ⟨_, rfl, by decide, by decide⟩
        · exact ⟨_, rfl, by decide, by decide⟩
      refine ⟨_, rfl, _, _, rfl, rfl, l, _, _, _, rfl, rfl, SqL.of h3, em, ?_⟩
      have h1' : m.natAbs < 2 ^ 200 := lt_up h1 (by decide)
      refine ⟨_, rfl, _, rfl, p, m, n + 2, rfl, B2.same s3, by omega, h0, h1', fun z H4 z0 z1 B4 F4 => ?_⟩
      refine ⟨_, rfl, p, 2, n + 3, rfl, B4, by omega, by decide, by decide, fun y H5 y0 y1 B5 F5 => ?_⟩
      refine ⟨_, _, rfl, rfl, _, rfl, _, _, rfl, rfl, mulR (by omega), ?_⟩
      refine ⟨_, rfl, _, rfl, p, m, n + 4, rfl, B5, by omega, h0, h1', fun x H6 x0 x1 B6 F6 => ?_⟩
      have zz : (z + y) * sn = z + y ∨ (z + y) * sn = -(z + y) := by
        rcases hsn with e | e <;> rw [e] <;> omega
      have b1 : ((z + y) * sn).natAbs < 2 ^ 200 := by omega
      have b2 : (1 + x).natAbs < 2 ^ 200 := by omega
      refine ⟨_, _, rfl, rfl, _, _, rfl, by omega, lt_up b1 (by decide), lt_up b2 (by decide), fun a H7 s7 ha h7 => ?_⟩
      obtain ⟨k1, k2⟩ := low_lt b1 b2
      refine q a _ _ _ (low_facts _ _ (by omega)).1 k1 k2 h7 (B6.same s7) ?_
      exact (((((F1.trans F2).trans (.of s3)).trans F4).trans F5).trans F6).trans (.of s7)

end
end KR
namespace KR
open PySem PySem.Spec PyProof.Rows L2
section
variable {P : Program} {w : World} {K : PySem.W.Frag} {mg : Str → Option Value} {base : Heap}
theorem fdivs {t b : Int} (hb : b ≠ 0) : (b < 0 → t.fdiv (-((Nat.gcd t.natAbs b.natAbs : Nat) : Int)) = (low t b).1 ∧ b.fdiv (-((Nat.gcd t.natAbs b.natAbs : Nat) : Int)) = (low t b).2) ∧
    (¬ b < 0 → t.fdiv ((Nat.gcd t.natAbs b.natAbs : Nat) : Int) = (low t b).1 ∧ b.fdiv ((Nat.gcd t.natAbs b.natAbs : Nat) : Int) = (low t b).2) := by
  have d1 : ((Nat.gcd t.natAbs b.natAbs : Nat) : Int) ∣ t := Int.ofNat_dvd_left.mpr (Nat.gcd_dvd_left _ _)
  have d2 : ((Nat.gcd t.natAbs b.natAbs : Nat) : Int) ∣ b := Int.ofNat_dvd_left.mpr (Nat.gcd_dvd_right _ _)
  have hg : 0 < Nat.gcd t.natAbs b.natAbs := Nat.gcd_pos_of_pos_right _ (by omega)
  unfold low
  generalize Nat.gcd t.natAbs b.natAbs = g at *
  refine ⟨fun c => ?_, fun c => ?_⟩
  · rw [fdiv_neg d1, fdiv_neg d2, if_pos c]
    refine ⟨rfl, ?_⟩
    have e : (b.natAbs : Int) = -b := by omega
    show b / (g : Int) * -1 = (b.natAbs : Int) / (g : Int)
    rw [e]
    obtain ⟨z, rfl⟩ := d2
    rw [Int.mul_ediv_cancel_left _ (by omega), ← Int.mul_neg, Int.mul_ediv_cancel_left _ (by omega)]
    omega
  · rw [if_neg c, Int.fdiv_eq_ediv_of_nonneg _ (by omega), Int.fdiv_eq_ediv_of_nonneg _ (by omega)]
    have e : (b.natAbs : Int) = b := by omega
    refine ⟨by omega, ?_⟩
    show b / (g : Int) = (b.natAbs : Int) / (g : Int)
    rw [e]
theorem ok_p_frac_of (T : All K mg) : FnOk P w K mg base CX0 1 T.f_p_frac_of T.fd_p_frac_of ["top", "bottom"] sp_low := by
  refine T.d_p_frac_of.fn.ok sc_p_frac_of (fun vs H Q E h => ?_) (fun cdv A outer s H vs Q E hr h => ?_)
  · obtain ⟨t, b, rfl, _⟩ := h
    rfl
  · obtain ⟨t, b, rfl, hb, ht, hb2, q⟩ := h
    refine ⟨_, (pss_cons (ps_set (i := 2) sc_p_frac_of.nd rfl (by first | exact Or.inl rfl | exact Or.inr rfl) (pe_callBfun cr_gcd (by rfl) T.m_gcd (pa_cons (pv 0) (pa_cons (pv 1) pa_nil))))
      (pss_cons (ps_if (pt_cmpR op_lt (pv 1) pe_int (nomark _)) (pss_one (ps_set (i := 2) sc_p_frac_of.nd rfl (by first | exact Or.inl rfl | exact Or.inr rfl) (pe_un un_neg (pv 2)))) pss_nil)
      (pss_one (ps_ret (pe_tupI (pa_cons (pe_op op_fdivX (pv 0) (pv 2)) (pa_cons (pe_op op_fdivX (pv 1) (pv 2)) pa_nil))))))), ?_⟩
    have hg : 0 < Nat.gcd t.natAbs b.natAbs := Nat.gcd_pos_of_pos_right _ (by omega)
    have hg2 : Nat.gcd t.natAbs b.natAbs < 2 ^ 2000 := Nat.lt_of_le_of_lt (Nat.le_of_dvd (by omega) (Nat.gcd_dvd_right _ _)) hb2
    obtain ⟨k1, k2⟩ := fdivs (t := t) hb
    refine ⟨_, rfl, _, rfl, _, _, rfl, ?_⟩
    refine ⟨_, rfl, _, _, rfl, rfl, _, rfl, ite2 (fun c => ?_) (fun c => ?_)⟩
    · have c1 : b < 0 := of_decide_eq_true c
      have hd : ∀ z : Int, DivOk z (-((Nat.gcd t.natAbs b.natAbs : Nat) : Int)) := fun z => divOk (b := 2000) (by omega) (by rw [Int.natAbs_neg, Int.natAbs_natCast]; exact hg2) (by decide) (by decide)
      refine ⟨_, rfl, _, rfl, _, rfl, _, rfl, _, _, rfl, rfl, hd _, _, rfl, _, rfl, _, _, rfl, rfl, hd _, rfl, fun p H1 s1 hp h1 => ?_⟩
      refine q p H1 s1 hp ?_
      rw [← (k1 c1).1, ← (k1 c1).2]
      exact h1
    · have c1 : ¬ b < 0 := of_decide_eq_false (Bool.eq_false_iff.mpr c)
      have hd : ∀ z : Int, DivOk z ((Nat.gcd t.natAbs b.natAbs : Nat) : Int) := fun z => divOk (b := 2000) (by omega) (by rw [Int.natAbs_natCast]; exact hg2) (by decide) (by decide)
      refine ⟨_, rfl, _, rfl, _, _, rfl, rfl, hd _, _, rfl, _, rfl, _, _, rfl, rfl, hd _, rfl, fun p H1 s1 hp h1 => ?_⟩
      refine q p H1 s1 hp ?_
      rw [← (k2 c1).1, ← (k2 c1).2]
      exact h1

end
end KR
namespace KR
open PySem PySem.Spec PyProof.Rows L2
section
variable {P : Program} {w : World} {K : PySem.W.Frag} {mg : Str → Option Value} {base : Heap}
theorem ok_p_sum_of (T : All K mg) : FnOk P w K mg base CX0 2 T.f_p_sum_of T.fd_p_sum_of ["one", "other"] (sp_two K (fun a b c d => a * d + c * b) (fun _ b _ d => b * d)) := by
  refine T.d_p_sum_of.fn.ok sc_p_sum_of (fun vs H Q E h => ?_) (fun cdv A outer s H vs Q E hr h => ?_)
  · obtain ⟨x, y, a, b, c, d, rfl, _⟩ := h
    rfl
  · obtain ⟨x, y, a, b, c, d, rfl, hx, hy, h0, ha, hb, hc, hd, q⟩ := h
    refine ⟨_, (pss_one (ps_ret (pe_call (ok_p_frac_of T) hr (by rfl) T.d_p_frac_of.mg T.d_p_frac_of.fn.kp T.d_p_frac_of.b .nil pass0 (pa_cons (pe_op op_add (pe_op op_mulX (pe_ix ix_tup (pv 0) pe_int (fun _ _ => rfl)) (pe_ix ix_tup (pv 1) pe_int (fun _ _ => rfl))) (pe_op op_mulX (pe_ix ix_tup (pv 1) pe_int (fun _ _ => rfl)) (pe_ix ix_tup (pv 0) pe_int (fun _ _ => rfl)))) (pa_cons (pe_op op_mulX (pe_ix ix_tup (pv 0) pe_int (fun _ _ => rfl)) (pe_ix ix_tup (pv 1) pe_int (fun _ _ => rfl))) pa_nil))))), ?_⟩
    have m1 : (a * d).natAbs < 2 ^ 1800 := wide_lt ha hd
    have m2 : (c * b).natAbs < 2 ^ 1800 := wide_lt hc hb
    have m3 : (b * d).natAbs < 2 ^ 1800 := wide_lt hb hd
    have w : ∀ i j : Int, i.natAbs < 2 ^ 900 → j.natAbs < 2 ^ 900 → IntMulOk i j := fun i j h1 h2 => mulW h1 h2 (by decide) (by decide) (by decide)
    refine ⟨_, rfl, x, _, 0, _, rfl, rfl, hx, at0, _, rfl, y, _, 1, _, rfl, rfl, hy, at1, _, _, rfl, rfl, w _ _ ha hd, ?_⟩
    refine ⟨_, rfl, y, _, 0, _, rfl, rfl, hy, at0, _, rfl, x, _, 1, _, rfl, rfl, hx, at1, _, _, rfl, rfl, w _ _ hc hb, _, _, rfl, rfl, ?_⟩
    refine ⟨_, rfl, x, _, 1, _, rfl, rfl, hx, at1, _, rfl, y, _, 1, _, rfl, rfl, hy, at1, _, _, rfl, rfl, w _ _ hb hd, ?_⟩
    exact ⟨_, _, rfl, h0, lt_up (add_lt m1 m2) (by decide), lt_up m3 (by decide), q⟩

end
end KR
namespace KR
open PySem PySem.Spec PyProof.Rows L2
section
variable {P : Program} {w : World} {K : PySem.W.Frag} {mg : Str → Option Value} {base : Heap}
theorem ok_p_difference (T : All K mg) : FnOk P w K mg base CX0 2 T.f_p_difference T.fd_p_difference ["one", "other"] (sp_two K (fun a b c d => a * d - c * b) (fun _ b _ d => b * d)) := by
  refine T.d_p_difference.fn.ok sc_p_difference (fun vs H Q E h => ?_) (fun cdv A outer s H vs Q E hr h => ?_)
  · obtain ⟨x, y, a, b, c, d, rfl, _⟩ := h
    rfl
  · obtain ⟨x, y, a, b, c, d, rfl, hx, hy, h0, ha, hb, hc, hd, q⟩ := h
    refine ⟨_, (pss_one (ps_ret (pe_call (ok_p_frac_of T) hr (by rfl) T.d_p_frac_of.mg T.d_p_frac_of.fn.kp T.d_p_frac_of.b .nil pass0 (pa_cons (pe_op op_sub (pe_op op_mulX (pe_ix ix_tup (pv 0) pe_int (fun _ _ => rfl)) (pe_ix ix_tup (pv 1) pe_int (fun _ _ => rfl))) (pe_op op_mulX (pe_ix ix_tup (pv 1) pe_int (fun _ _ => rfl)) (pe_ix ix_tup (pv 0) pe_int (fun _ _ => rfl)))) (pa_cons (pe_op op_mulX (pe_ix ix_tup (pv 0) pe_int (fun _ _ => rfl)) (pe_ix ix_tup (pv 1) pe_int (fun _ _ => rfl))) pa_nil))))), ?_⟩
    have m1 : (a * d).natAbs < 2 ^ 1800 := wide_lt ha hd
    have m2 : (c * b).natAbs < 2 ^ 1800 := wide_lt hc hb
    have m3 : (b * d).natAbs < 2 ^ 1800 := wide_lt hb hd
    have w : ∀ i j : Int, i.natAbs < 2 ^ 900 → j.natAbs < 2 ^ 900 → IntMulOk i j := fun i j h1 h2 => mulW h1 h2 (by decide) (by decide) (by decide)
    refine ⟨_, rfl, x, _, 0, _, rfl, rfl, hx, at0, _, rfl, y, _, 1, _, rfl, rfl, hy, at1, _, _, rfl, rfl, w _ _ ha hd, ?_⟩
    refine ⟨_, rfl, y, _, 0, _, rfl, rfl, hy, at0, _, rfl, x, _, 1, _, rfl, rfl, hx, at1, _, _, rfl, rfl, w _ _ hc hb, _, _, rfl, rfl, ?_⟩
    refine ⟨_, rfl, x, _, 1, _, rfl, rfl, hx, at1, _, rfl, y, _, 1, _, rfl, rfl, hy, at1, _, _, rfl, rfl, w _ _ hb hd, ?_⟩
    exact ⟨_, _, rfl, h0, lt_up (sub_lt m1 m2) (by decide), lt_up m3 (by decide), q⟩

end
end KR
namespace KR
open PySem PySem.Spec PyProof.Rows L2
section
variable {P : Program} {w : World} {K : PySem.W.Frag} {mg : Str → Option Value} {base : Heap}
theorem ok_p_product (T : All K mg) : FnOk P w K mg base CX0 2 T.f_p_product T.fd_p_product ["one", "other"] (sp_two K (fun a _ c _ => a * c) (fun _ b _ d => b * d)) := by
  refine T.d_p_product.fn.ok sc_p_product (fun vs H Q E h => ?_) (fun cdv A outer s H vs Q E hr h => ?_)
  · obtain ⟨x, y, a, b, c, d, rfl, _⟩ := h
    rfl
  · obtain ⟨x, y, a, b, c, d, rfl, hx, hy, h0, ha, hb, hc, hd, q⟩ := h
    refine ⟨_, (pss_one (ps_ret (pe_call (ok_p_frac_of T) hr (by rfl) T.d_p_frac_of.mg T.d_p_frac_of.fn.kp T.d_p_frac_of.b .nil pass0 (pa_cons (pe_op op_mulX (pe_ix ix_tup (pv 0) pe_int (fun _ _ => rfl)) (pe_ix ix_tup (pv 1) pe_int (fun _ _ => rfl))) (pa_cons (pe_op op_mulX (pe_ix ix_tup (pv 0) pe_int (fun _ _ => rfl)) (pe_ix ix_tup (pv 1) pe_int (fun _ _ => rfl))) pa_nil))))), ?_⟩
    have w : ∀ i j : Int, i.natAbs < 2 ^ 900 → j.natAbs < 2 ^ 900 → IntMulOk i j := fun i j h1 h2 => mulW h1 h2 (by decide) (by decide) (by decide)
    refine ⟨_, rfl, x, _, 0, _, rfl, rfl, hx, at0, _, rfl, y, _, 0, _, rfl, rfl, hy, at0, _, _, rfl, rfl, w _ _ ha hc, ?_⟩
    refine ⟨_, rfl, x, _, 1, _, rfl, rfl, hx, at1, _, rfl, y, _, 1, _, rfl, rfl, hy, at1, _, _, rfl, rfl, w _ _ hb hd, ?_⟩
    exact ⟨_, _, rfl, h0, lt_up (wide_lt ha hc) (by decide), lt_up (wide_lt hb hd) (by decide), q⟩

end
end KR
namespace KR
open PySem PySem.Spec PyProof.Rows L2
section
variable {P : Program} {w : World} {K : PySem.W.Frag} {mg : Str → Option Value} {base : Heap}
theorem ok_p_quotient (T : All K mg) : FnOk P w K mg base CX0 2 T.f_p_quotient T.fd_p_quotient ["one", "other"] (sp_two K (fun a _ _ d => a * d) (fun _ b c _ => b * c)) := by
  refine T.d_p_quotient.fn.ok sc_p_quotient (fun vs H Q E h => ?_) (fun cdv A outer s H vs Q E hr h => ?_)
  · obtain ⟨x, y, a, b, c, d, rfl, _⟩ := h
    rfl
  · obtain ⟨x, y, a, b, c, d, rfl, hx, hy, h0, ha, hb, hc, hd, q⟩ := h
    refine ⟨_, (pss_one (ps_ret (pe_call (ok_p_frac_of T) hr (by rfl) T.d_p_frac_of.mg T.d_p_frac_of.fn.kp T.d_p_frac_of.b .nil pass0 (pa_cons (pe_op op_mulX (pe_ix ix_tup (pv 0) pe_int (fun _ _ => rfl)) (pe_ix ix_tup (pv 1) pe_int (fun _ _ => rfl))) (pa_cons (pe_op op_mulX (pe_ix ix_tup (pv 0) pe_int (fun _ _ => rfl)) (pe_ix ix_tup (pv 1) pe_int (fun _ _ => rfl))) pa_nil))))), ?_⟩
    have w : ∀ i j : Int, i.natAbs < 2 ^ 900 → j.natAbs < 2 ^ 900 → IntMulOk i j := fun i j h1 h2 => mulW h1 h2 (by decide) (by decide) (by decide)
    refine ⟨_, rfl, x, _, 0, _, rfl, rfl, hx, at0, _, rfl, y, _, 1, _, rfl, rfl, hy, at1, _, _, rfl, rfl, w _ _ ha hd, ?_⟩
    refine ⟨_, rfl, x, _, 1, _, rfl, rfl, hx, at1, _, rfl, y, _, 0, _, rfl, rfl, hy, at0, _, _, rfl, rfl, w _ _ hb hc, ?_⟩
    exact ⟨_, _, rfl, h0, lt_up (wide_lt ha hd) (by decide), lt_up (wide_lt hb hc) (by decide), q⟩

end
end KR
namespace KR
open PySem PySem.Spec PyProof.Rows L2
section
variable {P : Program} {w : World} {K : PySem.W.Frag} {mg : Str → Option Value} {base : Heap}
def sp_l_same (n : Nat) : Sp := fun vs H Q _ => ∃ (v w : V) (d : PyData), vs = [v, w] ∧ Dt H n v d ∧ Dt H n w d ∧ ∀ H', Same H H' → Q (.bl true) H'
/-- how two alike things look: no list and no tuple, or two lists, or two tuples -/
inductive Look2 (K : PySem.W.Frag) (H : Hp) (n : Nat) (v w : V) (d : PyData) : Prop
  | leaf (t : String) (bb bi : Bool) (e : v = w) (ty : TyX K H w (.type t)) (kl : kitB t "list" = some false) (kt : kitB t "tuple" = some false) (kb : kitB t "bool" = some bb) (ki : kitB t "int" = some bi) (dp : Dp K H w d) (sh : SeqAt.shaped d = true)
  | both (t : String) (bl bt : Bool) (a b : Addr) (xs ys : List V) (ds : List PyData) (e1 : v = .ref a) (e2 : w = .ref b) (ty1 : TyX K H v (.type t)) (ty2 : TyX K H w (.type t)) (kl : kitB t "list" = some bl) (kt : kitB t "tuple" = some bt) (kk : bl = false → bt = true)
    (lx : xs.length = ds.length) (ly : ys.length = ds.length) (l9 : xs.length ≤ 100000) (dx : ∀ (i : Nat) (x : V) (d : PyData), xs[i]? = some x → ds[i]? = some d → Dt H n x d) (dy : ∀ (i : Nat) (x : V) (d : PyData), ys[i]? = some x → ds[i]? = some d → Dt H n x d)
    (h : (H a = some (.lst xs) ∧ H b = some (.lst ys)) ∨ (H a = some (.tup xs) ∧ H b = some (.tup ys)))
theorem look2 {K : PySem.W.Frag} {H : Hp} {n : Nat} {v w : V} {d : PyData} (h1 : Dt H (n + 1) v d) (h2 : Dt H (n + 1) w d) : Look2 K H n v w d := by
  cases h1 with
  | non => cases h2; exact .leaf "NoneType" false false rfl (.base .non) (by decide +kernel) (by decide +kernel) (by decide +kernel) (by decide +kernel) .non rfl
  | bl _ b => cases h2; exact .leaf "bool" true true rfl (.base (.bl b)) (by decide +kernel) (by decide +kernel) (by decide +kernel) (by decide +kernel) (.bl b) rfl
  | int _ i => cases h2; exact .leaf "int" false true rfl (.base (.int i)) (by decide +kernel) (by decide +kernel) (by decide +kernel) (by decide +kernel) (.int i) rfl
  | str _ x ok => cases h2; exact .leaf "str" false false rfl (.base (.str x)) (by decide +kernel) (by decide +kernel) (by decide +kernel) (by decide +kernel) (.str x) (by show (PyData.canLay0 (.str x) && decide (PyData.depth (.str x) ≤ 64)) = true; rw [ok]; rfl)
  | lst a1 a2 a3 a4 =>
    cases h2 with
    | lst b1 b2 b3 b4 => exact .both "list" true false _ _ _ _ _ rfl rfl (.base (.lst a1)) (.base (.lst b1)) (by decide +kernel) (by decide +kernel) (fun z => nomatch z) a2 b2 a3 a4 b4 (.inl ⟨a1, b1⟩)
  | tup a1 a2 a3 a4 =>
    cases h2 with
    | tup b1 b2 b3 b4 => exact .both "tuple" false true _ _ _ _ _ rfl rfl (.base (.tup a1)) (.base (.tup b1)) (by decide +kernel) (by decide +kernel) (fun _ => rfl) a2 b2 a3 a4 b4 (.inr ⟨a1, b1⟩)
theorem none_l_same {f : Addr} {fd : FuncData} : FnOk P w K mg base CX0 0 f fd ["_law_found", "_law_due"] (sp_l_same 0) := by
  have no : ∀ vs H Q E, ¬ sp_l_same 0 vs H Q E := fun vs H Q E h => by
    obtain ⟨v, w, d, _, h1, _⟩ := h
    cases h1
  exact ⟨fun vs H Q E h => absurd h (no vs H Q E), fun A outer s H args us vs Q E _ _ _ _ h => absurd h (no vs H Q E)⟩
theorem step_l_same (T : All K mg) {n : Nat} (ih : FnOk P w K mg base CX0 n T.f_l_same T.fd_l_same ["_law_found", "_law_due"] (sp_l_same n)) : FnOk P w K mg base CX0 (n + 1) T.f_l_same T.fd_l_same ["_law_found", "_law_due"] (sp_l_same (n + 1)) := by
  refine T.d_l_same.fn.ok sc_l_same (fun vs H Q E h => ?_) (fun cdv A outer s H vs Q E hr h => ?_)
  · obtain ⟨v, w, d, rfl, _⟩ := h
    rfl
  · obtain ⟨v, w, d, rfl, h1, h2, q⟩ := h
    refine ⟨_, (pss_cons (ps_if (pt_val (pe_callB call_isiT (by rfl) T.b_isinstance (by decide +kernel) (pa_cons (pv 1) (pa_cons (pe_tupI (pa_cons (pe_bltn (v := .ty "list") (by rfl) T.b_list (by decide +kernel) rfl) (pa_cons (pe_bltn (v := .ty "tuple") (by rfl) T.b_tuple (by decide +kernel) rfl) pa_nil))) pa_nil)))) (pss_cons (ps_if (PW.pt (pw_or (pt_cmpR op_ne (pe_callB call_isi (by rfl) T.b_isinstance (by decide +kernel) (pa_cons (pv 0) (pa_cons (pe_bltn (v := .ty "list") (by rfl) T.b_list (by decide +kernel) rfl) pa_nil))) (pe_callB call_isi (by rfl) T.b_isinstance (by decide +kernel) (pa_cons (pv 1) (pa_cons (pe_bltn (v := .ty "list") (by rfl) T.b_list (by decide +kernel) rfl) pa_nil))) (nomark _)) (pw_or1 (pt_cmpR op_ne (pe_callB call_isi (by rfl) T.b_isinstance (by decide +kernel) (pa_cons (pv 0) (pa_cons (pe_bltn (v := .ty "tuple") (by rfl) T.b_tuple (by decide +kernel) rfl) pa_nil))) (pe_callB call_isi (by rfl) T.b_isinstance (by decide +kernel) (pa_cons (pv 1) (pa_cons (pe_bltn (v := .ty "tuple") (by rfl) T.b_tuple (by decide +kernel) rfl) pa_nil))) (nomark _))))) (pss_one (ps_ret pe_bl)) pss_nil)
      (pss_one (ps_ret (pe_and (pe_cmpR op_eq (pe_callB call_len (by rfl) T.b_len PySem.boot_len (pa_cons (pv 0) pa_nil)) (pe_callB call_len (by rfl) T.b_len PySem.boot_len (pa_cons (pv 1) pa_nil)) (nomark _)) (pe_one (pe_callB (cr_all rfl) (by rfl) T.b_all (by decide +kernel) (pa_cons (pe_lc (own := [("_law_one", 2), ("_law_other", 3)]) (g := gTup K 2 (gCons (gName 2) (gCons (gName 3) gNil))) (tt := tYes) (by rfl) sc_l_same.nd (RZ.pi_zipA (by rfl) T.b_zip (pa_cons (pv 0) (pa_cons (pv 1) pa_nil))) (blkOk_by (own := [("_law_one", 2), ("_law_other", 3)]) (N := ["_law_found", "_law_due", "_law_one", "_law_other"]) (sc := defScope s_l_same) (by decide +kernel)) (fun _ _ _ _ _ => (pg_tup rfl (pgs_cons (pg_name (i := 2) sc_l_same.nd rfl (by first | exact Or.inl rfl | exact Or.inr rfl)) (pgs_cons (pg_name (i := 3) sc_l_same.nd rfl (by first | exact Or.inl rfl | exact Or.inr rfl)) pgs_nil)))) (fun _ _ _ _ _ => pts_nil) (fun _ _ _ _ _ => (pe_call ih hr (by rfl) T.d_l_same.mg T.d_l_same.fn.kp T.d_l_same.b .nil pass0 (pa_cons (pv 2) (pa_cons (pv 3) pa_nil))))) pa_nil))))))) pss_nil)
      (pss_cons (ps_if (PW.pt (pw_or (pt_cmpR op_ne (pe_callB call_isi (by rfl) T.b_isinstance (by decide +kernel) (pa_cons (pv 0) (pa_cons (pe_bltn (v := .ty "bool") (by rfl) T.b_bool (by decide +kernel) rfl) pa_nil))) (pe_callB call_isi (by rfl) T.b_isinstance (by decide +kernel) (pa_cons (pv 1) (pa_cons (pe_bltn (v := .ty "bool") (by rfl) T.b_bool (by decide +kernel) rfl) pa_nil))) (nomark _)) (pw_or1 (pt_cmpR op_ne (pe_callB call_isi (by rfl) T.b_isinstance (by decide +kernel) (pa_cons (pv 0) (pa_cons (pe_bltn (v := .ty "int") (by rfl) T.b_int (by decide +kernel) rfl) pa_nil))) (pe_callB call_isi (by rfl) T.b_isinstance (by decide +kernel) (pa_cons (pv 1) (pa_cons (pe_bltn (v := .ty "int") (by rfl) T.b_int (by decide +kernel) rfl) pa_nil))) (nomark _))))) (pss_one (ps_ret pe_bl)) pss_nil)
      (pss_one (ps_ret (pe_cmpR (op_eqD hr.units) (pv 0) (pv 1) (nomark _)))))), ?_⟩
    refine ⟨_, rfl, rfl, fun tp H1 s1 htp htp2 => ?_⟩
    have lk : Look2 K H1 n v w d := look2 (h1.same s1) (h2.same s1)
    cases lk with
    | leaf t bb bi e ty kl kt kb ki dp sh =>
      subst e
      refine ⟨_, tp, _, _, [.type "list", .type "tuple"], false, rfl, htp2, .cons (.ty _) (.cons (.ty _) .nil), ty, kitAny_cons (kit_ty kl) (fun _ => kitAny_cons (kit_ty kt) (fun _ => rfl) (fun z => nomatch z)) (fun z => nomatch z), false, rfl, iteF ?_⟩
      refine ⟨_, rfl, _, _, _, _, _, rfl, .ty _, ty, kit_ty kb, _, rfl, _, _, _, _, _, rfl, .ty _, ty, kit_ty kb, rfl, _, rfl, ?_⟩
      rw [decide_eq_true rfl]
      refine iteF ?_
      refine ⟨_, rfl, _, _, _, _, _, rfl, .ty _, ty, kit_ty ki, _, rfl, _, _, _, _, _, rfl, .ty _, ty, kit_ty ki, rfl, _, rfl, ?_⟩
      rw [decide_eq_true rfl]
      refine iteF ?_
      refine ⟨_, rfl, _, rfl, d, d, dp, dp, sh, sh, ?_⟩
      rw [SeqAt.eqv_refl _ (SeqAt.canLay_of_shaped sh)]
      exact q _ s1
    | both t bl bt a b xs ys ds e1 e2 ty1 ty2 kl kt kk lx ly l9 dx dy hab =>
      subst e1 e2
      refine ⟨_, tp, _, _, [.type "list", .type "tuple"], true, rfl, htp2, .cons (.ty _) (.cons (.ty _) .nil), ty2, kitAny_cons (kit_ty kl) (fun z => kitAny_cons (kit_ty kt) (fun y => nomatch (kk z).symm.trans y) (fun _ => rfl)) (fun _ => rfl), true, rfl, iteT ?_⟩
      refine ⟨_, rfl, _, _, _, _, _, rfl, .ty _, ty1, kit_ty kl, _, rfl, _, _, _, _, _, rfl, .ty _, ty2, kit_ty kl, rfl, _, rfl, ?_⟩
      rw [decide_eq_true rfl]
      refine iteF ?_
      refine ⟨_, rfl, _, _, _, _, _, rfl, .ty _, ty1, kit_ty kt, _, rfl, _, _, _, _, _, rfl, .ty _, ty2, kit_ty kt, rfl, _, rfl, ?_⟩
      rw [decide_eq_true rfl]
      refine iteF ?_
      have hlen : ∀ (c : Addr) (zs : List V), (H1 c = some (.lst zs) ∨ H1 c = some (.tup zs)) → LenV K (.ref c) H1 zs.length := fun c zs h => by
        rcases h with h | h
        · exact .inl ⟨_, SqL.of h, rfl⟩
        · exact .inr ⟨_, SqT.of h, rfl⟩
      refine ⟨_, rfl, _, _, rfl, hlen a xs (hab.imp (·.1) (·.1)), _, rfl, _, _, rfl, hlen b ys (hab.imp (·.2) (·.2)), rfl, _, rfl, ?_⟩
      have el : decide (V.int (xs.length : Int) = V.int (ys.length : Int)) = true := decide_eq_true (by rw [lx, ly])
      rw [el]
      refine iteT ?_
      -- the turns of zip
      have turn : ∀ (D : Addr) (H2 : Hp) (i : Nat) (T0 : Addr), H1 D = none → i < xs.length → Same H1 H2 → H2 D = some (.lst (List.replicate i (.bl true))) → H2 T0 = none →
          sp_l_same n [xs.getD i .non, ys.getD i .non] (upd H2 T0 (.tup [xs.getD i .non, ys.getD i .non])) (fun y H4 => ∃ acc, H4 D = some (.lst acc) ∧ acc.length < sizeLine ∧ (Same H1 (upd H4 D (.lst (acc ++ [y]))) ∧ (upd H4 D (.lst (acc ++ [y]))) D = some (.lst (List.replicate (i + 1) (.bl true))))) E0 := by
        intro D H2 i T0 hD hi sm hd hT
        have sT : Same H2 (upd H2 T0 (.tup [xs.getD i .non, ys.getD i .non])) := same_new hT
        have gx := getD_of hi
        have gy := getD_of (show i < ys.length by omega)
        have gd : ds[i]? = some ds[i] := List.getElem?_eq_getElem (by omega)
        refine ⟨_, _, ds[i], rfl, (dx i _ _ gx gd).same (sm.trans sT), (dy i _ _ gy gd).same (sm.trans sT), fun H4 s4 => ?_⟩
        refine ⟨_, s4 _ _ (sT _ _ hd), by rw [List.length_replicate]; exact small' (by omega), Same.put ((sm.trans sT).trans s4) hD, ?_⟩
        rw [upd_same, List.replicate_succ'] <;> rfl
      refine ⟨_, rfl, _, rfl, a, b, xs, ys, rfl, ?_⟩
      have fin : ∀ (D : Addr) (H2 : Hp), Same H1 H2 ∧ H2 D = some (.lst (List.replicate xs.length (.bl true))) → ∃ (a : Addr) (bs : List Bool), [V.ref D] = [V.ref a] ∧ SqL K H2 a (bs.map V.bl) ∧ Q (.bl (bs.all id)) H2 := fun D H2 ⟨sm, hd⟩ => by
        obtain ⟨t1, t2⟩ := all_true xs.length
        refine ⟨D, List.replicate xs.length true, rfl, SqL.of (by rw [t1]; exact hd), ?_⟩
        rw [t2]
        exact q H2 (s1.trans sm)
      rcases hab with ⟨ha, hb⟩ | ⟨ha, hb⟩
      · refine .inl ⟨SqL.of ha, SqL.of hb, fun D hD => ?_⟩
        refine lc_pair (n := xs.length) (St := fun H2 => SqL K H2 a xs ∧ SqL K H2 b ys) (fun i H2 => zipL_go rfl (by omega)) (fun H2 => zipL_stop rfl) (fun i H2 v H3 => zipL_yld rfl (by omega))
          (fun i H2 => Same H1 H2 ∧ H2 D = some (.lst (List.replicate i (.bl true)))) ⟨same_new hD, upd_same⟩ (fun i H2 _ z => ⟨SqL.of (z.1 _ _ ha), SqL.of (z.1 _ _ hb)⟩) (fun i T0 H2 hi z hT => ?_) (fun H2 z => fin D H2 z)
        refine ⟨T0, _, rfl, SqT.of upd_same, rfl, _, _, rfl, _, _, rfl, rfl, rfl, yesT ?_⟩
        exact ⟨_, rfl, _, rfl, turn D H2 i T0 hD hi z.1 z.2 hT⟩
      · refine .inr ⟨SqT.of ha, SqT.of hb, fun D hD => ?_⟩
        refine lc_pair (n := xs.length) (St := fun H2 => SqT K H2 a xs ∧ SqT K H2 b ys) (fun i H2 => zipT_go rfl (by omega)) (fun H2 => zipT_stop rfl) (fun i H2 v H3 => zipT_yld rfl (by omega))
          (fun i H2 => Same H1 H2 ∧ H2 D = some (.lst (List.replicate i (.bl true)))) ⟨same_new hD, upd_same⟩ (fun i H2 _ z => ⟨SqT.of (z.1 _ _ ha), SqT.of (z.1 _ _ hb)⟩) (fun i T0 H2 hi z hT => ?_) (fun H2 z => fin D H2 z)
        refine ⟨T0, _, rfl, SqT.of upd_same, rfl, _, _, rfl, _, _, rfl, rfl, rfl, yesT ?_⟩
        exact ⟨_, rfl, _, rfl, turn D H2 i T0 hD hi z.1 z.2 hT⟩
theorem ok_l_same (T : All K mg) : FnOk P w K mg base CX0 5 T.f_l_same T.fd_l_same ["_law_found", "_law_due"] (sp_l_same 5) := by
  have go : ∀ n, FnOk P w K mg base CX0 n T.f_l_same T.fd_l_same ["_law_found", "_law_due"] (sp_l_same n) := fun n => by
    induction n with
    | zero => exact none_l_same
    | succ n ih => exact step_l_same T ih
  exact go _

end
end KR
namespace KR
open PySem PySem.Spec PyProof.Rows L2
section
variable {P : Program} {w : World} {K : PySem.W.Frag} {mg : Str → Option Value} {base : Heap}
def sp_l_two : Sp := fun vs H Q _ => ∃ (p : Addr) (n : Nat), vs = [.ref p] ∧ BoxAt H p n ∧ n ≤ 999990000 ∧ ∀ (r x y : Addr) (a b c d : Int) (H' : Hp), H' r = some (.tup [.ref x, .ref y]) → FrAt H' x a b → FrAt H' y c d → BoxAt H' p (n + 20) → Fr p H H' → Q (.ref r) H'
theorem ok_l_two (T : All K mg) : FnOk P w K mg base CX0 3 T.f_l_two T.fd_l_two ["_law_box_here"] sp_l_two := by
  refine T.d_l_two.fn.ok sc_l_two (fun vs H Q E h => ?_) (fun cdv A outer s H vs Q E hr h => ?_)
  · obtain ⟨p, n, rfl, _⟩ := h
    rfl
  · obtain ⟨p, n, rfl, hB, hn, q⟩ := h
    refine ⟨_, (pss_cons (ps_par (i := 1) (j := 2) (by rfl) sc_l_two.nd rfl rfl (by decide) rfl rfl (pa_cons (pe_call (ok_l_frac T) hr (by rfl) T.d_l_frac.mg T.d_l_frac.fn.kp T.d_l_frac.b .nil pass0 (pa_cons (pv 0) (pa_cons pe_bl pa_nil))) (pa_cons (pe_call (ok_l_take T) (hr.mono (by decide)) (by rfl) T.d_l_take.mg T.d_l_take.fn.kp T.d_l_take.b .nil pass0 (pa_cons (pv 0) (pa_cons pe_int pa_nil))) pa_nil)) (by rfl))
      (pss_cons (ps_set (i := 3) sc_l_two.nd rfl (by first | exact Or.inl rfl | exact Or.inr rfl) (pe_call (ok_l_frac T) hr (by rfl) T.d_l_frac.mg T.d_l_frac.fn.kp T.d_l_frac.b .nil pass0 (pa_cons (pv 0) (pa_cons pe_bl pa_nil))))
      (pss_cons (ps_if (pt_cmpR op_eq (pv 2) pe_int (nomark _)) (pss_one (ps_set (i := 3) sc_l_two.nd rfl (by first | exact Or.inl rfl | exact Or.inr rfl) (pe_call (ok_l_low T) (hr.mono (by decide)) (by rfl) T.d_l_low.mg T.d_l_low.fn.kp T.d_l_low.b .nil pass0 (pa_cons (pe_op op_sub (pe_call (ok_l_take T) (hr.mono (by decide)) (by rfl) T.d_l_take.mg T.d_l_take.fn.kp T.d_l_take.b .nil pass0 (pa_cons (pv 0) (pa_cons pe_int pa_nil))) pe_int) (pa_cons (pe_ix ix_tup (pv 1) pe_int (fun _ _ => rfl)) pa_nil))))) pss_nil)
      (pss_cons (ps_if (pt_cmpR op_eq (pv 2) pe_int (nomark _)) (pss_one (ps_set (i := 3) sc_l_two.nd rfl (by first | exact Or.inl rfl | exact Or.inr rfl) (pe_tupI (pa_cons (pe_un un_neg (pe_ix ix_tup (pv 1) pe_int (fun _ _ => rfl))) (pa_cons (pe_ix ix_tup (pv 1) pe_int (fun _ _ => rfl)) pa_nil))))) pss_nil)
      (pss_cons (ps_if (PW.pt (pw_and (pt_cmpR op_eq (pv 2) pe_int (nomark _)) (pw_and1 (pt_cmpR op_ne (pe_ix ix_tup (pv 1) pe_int (fun _ _ => rfl)) pe_int (nomark _))))) (pss_one (ps_set (i := 3) sc_l_two.nd rfl (by first | exact Or.inl rfl | exact Or.inr rfl) (pe_call (ok_l_low T) (hr.mono (by decide)) (by rfl) T.d_l_low.mg T.d_l_low.fn.kp T.d_l_low.b .nil pass0 (pa_cons (pe_ix ix_tup (pv 1) pe_int (fun _ _ => rfl)) (pa_cons (pe_ix ix_tup (pv 1) pe_int (fun _ _ => rfl)) pa_nil))))) pss_nil)
      (pss_one (ps_ret (pe_ifExp (pt_cmpR op_eq (pv 2) pe_int (nomark _)) (pe_tupI (pa_cons (pv 1) (pa_cons (pv 1) pa_nil))) (pe_tupI (pa_cons (pv 1) (pa_cons (pv 3) pa_nil))))))))))), ?_⟩
    refine ⟨_, rfl, p, true, n, rfl, hB, by omega, fun x a b H1 lo1 ta1 tb1 hx1 B1 F1 => ?_⟩
    refine ⟨_, rfl, p, 6, n + 5, rfl, B1, by omega, by decide, by decide, fun way H2 w0 w1 B2 F2 => ?_⟩
    have X1 : FrAt H1 x a b := ⟨hx1, lo1, ta1, tb1⟩
    have X2 := X1.fr B1 F2
    refine ⟨_, _, rfl, _, rfl, p, true, n + 6, rfl, B2, by omega, fun y c d H3 lo3 tc3 td3 hy3 B3 F3 => ?_⟩
    have X3 := X2.fr B2 F3
    have Y3 : FrAt H3 y c d := ⟨hy3, lo3, tc3, td3⟩
    have F13 : Fr p H H3 := (F1.trans F2).trans F3
    have bp := lo1.pos
    refine ⟨_, rfl, rfl, _, rfl, ?_⟩
    by_cases w_0 : way = 0
    · refine ite_iT w_0 ?_
      refine ⟨_, rfl, p, 99, n + 11, rfl, B3, by omega, by decide, by decide, fun z H4 z0 z1 B4 F4 => ?_⟩
      have X4 := X3.fr B3 F4
      refine ⟨_, _, rfl, rfl, _, rfl, x, _, 1, _, rfl, rfl, SqT.of X4.at_, at1, ?_⟩
      have bz : (z - 49).natAbs < 2 ^ 200 := by omega
      refine ⟨_, _, rfl, by omega, lt_up bz (by decide), lt_up X4.tb (by decide), fun y2 H5 s5 n5 h5 => ?_⟩
      have l5 := low_lt bz X4.tb
      have Y5 : FrAt H5 y2 _ _ := ⟨h5, (low_facts _ _ (by omega)).1, l5.1, l5.2⟩
      refine ⟨_, rfl, rfl, _, rfl, ite_iF (by omega) ?_⟩
      refine ⟨_, rfl, rfl, _, rfl, ite_iF (by omega) ?_⟩
      refine iteF ?_
      refine ⟨_, rfl, rfl, _, rfl, ite_iF (by omega) ?_⟩
      refine ⟨_, rfl, _, rfl, rfl, fun r H6 s6 n6 h6 => ?_⟩
      exact q r x y2 _ _ _ _ H6 h6 ((X4.same s5).same s6) (Y5.same s6) (((B4.same s5).same s6).mono (by omega)) (((F13.trans F4).trans (.of s5)).trans (.of s6))
    · refine ite_iF w_0 ?_
      refine ⟨_, rfl, rfl, _, rfl, ?_⟩
      by_cases w_1 : way = 1
      · refine ite_iT w_1 ?_
        refine ⟨_, rfl, x, _, 0, _, rfl, rfl, SqT.of X3.at_, at0, _, rfl, _, rfl, x, _, 1, _, rfl, rfl, SqT.of X3.at_, at1, rfl, fun y2 H5 s5 n5 h5 => ?_⟩
        have Y5 : FrAt H5 y2 (-a) b := ⟨h5, ⟨lo1.pos, by rw [Int.natAbs_neg]; exact lo1.cop⟩, by rw [Int.natAbs_neg]; exact ta1, tb1⟩
        refine ⟨_, rfl, rfl, _, rfl, ite_iF (by omega) ?_⟩
        refine iteF ?_
        refine ⟨_, rfl, rfl, _, rfl, ite_iF (by omega) ?_⟩
        refine ⟨_, rfl, _, rfl, rfl, fun r H6 s6 n6 h6 => ?_⟩
        exact q r x y2 _ _ _ _ H6 h6 ((X3.same s5).same s6) (Y5.same s6) (((B3.same s5).same s6).mono (by omega)) ((F13.trans (.of s5)).trans (.of s6))
      · refine ite_iF w_1 ?_
        refine ⟨_, rfl, rfl, _, rfl, ?_⟩
        by_cases w_2 : way = 2
        · refine ite_iT w_2 ?_
          refine ⟨_, rfl, x, _, 0, _, rfl, rfl, SqT.of X3.at_, at0, rfl, _, rfl, ?_⟩
          by_cases a0 : a = 0
          · rw [show (!decide (V.int a = V.int 0)) = false by rw [decide_eq_true (congrArg V.int a0)] <;> rfl]
            refine iteF ?_
            refine ⟨_, rfl, rfl, _, rfl, ite_iF (by omega) ?_⟩
            refine ⟨_, rfl, _, rfl, rfl, fun r H6 s6 n6 h6 => ?_⟩
            exact q r x y _ _ _ _ H6 h6 (X3.same s6) (Y3.same s6) ((B3.same s6).mono (by omega)) (F13.trans (.of s6))
          · rw [show (!decide (V.int a = V.int 0)) = true by rw [decide_eq_false fun z => a0 (V.int.inj z)] <;> rfl]
            refine iteT ?_
            refine ⟨_, rfl, x, _, 1, _, rfl, rfl, SqT.of X3.at_, at1, _, rfl, x, _, 0, _, rfl, rfl, SqT.of X3.at_, at0, ?_⟩
            refine ⟨_, _, rfl, a0, lt_up X3.tb (by decide), lt_up X3.ta (by decide), fun y2 H5 s5 n5 h5 => ?_⟩
            have l5 := low_lt X3.tb X3.ta
            have Y5 : FrAt H5 y2 _ _ := ⟨h5, (low_facts _ _ a0).1, l5.1, l5.2⟩
            refine ⟨_, rfl, rfl, _, rfl, ite_iF (by omega) ?_⟩
            refine ⟨_, rfl, _, rfl, rfl, fun r H6 s6 n6 h6 => ?_⟩
            exact q r x y2 _ _ _ _ H6 h6 ((X3.same s5).same s6) (Y5.same s6) (((B3.same s5).same s6).mono (by omega)) ((F13.trans (.of s5)).trans (.of s6))
        · refine ite_iF w_2 ?_
          refine iteF ?_
          refine ⟨_, rfl, rfl, _, rfl, ?_⟩
          by_cases w_3 : way = 3
          · refine ite_iT w_3 ?_
            refine ⟨_, rfl, _, rfl, rfl, fun r H6 s6 n6 h6 => ?_⟩
            exact q r x x _ _ _ _ H6 h6 (X3.same s6) (X3.same s6) ((B3.same s6).mono (by omega)) (F13.trans (.of s6))
          · refine ite_iF w_3 ?_
            refine ⟨_, rfl, _, rfl, rfl, fun r H6 s6 n6 h6 => ?_⟩
            exact q r x y _ _ _ _ H6 h6 (X3.same s6) (Y3.same s6) ((B3.same s6).mono (by omega)) (F13.trans (.of s6))

end
end KR
namespace KR
open PySem PySem.Spec PyProof.Rows L2
section
variable {P : Program} {w : World} {K : PySem.W.Frag} {mg : Str → Option Value} {base : Heap}
theorem sub_back {a b c d : Int} (k1 : IsLow a b) (k2 : IsLow c d) : low ((low (a * d + c * b) (b * d)).1 * b - a * (low (a * d + c * b) (b * d)).2) ((low (a * d + c * b) (b * d)).2 * b) = (c, d) := by
  have b0 := k1.pos
  have d0 := k2.pos
  have z : b * d ≠ 0 := Int.ne_of_gt (Int.mul_pos b0 d0)
  obtain ⟨g1, g2⟩ := low_facts (a * d + c * b) (b * d) z
  have p2 := g1.pos
  refine low_eq (Int.ne_of_gt (Int.mul_pos p2 b0)) k2 ?_
  grind
theorem add_back {a b c d : Int} (k1 : IsLow a b) (k2 : IsLow c d) : low ((low (a * d - c * b) (b * d)).1 * d + c * (low (a * d - c * b) (b * d)).2) ((low (a * d - c * b) (b * d)).2 * d) = (a, b) := by
  have b0 := k1.pos
  have d0 := k2.pos
  have z : b * d ≠ 0 := Int.ne_of_gt (Int.mul_pos b0 d0)
  obtain ⟨g1, g2⟩ := low_facts (a * d - c * b) (b * d) z
  have p2 := g1.pos
  refine low_eq (Int.ne_of_gt (Int.mul_pos p2 d0)) k1 ?_
  grind
theorem mul_back {a b c d : Int} (k1 : IsLow a b) (k2 : IsLow c d) (c0 : c ≠ 0) : low ((low (a * d) (b * c)).1 * c) ((low (a * d) (b * c)).2 * d) = (a, b) := by
  have b0 := k1.pos
  have d0 := k2.pos
  have z : b * c ≠ 0 := Int.mul_ne_zero (Int.ne_of_gt b0) c0
  obtain ⟨g1, g2⟩ := low_facts (a * d) (b * c) z
  have p2 := g1.pos
  refine low_eq (Int.ne_of_gt (Int.mul_pos p2 d0)) k1 ?_
  grind
theorem div_back {a b c d : Int} (k1 : IsLow a b) (k2 : IsLow c d) (c0 : c ≠ 0) : low ((low (a * c) (b * d)).1 * d) ((low (a * c) (b * d)).2 * c) = (a, b) := by
  have b0 := k1.pos
  have d0 := k2.pos
  have z : b * d ≠ 0 := Int.ne_of_gt (Int.mul_pos b0 d0)
  obtain ⟨g1, g2⟩ := low_facts (a * c) (b * d) z
  have p2 := g1.pos
  refine low_eq (Int.mul_ne_zero (Int.ne_of_gt p2) c0) k1 ?_
  grind
def sp_l_right : Sp := fun vs H Q _ => ∃ (p : Addr), vs = [.ref p] ∧ BoxAt H p 0 ∧ ∀ H', Fr p H H' → Q (.bl true) H'
theorem ok_l_right (T : All K mg) : FnOk P w K mg base CX0 6 T.f_l_right T.fd_l_right ["_law_box_here"] sp_l_right := by
  refine T.d_l_right.fn.ok sc_l_right (fun vs H Q E h => ?_) (fun cdv A outer s H vs Q E hr h => ?_)
  · obtain ⟨p, rfl, _⟩ := h
    rfl
  · obtain ⟨p, rfl, hB, q⟩ := h
    refine ⟨_, (pss_cons (ps_for PassesOwn.never rfl (pi_range1 (by rfl) T.b_range (pa_cons pe_int pa_nil)) (pg_name (i := 1) sc_l_right.nd rfl (by first | exact Or.inl rfl | exact Or.inr rfl)) (pss_cons (ps_asg (pe_call (ok_l_two T) (hr.mono (by decide)) (by rfl) T.d_l_two.mg T.d_l_two.fn.kp T.d_l_two.b .nil pass0 (pa_cons (pv 0) pa_nil)) (pg_tup rfl (pgs_cons (pg_tup rfl (pgs_cons (pg_name (i := 2) sc_l_right.nd rfl (by first | exact Or.inl rfl | exact Or.inr rfl)) (pgs_cons (pg_name (i := 3) sc_l_right.nd rfl (by first | exact Or.inl rfl | exact Or.inr rfl)) pgs_nil))) (pgs_cons (pg_tup rfl (pgs_cons (pg_name (i := 4) sc_l_right.nd rfl (by first | exact Or.inl rfl | exact Or.inr rfl)) (pgs_cons (pg_name (i := 5) sc_l_right.nd rfl (by first | exact Or.inl rfl | exact Or.inr rfl)) pgs_nil))) pgs_nil))))
      (pss_cons (ps_par (i := 6) (j := 7) (by rfl) sc_l_right.nd rfl rfl (by decide) rfl rfl (pa_cons (pe_tupI (pa_cons (pv 2) (pa_cons (pv 3) pa_nil))) (pa_cons (pe_tupI (pa_cons (pv 4) (pa_cons (pv 5) pa_nil))) pa_nil)) (by rfl))
      (pss_cons (ps_set (i := 8) sc_l_right.nd rfl (by first | exact Or.inl rfl | exact Or.inr rfl) (pe_lstI (pa_cons (pe_call (ok_l_low T) (hr.mono (by decide)) (by rfl) T.d_l_low.mg T.d_l_low.fn.kp T.d_l_low.b .nil pass0 (pa_cons (pe_op op_add (pe_op op_mulX (pv 2) (pv 5)) (pe_op op_mulX (pv 4) (pv 3))) (pa_cons (pe_op op_mulX (pv 3) (pv 5)) pa_nil))) (pa_cons (pe_call (ok_l_low T) (hr.mono (by decide)) (by rfl) T.d_l_low.mg T.d_l_low.fn.kp T.d_l_low.b .nil pass0 (pa_cons (pe_op op_sub (pe_op op_mulX (pv 2) (pv 5)) (pe_op op_mulX (pv 4) (pv 3))) (pa_cons (pe_op op_mulX (pv 3) (pv 5)) pa_nil))) (pa_cons (pe_call (ok_l_low T) (hr.mono (by decide)) (by rfl) T.d_l_low.mg T.d_l_low.fn.kp T.d_l_low.b .nil pass0 (pa_cons (pe_op op_mulX (pv 2) (pv 4)) (pa_cons (pe_op op_mulX (pv 3) (pv 5)) pa_nil))) pa_nil)))))
      (pss_cons (ps_set (i := 9) sc_l_right.nd rfl (by first | exact Or.inl rfl | exact Or.inr rfl) (pe_lstI (pa_cons (pe_call (ok_p_sum_of T) (hr.mono (by decide)) (by rfl) T.d_p_sum_of.mg T.d_p_sum_of.fn.kp T.d_p_sum_of.b .nil pass0 (pa_cons (pv 6) (pa_cons (pv 7) pa_nil))) (pa_cons (pe_call (ok_p_difference T) (hr.mono (by decide)) (by rfl) T.d_p_difference.mg T.d_p_difference.fn.kp T.d_p_difference.b .nil pass0 (pa_cons (pv 6) (pa_cons (pv 7) pa_nil))) (pa_cons (pe_call (ok_p_product T) (hr.mono (by decide)) (by rfl) T.d_p_product.mg T.d_p_product.fn.kp T.d_p_product.b .nil pass0 (pa_cons (pv 6) (pa_cons (pv 7) pa_nil))) pa_nil)))))
      (pss_cons (ps_if (pt_not (pt_val (pe_call (ok_l_same T) hr (by rfl) T.d_l_same.mg T.d_l_same.fn.kp T.d_l_same.b .nil pass0 (pa_cons (pv 9) (pa_cons (pv 8) pa_nil))))) (pss_one (ps_ret pe_bl)) pss_nil)
      (pss_cons (ps_if (pt_not (pt_val (pe_call (ok_l_same T) hr (by rfl) T.d_l_same.mg T.d_l_same.fn.kp T.d_l_same.b .nil pass0 (pa_cons (pe_lstI (pa_cons (pe_call (ok_p_difference T) (hr.mono (by decide)) (by rfl) T.d_p_difference.mg T.d_p_difference.fn.kp T.d_p_difference.b .nil pass0 (pa_cons (pe_ix ix_list (pv 9) pe_int (fun _ _ => rfl)) (pa_cons (pv 6) pa_nil))) (pa_cons (pe_call (ok_p_sum_of T) (hr.mono (by decide)) (by rfl) T.d_p_sum_of.mg T.d_p_sum_of.fn.kp T.d_p_sum_of.b .nil pass0 (pa_cons (pe_ix ix_list (pv 9) pe_int (fun _ _ => rfl)) (pa_cons (pv 7) pa_nil))) pa_nil))) (pa_cons (pe_lstI (pa_cons (pv 7) (pa_cons (pv 6) pa_nil))) pa_nil))))) (pss_one (ps_ret pe_bl)) pss_nil)
      (pss_one (ps_if (pt_cmpR op_ne (pv 4) pe_int (nomark _)) (pss_cons (ps_set (i := 10) sc_l_right.nd rfl (by first | exact Or.inl rfl | exact Or.inr rfl) (pe_call (ok_p_quotient T) (hr.mono (by decide)) (by rfl) T.d_p_quotient.mg T.d_p_quotient.fn.kp T.d_p_quotient.b .nil pass0 (pa_cons (pv 6) (pa_cons (pv 7) pa_nil))))
      (pss_one (ps_if (pt_not (pt_val (pe_call (ok_l_same T) hr (by rfl) T.d_l_same.mg T.d_l_same.fn.kp T.d_l_same.b .nil pass0 (pa_cons (pe_lstI (pa_cons (pv 10) (pa_cons (pe_call (ok_p_product T) (hr.mono (by decide)) (by rfl) T.d_p_product.mg T.d_p_product.fn.kp T.d_p_product.b .nil pass0 (pa_cons (pv 10) (pa_cons (pv 7) pa_nil))) (pa_cons (pe_call (ok_p_quotient T) (hr.mono (by decide)) (by rfl) T.d_p_quotient.mg T.d_p_quotient.fn.kp T.d_p_quotient.b .nil pass0 (pa_cons (pe_ix ix_list (pv 9) pe_int (fun _ _ => rfl)) (pa_cons (pv 7) pa_nil))) pa_nil)))) (pa_cons (pe_lstI (pa_cons (pe_call (ok_l_low T) (hr.mono (by decide)) (by rfl) T.d_l_low.mg T.d_l_low.fn.kp T.d_l_low.b .nil pass0 (pa_cons (pe_op op_mulX (pv 2) (pv 5)) (pa_cons (pe_op op_mulX (pv 3) (pv 4)) pa_nil))) (pa_cons (pv 6) (pa_cons (pv 6) pa_nil)))) pa_nil))))) (pss_one (ps_ret pe_bl)) pss_nil))) pss_nil)))))))))
      (pss_one (ps_ret pe_bl))), ?_⟩
    refine ⟨10, rfl, by decide, by decide, for_range (lo := 0) (n := 10) (fun i σ H' => ∃ v1 v2 v3 v4 v5 v6 v7 v8 v9 v10 : Option V, σ = [some (.ref p), v1, v2, v3, v4, v5, v6, v7, v8, v9, v10] ∧ BoxAt H' p (20 * i) ∧ Fr p H H')
      ⟨none, none, none, none, none, none, none, none, none, none, rfl, hB, Fr.refl⟩ ?_ ?_⟩
    · rintro i σ H0 hi ⟨v1, v2, v3, v4, v5, v6, v7, v8, v9, v10, rfl, B, F⟩
      refine ⟨_, rfl, p, 20 * i, rfl, B, by omega, fun r x y a b c d H1 hr1 X1 Y1 B1 F1 => ?_⟩
      have b0 := X1.low.pos
      have d0 := Y1.low.pos
      have a9 := X1.ta
      have b9 := X1.tb
      have c9 := Y1.ta
      have d9 := Y1.tb
      have kX := X1.low
      have kY := Y1.low
      have w : ∀ i j : Int, i.natAbs < 2 ^ 200 → j.natAbs < 2 ^ 200 → IntMulOk i j := fun i j h1 h2 => mulW h1 h2 (by decide) (by decide) (by decide)
      have zbd : b * d ≠ 0 := Int.ne_of_gt (Int.mul_pos b0 d0)
      have m1 : (a * d).natAbs < 2 ^ 400 := wide_lt a9 d9
      have m2 : (c * b).natAbs < 2 ^ 400 := wide_lt c9 b9
      have m3 : (b * d).natAbs < 2 ^ 400 := wide_lt b9 d9
      have m4 : (a * c).natAbs < 2 ^ 400 := wide_lt a9 c9
      have m5 : (b * c).natAbs < 2 ^ 400 := wide_lt b9 c9
      have e900 : ∀ z : Int, z.natAbs < 2 ^ 200 → z.natAbs < 2 ^ 900 := fun z h => lt_up h (by decide)
      have f900 : ∀ z : Int, z.natAbs < 2 ^ 401 → z.natAbs < 2 ^ 900 := fun z h => lt_up h (by decide)
      refine ⟨r, _, rfl, SqT.of hr1, rfl, _, _, rfl, x, _, rfl, SqT.of X1.at_, rfl, _, _, rfl, _, _, rfl, rfl, _, _, rfl, y, _, rfl, SqT.of Y1.at_, rfl, _, _, rfl, _, _, rfl, rfl, rfl, ?_⟩
      -- the two again
      refine ⟨_, rfl, _, rfl, rfl, fun o1 H2 s2 n2 h2 => ?_⟩
      refine ⟨_, rfl, _, rfl, rfl, fun o2 H3 s3 n3 h3 => ?_⟩
      refine ⟨_, _, rfl, ?_⟩
      -- what is due
      refine ⟨_, rfl, _, rfl, _, _, rfl, rfl, w _ _ a9 d9, _, rfl, _, rfl, _, _, rfl, rfl, w _ _ c9 b9, _, _, rfl, rfl, _, rfl, _, rfl, _, _, rfl, rfl, w _ _ b9 d9, ?_⟩
      refine ⟨_, _, rfl, zbd, lt_up (add_lt m1 m2) (by decide), lt_up m3 (by decide), fun p1 H4 s4 n4 h4 => ?_⟩
      refine ⟨_, rfl, _, rfl, _, _, rfl, rfl, w _ _ a9 d9, _, rfl, _, rfl, _, _, rfl, rfl, w _ _ c9 b9, _, _, rfl, rfl, _, rfl, _, rfl, _, _, rfl, rfl, w _ _ b9 d9, ?_⟩
      refine ⟨_, _, rfl, zbd, lt_up (sub_lt m1 m2) (by decide), lt_up m3 (by decide), fun p2 H5 s5 n5 h5 => ?_⟩
      refine ⟨_, rfl, _, rfl, _, _, rfl, rfl, w _ _ a9 c9, _, rfl, _, rfl, _, _, rfl, rfl, w _ _ b9 d9, ?_⟩
      refine ⟨_, _, rfl, zbd, lt_up m4 (by decide), lt_up m3 (by decide), fun p3 H6 s6 n6 h6 => ?_⟩
      refine ⟨rfl, fun due H7 s7 n7 h7 => ?_⟩
      -- what is found
      have s27 : Same H2 H7 := s3.trans (s4.trans (s5.trans (s6.trans s7)))
      have s37 : Same H3 H7 := s4.trans (s5.trans (s6.trans s7))
      have one7 := s27 _ _ h2
      have oth7 := s37 _ _ h3
      refine ⟨_, rfl, _, rfl, o1, o2, a, b, c, d, rfl, SqT.of one7, SqT.of oth7, zbd, e900 _ a9, e900 _ b9, e900 _ c9, e900 _ d9, fun f1 H8 s8 n8 h8 => ?_⟩
      have one8 := s8 _ _ one7
      have oth8 := s8 _ _ oth7
      refine ⟨_, rfl, _, rfl, o1, o2, a, b, c, d, rfl, SqT.of one8, SqT.of oth8, zbd, e900 _ a9, e900 _ b9, e900 _ c9, e900 _ d9, fun f2 H9 s9 n9 h9 => ?_⟩
      have one9 := s9 _ _ one8
      have oth9 := s9 _ _ oth8
      refine ⟨_, rfl, _, rfl, o1, o2, a, b, c, d, rfl, SqT.of one9, SqT.of oth9, zbd, e900 _ a9, e900 _ b9, e900 _ c9, e900 _ d9, fun f3 H10 s10 n10 h10 => ?_⟩
      refine ⟨rfl, fun found H11 s11 n11 h11 => ?_⟩
      have s711 : Same H7 H11 := s8.trans (s9.trans (s10.trans s11))
      have D1 : Dt H11 3 (.ref due) (.list [.tuple [.int _, .int _], .tuple [.int _, .int _], .tuple [.int _, .int _]]) :=
        Dt.lst3 (s711 _ _ h7) (.pair (s711 _ _ (s7 _ _ (s6 _ _ (s5 _ _ h4))))) (.pair (s711 _ _ (s7 _ _ (s6 _ _ h5)))) (.pair (s711 _ _ (s7 _ _ h6)))
      have D2 : Dt H11 3 (.ref found) (.list [.tuple [.int _, .int _], .tuple [.int _, .int _], .tuple [.int _, .int _]]) :=
        Dt.lst3 h11 (.pair (s11 _ _ (s10 _ _ (s9 _ _ h8)))) (.pair (s11 _ _ (s10 _ _ h9))) (.pair (s11 _ _ h10))
      refine ⟨_, rfl, _, rfl, _, _, _, rfl, D2.up (by decide), D1.up (by decide), fun H12 s12 => ?_⟩
      refine ⟨true, rfl, iteF ?_⟩
      -- the sum less the one, the difference and the other
      have one11 := s11 _ _ (s10 _ _ one9)
      have oth11 := s11 _ _ (s10 _ _ oth9)
      have one12 := s12 _ _ one11
      have oth12 := s12 _ _ oth11
      have f1_12 := s12 _ _ (s11 _ _ (s10 _ _ (s9 _ _ h8)))
      have f2_12 := s12 _ _ (s11 _ _ (s10 _ _ h9))
      have f3_12 := s12 _ _ (s11 _ _ h10)
      have fd12 := s12 _ _ h11
      have S := low_facts (a * d + c * b) (b * d) zbd
      have Df := low_facts (a * d - c * b) (b * d) zbd
      have Pr := low_facts (a * c) (b * d) zbd
      have S9 := low_lt (add_lt m1 m2) (lt_up m3 (by decide : 400 ≤ 401))
      have D9 := low_lt (sub_lt m1 m2) (lt_up m3 (by decide : 400 ≤ 401))
      have P9 := low_lt m4 m3
      have kS := sub_back kX kY
      have kD := add_back kX kY
      have zS : (low (a * d + c * b) (b * d)).2 * b ≠ 0 := Int.ne_of_gt (Int.mul_pos S.1.pos b0)
      have zD : (low (a * d - c * b) (b * d)).2 * d ≠ 0 := Int.ne_of_gt (Int.mul_pos Df.1.pos d0)
      refine ⟨_, rfl, found, _, 0, _, rfl, rfl, SqL.of fd12, at0, _, rfl, f1, o1, _, _, a, b, rfl, SqT.of f1_12, SqT.of one12, zS, f900 _ S9.1, f900 _ S9.2, e900 _ a9, e900 _ b9, fun g1 H13 s13 n13 h13 => ?_⟩
      refine ⟨_, rfl, found, _, 1, _, rfl, rfl, SqL.of (s13 _ _ fd12), at1, _, rfl, f2, o2, _, _, c, d, rfl, SqT.of (s13 _ _ f2_12), SqT.of (s13 _ _ oth12), zD, f900 _ D9.1, f900 _ D9.2, e900 _ c9, e900 _ d9, fun g2 H14 s14 n14 h14 => ?_⟩
      refine ⟨rfl, fun l1 H15 s15 n15 h15 => ?_⟩
      refine ⟨_, rfl, _, rfl, rfl, fun l2 H16 s16 n16 h16 => ?_⟩
      rw [kS] at h13
      rw [kD] at h14
      have s1216 : Same H12 H16 := s13.trans (s14.trans (s15.trans s16))
      have D3 : Dt H16 3 (.ref l1) (.list [.tuple [.int c, .int d], .tuple [.int a, .int b]]) := Dt.lst2 (s16 _ _ h15) (.pair (s16 _ _ (s15 _ _ (s14 _ _ h13)))) (.pair (s16 _ _ (s15 _ _ h14)))
      have D4 : Dt H16 3 (.ref l2) (.list [.tuple [.int c, .int d], .tuple [.int a, .int b]]) := Dt.lst2 h16 (.pair (s1216 _ _ oth12)) (.pair (s1216 _ _ one12))
      refine ⟨_, _, _, rfl, D3.up (by decide), D4.up (by decide), fun H17 s17 => ?_⟩
      refine ⟨true, rfl, iteF ?_⟩
      have sAll : Same H1 H17 := s2.trans (s27.trans (s711.trans (s12.trans (s1216.trans s17))))
      refine ⟨_, rfl, rfl, _, rfl, ?_⟩
      by_cases c0 : c = 0
      · refine ite_nF c0 ?_
        exact ⟨_, _, _, _, _, _, _, _, _, _, rfl, (B1.same sAll).mono (by omega), (F.trans F1).trans (.of sAll)⟩
      · refine ite_nT c0 ?_
        have zbc : b * c ≠ 0 := Int.mul_ne_zero (Int.ne_of_gt b0) c0
        have Q1 := low_facts (a * d) (b * c) zbc
        have Q9 := low_lt m1 m5
        have one17 := s17 _ _ (s1216 _ _ one12)
        have oth17 := s17 _ _ (s1216 _ _ oth12)
        have fd17 := s17 _ _ (s1216 _ _ fd12)
        have f3_17 := s17 _ _ (s1216 _ _ f3_12)
        have kM := mul_back kX kY c0
        have kV := div_back kX kY c0
        have zM : (low (a * d) (b * c)).2 * d ≠ 0 := Int.ne_of_gt (Int.mul_pos Q1.1.pos d0)
        have zV : (low (a * c) (b * d)).2 * c ≠ 0 := Int.mul_ne_zero (Int.ne_of_gt Pr.1.pos) c0
        refine ⟨_, rfl, _, rfl, o1, o2, a, b, c, d, rfl, SqT.of one17, SqT.of oth17, zbc, e900 _ a9, e900 _ b9, e900 _ c9, e900 _ d9, fun by_ H18 s18 n18 h18 => ?_⟩
        have oth18 := s18 _ _ oth17
        refine ⟨_, rfl, _, rfl, _, rfl, by_, o2, _, _, c, d, rfl, SqT.of h18, SqT.of oth18, zM, lt_up Q9.1 (by decide), lt_up Q9.2 (by decide), e900 _ c9, e900 _ d9, fun g3 H19 s19 n19 h19 => ?_⟩
        refine ⟨_, rfl, found, _, 2, _, rfl, rfl, SqL.of (s19 _ _ (s18 _ _ fd17)), at2, _, rfl, f3, o2, _, _, c, d, rfl, SqT.of (s19 _ _ (s18 _ _ f3_17)), SqT.of (s19 _ _ oth18), zV, lt_up P9.1 (by decide), lt_up P9.2 (by decide), e900 _ c9, e900 _ d9, fun g4 H20 s20 n20 h20 => ?_⟩
        refine ⟨rfl, fun l3 H21 s21 n21 h21 => ?_⟩
        refine ⟨_, rfl, _, rfl, _, _, rfl, rfl, w _ _ a9 d9, _, rfl, _, rfl, _, _, rfl, rfl, w _ _ b9 c9, _, _, rfl, zbc, lt_up m1 (by decide), lt_up m5 (by decide), fun g5 H22 s22 n22 h22 => ?_⟩
        refine ⟨_, rfl, _, rfl, rfl, fun l4 H23 s23 n23 h23 => ?_⟩
        rw [kM] at h19
        rw [kV] at h20
        have s1823 : Same H18 H23 := s19.trans (s20.trans (s21.trans (s22.trans s23)))
        have D5 : Dt H23 3 (.ref l3) (.list [.tuple [.int _, .int _], .tuple [.int a, .int b], .tuple [.int a, .int b]]) :=
          Dt.lst3 (s23 _ _ (s22 _ _ h21)) (.pair (s1823 _ _ h18)) (.pair (s23 _ _ (s22 _ _ (s21 _ _ (s20 _ _ h19))))) (.pair (s23 _ _ (s22 _ _ (s21 _ _ h20))))
        have D6 : Dt H23 3 (.ref l4) (.list [.tuple [.int _, .int _], .tuple [.int a, .int b], .tuple [.int a, .int b]]) :=
          Dt.lst3 h23 (.pair (s23 _ _ h22)) (.pair (s1823 _ _ (s18 _ _ one17))) (.pair (s1823 _ _ (s18 _ _ one17)))
        refine ⟨_, _, _, rfl, D5.up (by decide), D6.up (by decide), fun H24 s24 => ?_⟩
        refine ⟨true, rfl, iteF ?_⟩
        have sEnd : Same H1 H24 := sAll.trans (s18.trans (s1823.trans s24))
        exact ⟨_, _, _, _, _, _, _, _, _, _, rfl, (B1.same sEnd).mono (by omega), (F.trans F1).trans (.of sEnd)⟩
    · rintro σ H0 ⟨v1, v2, v3, v4, v5, v6, v7, v8, v9, v10, rfl, B, F⟩
      exact q H0 F

end
end KR
namespace KR
open PySem PySem.Spec PyProof.Rows L2
section
variable {P : Program} {w : World} {K : PySem.W.Frag} {mg : Str → Option Value} {base : Heap}
def sp_p_law (K : PySem.W.Frag) : Sp := fun vs H Q _ => ∃ (a : Addr) (ns : List Int), vs = [.ref a] ∧ SqL K H a (ns.map V.int) ∧ ns.length ≤ 63 ∧ ∀ H', Q (.bl true) H'
theorem ok_p_law (T : All K mg) : FnOk P w K mg base CX0 7 T.f_p_law T.fd_p_law ["_law_script"] (sp_p_law K) := by
  refine T.d_p_law.fn.ok sc_p_law (fun vs H Q E h => ?_) (fun cdv A outer s H vs Q E hr h => ?_)
  · obtain ⟨a, ns, rfl, _⟩ := h
    rfl
  · obtain ⟨a, ns, rfl, hS, hlen, q⟩ := h
    refine ⟨_, (pss_one (ps_ret (pe_callB (cr_all rfl) (by rfl) T.b_all (by decide +kernel) (pa_cons (pe_lc (own := [("_law_k", 1)]) (g := gName 1) (tt := tYes) (by rfl) sc_p_law.nd (pi_range1 (by rfl) T.b_range (pa_cons (pe_op op_add pe_int (pe_callB (call_min2 rfl) (by rfl) T.b_min (by decide +kernel) (pa_cons pe_int (pa_cons (pe_callB call_len_seq (by rfl) T.b_len PySem.boot_len (pa_cons (pv 0) pa_nil)) pa_nil)))) pa_nil)) (blkOk_by (own := [("_law_k", 1)]) (N := ["_law_script", "_law_k"]) (sc := defScope s_p_law) (by decide +kernel)) (fun _ _ _ _ _ => (pg_name (i := 1) sc_p_law.nd rfl (by first | exact Or.inl rfl | exact Or.inr rfl))) (fun _ _ _ _ _ => pts_nil) (fun _ _ _ _ _ => (pe_call (ok_l_right T) hr (by rfl) T.d_l_right.mg T.d_l_right.fn.kp T.d_l_right.b .nil pass0 (pa_cons (pe_call (ok_l_box T) (hr.mono (by decide)) (by rfl) T.d_l_box.mg T.d_l_box.fn.kp T.d_l_box.b .nil pass0 (pa_cons (pv 0) (pa_cons (pv 1) pa_nil))) pa_nil)))) pa_nil)))), ?_⟩
    refine ⟨_, rfl, a, _, rfl, .inl hS, _, _, rfl, _, _, rfl, rfl, _, rfl, ?_⟩
    rw [List.length_map]
    obtain ⟨m, em, m1, m2⟩ : ∃ m : Nat, (1 + (if (ns.length : Int) < 6 then (ns.length : Int) else 6)) = (m : Int) ∧ 1 ≤ m ∧ m ≤ 64 := by
      refine ⟨(1 + (if (ns.length : Int) < 6 then (ns.length : Int) else 6)).toNat, ?_, ?_, ?_⟩ <;> split <;> omega
    dsimp only
    rw [em]
    refine ⟨by omega, by omega, fun D hD => ?_⟩
    refine lc_range (lo := 0) (n := m) (fun i H' => Same H H' ∧ H' D = some (.lst (List.replicate i (.bl true)))) ⟨same_new hD, upd_same⟩ (fun i H1 hi z => ?_) (fun H1 z => ?_)
    · obtain ⟨sm, hd⟩ := z
      refine ⟨rfl, yesT ?_⟩
      refine ⟨_, rfl, _, rfl, a, ns, _, rfl, sm.seq hS, by omega, by omega, fun p H2 s2 n2 B2 => ?_⟩
      refine ⟨p, rfl, B2, fun H3 F3 => ?_⟩
      have hd2 := s2 _ _ hd
      have dp : D ≠ p := ne_of_none hd n2
      have s3 : Same H1 H3 := fun b o e => F3 b o (ne_of_none e n2) (s2 b o e)
      have hd3 := s3 _ _ hd
      refine ⟨_, hd3, by rw [List.length_replicate]; exact small' (by omega), Same.put (sm.trans s3) hD, ?_⟩
      rw [upd_same, List.replicate_succ'] <;> rfl
    · obtain ⟨sm, hd⟩ := z
      obtain ⟨t1, t2⟩ := all_true m
      refine ⟨D, List.replicate m true, rfl, SqL.of (by rw [t1]; exact hd), ?_⟩
      rw [t2]
      exact q H1

end
end KR
namespace KR
open PySem PySem.Spec PyProof.Rows L2
theorem all_mk {l : PySem.W.OpenLaw} {w : World} {K : PySem.W.Frag} {h : Heap} {mg : Str → Option Value} {fa : Addr} (X : K.In h) (G : h.Ns mainGlobals mg) (hfa : mg "law" = some (.ref fa))
    {od0 an0 : Option Addr} {sl0 : Array (Option Value)} {oc0 kV0 dc0 pm0 cd0 ct0 : Value} {f0 : Addr}
    (a0 : PySem.W.nsIn K mainGlobals "frac_of" = some (some (.ref f0))) (l0 : K.lookup f0 = some ⟨oc0, od0, .func (PySem.W.fnOf "frac_of" "frac_of" (defArgs s_p_frac_of) (defBody s_p_frac_of) (defScope s_p_frac_of) .none kV0 dc0 pm0 an0 cd0 ct0), sl0⟩) (c0 : PySem.W.codeIn K cd0 "frac_of" = true) (k0 : PySem.W.keepIn K (.ref f0) = true)
    {od1 an1 : Option Addr} {sl1 : Array (Option Value)} {oc1 kV1 dc1 pm1 cd1 ct1 : Value} {f1 : Addr}
    (a1 : PySem.W.nsIn K mainGlobals "sum_of" = some (some (.ref f1))) (l1 : K.lookup f1 = some ⟨oc1, od1, .func (PySem.W.fnOf "sum_of" "sum_of" (defArgs s_p_sum_of) (defBody s_p_sum_of) (defScope s_p_sum_of) .none kV1 dc1 pm1 an1 cd1 ct1), sl1⟩) (c1 : PySem.W.codeIn K cd1 "sum_of" = true) (k1 : PySem.W.keepIn K (.ref f1) = true)
    {od2 an2 : Option Addr} {sl2 : Array (Option Value)} {oc2 kV2 dc2 pm2 cd2 ct2 : Value} {f2 : Addr}
    (a2 : PySem.W.nsIn K mainGlobals "difference" = some (some (.ref f2))) (l2 : K.lookup f2 = some ⟨oc2, od2, .func (PySem.W.fnOf "difference" "difference" (defArgs s_p_difference) (defBody s_p_difference) (defScope s_p_difference) .none kV2 dc2 pm2 an2 cd2 ct2), sl2⟩) (c2 : PySem.W.codeIn K cd2 "difference" = true) (k2 : PySem.W.keepIn K (.ref f2) = true)
    {od3 an3 : Option Addr} {sl3 : Array (Option Value)} {oc3 kV3 dc3 pm3 cd3 ct3 : Value} {f3 : Addr}
    (a3 : PySem.W.nsIn K mainGlobals "product" = some (some (.ref f3))) (l3 : K.lookup f3 = some ⟨oc3, od3, .func (PySem.W.fnOf "product" "product" (defArgs s_p_product) (defBody s_p_product) (defScope s_p_product) .none kV3 dc3 pm3 an3 cd3 ct3), sl3⟩) (c3 : PySem.W.codeIn K cd3 "product" = true) (k3 : PySem.W.keepIn K (.ref f3) = true)
    {od4 an4 : Option Addr} {sl4 : Array (Option Value)} {oc4 kV4 dc4 pm4 cd4 ct4 : Value} {f4 : Addr}
    (a4 : PySem.W.nsIn K mainGlobals "quotient" = some (some (.ref f4))) (l4 : K.lookup f4 = some ⟨oc4, od4, .func (PySem.W.fnOf "quotient" "quotient" (defArgs s_p_quotient) (defBody s_p_quotient) (defScope s_p_quotient) .none kV4 dc4 pm4 an4 cd4 ct4), sl4⟩) (c4 : PySem.W.codeIn K cd4 "quotient" = true) (k4 : PySem.W.keepIn K (.ref f4) = true)
    {od5 an5 : Option Addr} {sl5 : Array (Option Value)} {oc5 kV5 dc5 pm5 cd5 ct5 : Value} {f5 : Addr}
    (a5 : PySem.W.nsIn K mainGlobals "_law_cell_at" = some (some (.ref f5))) (l5 : K.lookup f5 = some ⟨oc5, od5, .func (PySem.W.fnOf "_law_cell_at" "_law_cell_at" (defArgs s_l_cell_at) (defBody s_l_cell_at) (defScope s_l_cell_at) .none kV5 dc5 pm5 an5 cd5 ct5), sl5⟩) (c5 : PySem.W.codeIn K cd5 "_law_cell_at" = true) (k5 : PySem.W.keepIn K (.ref f5) = true)
    {od6 an6 : Option Addr} {sl6 : Array (Option Value)} {oc6 kV6 dc6 pm6 cd6 ct6 : Value} {f6 : Addr}
    (a6 : PySem.W.nsIn K mainGlobals "_law_box" = some (some (.ref f6))) (l6 : K.lookup f6 = some ⟨oc6, od6, .func (PySem.W.fnOf "_law_box" "_law_box" (defArgs s_l_box) (defBody s_l_box) (defScope s_l_box) .none kV6 dc6 pm6 an6 cd6 ct6), sl6⟩) (c6 : PySem.W.codeIn K cd6 "_law_box" = true) (k6 : PySem.W.keepIn K (.ref f6) = true)
    {od7 an7 : Option Addr} {sl7 : Array (Option Value)} {oc7 kV7 dc7 pm7 cd7 ct7 : Value} {f7 : Addr}
    (a7 : PySem.W.nsIn K mainGlobals "_law_take" = some (some (.ref f7))) (l7 : K.lookup f7 = some ⟨oc7, od7, .func (PySem.W.fnOf "_law_take" "_law_take" (defArgs s_l_take) (defBody s_l_take) (defScope s_l_take) .none kV7 dc7 pm7 an7 cd7 ct7), sl7⟩) (c7 : PySem.W.codeIn K cd7 "_law_take" = true) (k7 : PySem.W.keepIn K (.ref f7) = true)
    {od8 an8 : Option Addr} {sl8 : Array (Option Value)} {oc8 kV8 dc8 pm8 cd8 ct8 : Value} {f8 : Addr}
    (a8 : PySem.W.nsIn K mainGlobals "_law_low" = some (some (.ref f8))) (l8 : K.lookup f8 = some ⟨oc8, od8, .func (PySem.W.fnOf "_law_low" "_law_low" (defArgs s_l_low) (defBody s_l_low) (defScope s_l_low) .none kV8 dc8 pm8 an8 cd8 ct8), sl8⟩) (c8 : PySem.W.codeIn K cd8 "_law_low" = true) (k8 : PySem.W.keepIn K (.ref f8) = true)
    {od9 an9 : Option Addr} {sl9 : Array (Option Value)} {oc9 kV9 dc9 pm9 cd9 ct9 : Value} {f9 : Addr}
    (a9 : PySem.W.nsIn K mainGlobals "_law_frac" = some (some (.ref f9))) (l9 : K.lookup f9 = some ⟨oc9, od9, .func (PySem.W.fnOf "_law_frac" "_law_frac" (defArgs s_l_frac) (defBody s_l_frac) (defScope s_l_frac) .none kV9 dc9 pm9 an9 cd9 ct9), sl9⟩) (c9 : PySem.W.codeIn K cd9 "_law_frac" = true) (k9 : PySem.W.keepIn K (.ref f9) = true)
    {od10 an10 : Option Addr} {sl10 : Array (Option Value)} {oc10 kV10 dc10 pm10 cd10 ct10 : Value} {f10 : Addr}
    (a10 : PySem.W.nsIn K mainGlobals "_law_same" = some (some (.ref f10))) (l10 : K.lookup f10 = some ⟨oc10, od10, .func (PySem.W.fnOf "_law_same" "_law_same" (defArgs s_l_same) (defBody s_l_same) (defScope s_l_same) .none kV10 dc10 pm10 an10 cd10 ct10), sl10⟩) (c10 : PySem.W.codeIn K cd10 "_law_same" = true) (k10 : PySem.W.keepIn K (.ref f10) = true)
    {od11 an11 : Option Addr} {sl11 : Array (Option Value)} {oc11 kV11 dc11 pm11 cd11 ct11 : Value} {f11 : Addr}
    (a11 : PySem.W.nsIn K mainGlobals "_law_two" = some (some (.ref f11))) (l11 : K.lookup f11 = some ⟨oc11, od11, .func (PySem.W.fnOf "_law_two" "_law_two" (defArgs s_l_two) (defBody s_l_two) (defScope s_l_two) .none kV11 dc11 pm11 an11 cd11 ct11), sl11⟩) (c11 : PySem.W.codeIn K cd11 "_law_two" = true) (k11 : PySem.W.keepIn K (.ref f11) = true)
    {od12 an12 : Option Addr} {sl12 : Array (Option Value)} {oc12 kV12 dc12 pm12 cd12 ct12 : Value} {f12 : Addr}
    (a12 : PySem.W.nsIn K mainGlobals "_law_right" = some (some (.ref f12))) (l12 : K.lookup f12 = some ⟨oc12, od12, .func (PySem.W.fnOf "_law_right" "_law_right" (defArgs s_l_right) (defBody s_l_right) (defScope s_l_right) .none kV12 dc12 pm12 an12 cd12 ct12), sl12⟩) (c12 : PySem.W.codeIn K cd12 "_law_right" = true) (k12 : PySem.W.keepIn K (.ref f12) = true)
    {od13 an13 : Option Addr} {sl13 : Array (Option Value)} {oc13 kV13 dc13 pm13 cd13 ct13 : Value} {f13 : Addr}
    (a13 : PySem.W.nsIn K mainGlobals "law" = some (some (.ref f13))) (l13 : K.lookup f13 = some ⟨oc13, od13, .func (PySem.W.fnOf "law" "law" (defArgs s_p_law) (defBody s_p_law) (defScope s_p_law) .none kV13 dc13 pm13 an13 cd13 ct13), sl13⟩) (c13 : PySem.W.codeIn K cd13 "law" = true) (k13 : PySem.W.keepIn K (.ref f13) = true)
    (z_abs : PySem.W.nsIn K mainGlobals "abs" = some none)
    (z_all : PySem.W.nsIn K mainGlobals "all" = some none)
    (z_bool : PySem.W.nsIn K mainGlobals "bool" = some none)
    (z_int : PySem.W.nsIn K mainGlobals "int" = some none)
    (z_isinstance : PySem.W.nsIn K mainGlobals "isinstance" = some none)
    (z_len : PySem.W.nsIn K mainGlobals "len" = some none)
    (z_list : PySem.W.nsIn K mainGlobals "list" = some none)
    (z_min : PySem.W.nsIn K mainGlobals "min" = some none)
    (z_range : PySem.W.nsIn K mainGlobals "range" = some none)
    (z_tuple : PySem.W.nsIn K mainGlobals "tuple" = some none)
    (z_zip : PySem.W.nsIn K mainGlobals "zip" = some none)
    (z_gcd : PySem.W.nsIn K mainGlobals "gcd" = some (some (.builtin "math.gcd")))
    : ∃ fd : FuncData, (∀ (s : Shared) (v : Value), BindsTo s fd ⟨[v], []⟩ [("_law_script", v)]) ∧ ∀ base : Heap, K.In base → base.Ns mainGlobals mg → FnOk l.prog w K mg base CX0 7 fa fd ["_law_script"] (sp_p_law K) := by
  have e := hfa.symm.trans (PySem.W.mg_of X G a13)
  cases e
  have F0 := fun_mk (st := s_p_frac_of) l0 c0 k0
  have F1 := fun_mk (st := s_p_sum_of) l1 c1 k1
  have F2 := fun_mk (st := s_p_difference) l2 c2 k2
  have F3 := fun_mk (st := s_p_product) l3 c3 k3
  have F4 := fun_mk (st := s_p_quotient) l4 c4 k4
  have F5 := fun_mk (st := s_l_cell_at) l5 c5 k5
  have F6 := fun_mk (st := s_l_box) l6 c6 k6
  have F7 := fun_mk (st := s_l_take) l7 c7 k7
  have F8 := fun_mk (st := s_l_low) l8 c8 k8
  have F9 := fun_mk (st := s_l_frac) l9 c9 k9
  have F10 := fun_mk (st := s_l_same) l10 c10 k10
  have F11 := fun_mk (st := s_l_two) l11 c11 k11
  have F12 := fun_mk (st := s_l_right) l12 c12 k12
  have F13 := fun_mk (st := s_p_law) l13 c13 k13
  let T : All K mg := ⟨_, _, ⟨F0, PySem.W.mg_of X G a0, F0.binds (ps := ["top", "bottom"]) fun _ _ _ _ _ _ us hl => match us, hl with | [_, _], _ => rfl⟩, _, _, ⟨F1, PySem.W.mg_of X G a1, F1.binds (ps := ["one", "other"]) fun _ _ _ _ _ _ us hl => match us, hl with | [_, _], _ => rfl⟩, _, _, ⟨F2, PySem.W.mg_of X G a2, F2.binds (ps := ["one", "other"]) fun _ _ _ _ _ _ us hl => match us, hl with | [_, _], _ => rfl⟩, _, _, ⟨F3, PySem.W.mg_of X G a3, F3.binds (ps := ["one", "other"]) fun _ _ _ _ _ _ us hl => match us, hl with | [_, _], _ => rfl⟩, _, _, ⟨F4, PySem.W.mg_of X G a4, F4.binds (ps := ["one", "other"]) fun _ _ _ _ _ _ us hl => match us, hl with | [_, _], _ => rfl⟩, _, _, ⟨F5, PySem.W.mg_of X G a5, F5.binds (ps := ["_law_script", "_law_k"]) fun _ _ _ _ _ _ us hl => match us, hl with | [_, _], _ => rfl⟩, _, _, ⟨F6, PySem.W.mg_of X G a6, F6.binds (ps := ["_law_script", "_law_k"]) fun _ _ _ _ _ _ us hl => match us, hl with | [_, _], _ => rfl⟩, _, _, ⟨F7, PySem.W.mg_of X G a7, F7.binds (ps := ["_law_box_here", "_law_many"]) fun _ _ _ _ _ _ us hl => match us, hl with | [_, _], _ => rfl⟩, _, _, ⟨F8, PySem.W.mg_of X G a8, F8.binds (ps := ["_law_top", "_law_bottom"]) fun _ _ _ _ _ _ us hl => match us, hl with | [_, _], _ => rfl⟩, _, _, ⟨F9, PySem.W.mg_of X G a9, F9.binds (ps := ["_law_box_here", "_law_below"]) fun _ _ _ _ _ _ us hl => match us, hl with | [_, _], _ => rfl⟩, _, _, ⟨F10, PySem.W.mg_of X G a10, F10.binds (ps := ["_law_found", "_law_due"]) fun _ _ _ _ _ _ us hl => match us, hl with | [_, _], _ => rfl⟩, _, _, ⟨F11, PySem.W.mg_of X G a11, F11.binds (ps := ["_law_box_here"]) fun _ _ _ _ _ _ us hl => match us, hl with | [_], _ => rfl⟩, _, _, ⟨F12, PySem.W.mg_of X G a12, F12.binds (ps := ["_law_box_here"]) fun _ _ _ _ _ _ us hl => match us, hl with | [_], _ => rfl⟩, _, _, ⟨F13, PySem.W.mg_of X G a13, F13.binds (ps := ["_law_script"]) fun _ _ _ _ _ _ us hl => match us, hl with | [_], _ => rfl⟩, PySem.W.mg_none_of X G z_abs, PySem.W.mg_none_of X G z_all, PySem.W.mg_none_of X G z_bool, PySem.W.mg_none_of X G z_int, PySem.W.mg_none_of X G z_isinstance, PySem.W.mg_none_of X G z_len, PySem.W.mg_none_of X G z_list, PySem.W.mg_none_of X G z_min, PySem.W.mg_none_of X G z_range, PySem.W.mg_none_of X G z_tuple, PySem.W.mg_none_of X G z_zip, PySem.W.mg_of X G z_gcd⟩
  exact ⟨T.fd_p_law, fun s v => .of_eq rfl, fun base _ _ => ok_p_law T⟩
end KR
open PySem PySem.W PyProof.Rows
set_option maxRecDepth 100000 in
set_option maxHeartbeats 0 in
theorem PySem.Challenge.cw_kettlerow_k02_fractions_reckoned_holds : PySem.Challenge.rw_kettlerow_k02_fractions_reckoned.Holds := by
  w_on; o_law; k_head; (case hw => w_witness2)
  k_fill
  refine L2.walk_of (l := PySem.Challenge.rw_kettlerow_k02_fractions_reckoned) (n := 63) (k := 7) (x := "_law_script") (CX := fun _ => L2.CX0) (sp := fun w => KR.sp_p_law _) rfl (by decide) rfl ⟨rfl, by decide, by decide⟩ (fun w h Y => PySem.W.kIn_of Y) ?F (fun _ _ a ns hl _ hS => ⟨a, ns, rfl, hS, hl, fun _ => rfl⟩) (fun _ _ _ _ _ h => h)
  case F =>
    intro w mg fa h KX G hmg
    refine' KR.all_mk KX G hmg ?a0 ?l0 ?c0 ?k0 ?a1 ?l1 ?c1 ?k1 ?a2 ?l2 ?c2 ?k2 ?a3 ?l3 ?c3 ?k3 ?a4 ?l4 ?c4 ?k4 ?a5 ?l5 ?c5 ?k5 ?a6 ?l6 ?c6 ?k6 ?a7 ?l7 ?c7 ?k7 ?a8 ?l8 ?c8 ?k8 ?a9 ?l9 ?c9 ?k9 ?a10 ?l10 ?c10 ?k10 ?a11 ?l11 ?c11 ?k11 ?a12 ?l12 ?c12 ?k12 ?a13 ?l13 ?c13 ?k13 ?z_abs ?z_all ?z_bool ?z_int ?z_isinstance ?z_len ?z_list ?z_min ?z_range ?z_tuple ?z_zip ?z_gcd
    (case a0 => k_is)
    (case l0 => k_is)
    (case c0 => k_is)
    (case k0 => k_is)
    (case a1 => k_is)
    (case l1 => k_is)
    (case c1 => k_is)
    (case k1 => k_is)
    (case a2 => k_is)
    (case l2 => k_is)
    (case c2 => k_is)
    (case k2 => k_is)
    (case a3 => k_is)
    (case l3 => k_is)
    (case c3 => k_is)
    (case k3 => k_is)
    (case a4 => k_is)
    (case l4 => k_is)
    (case c4 => k_is)
    (case k4 => k_is)
    (case a5 => k_is)
    (case l5 => k_is)
    (case c5 => k_is)
    (case k5 => k_is)
    (case a6 => k_is)
    (case l6 => k_is)
    (case c6 => k_is)
    (case k6 => k_is)
    (case a7 => k_is)
    (case l7 => k_is)
    (case c7 => k_is)
    (case k7 => k_is)
    (case a8 => k_is)
    (case l8 => k_is)
    (case c8 => k_is)
    (case k8 => k_is)
    (case a9 => k_is)
    (case l9 => k_is)
    (case c9 => k_is)
    (case k9 => k_is)
    (case a10 => k_is)
    (case l10 => k_is)
    (case c10 => k_is)
    (case k10 => k_is)
    (case a11 => k_is)
    (case l11 => k_is)
    (case c11 => k_is)
    (case k11 => k_is)
    (case a12 => k_is)
    (case l12 => k_is)
    (case c12 => k_is)
    (case k12 => k_is)
    (case a13 => k_is)
    (case l13 => k_is)
    (case c13 => k_is)
    (case k13 => k_is)
    (case z_abs => k_is)
    (case z_all => k_is)
    (case z_bool => k_is)
    (case z_int => k_is)
    (case z_isinstance => k_is)
    (case z_len => k_is)
    (case z_list => k_is)
    (case z_min => k_is)
    (case z_range => k_is)
    (case z_tuple => k_is)
    (case z_zip => k_is)
    (case z_gcd => k_is)
#print axioms PySem.Challenge.cw_kettlerow_k02_fractions_reckoned_holds
