import PyProof.Rows.All
import Wide.All
import OpenK.AllK
import Wide.FinOn
import HandS.ForMost
import HandS.Gcd
import HandS.Wide
import HandS.IsInst
import HandS.Zip
import HandS.More
import HandS.Style
import HandS.Rev
import HandS.MapJoin
import HandS.StrMore
import KE.KNest
import HandS.AnyAll
import HandS.EndTab
import HandS.GenOver
import KE.GoesEnum
import KE.GoesMore
import KE.GoesZip
import HandS.Walk
import HandS.Flt
import HandS.Dict
import HandS.TupAny
import HandS.RevRange
import HandS.Conv
import HandS.Small
import HandS.List
import PyProof.Rows.IntBool
import PySem.Challenge.RW_kettlerow_k61_plans_shown
set_option Elab.async false
set_option linter.all false
set_option maxRecDepth 100000
set_option maxHeartbeats 4000000
/-! ### own rules and words, of no law -/
namespace KR
open PySem PySem.Spec PyProof.Rows L2

/-- * of any two ints whose product is told to fit -/
theorem op_mulX {X : Cx} : OpR X (binaryOp .Mult) (rI IntMulOk fun i j => .int (i * j)) := opI fun _ _ _ _ _ _ _ hc q => mul_int q hc
/-- // by any divisor but 0, to some three thousand figures -/
def DivOk (_ j : Int) : Prop := j ≠ 0 ∧ j.natAbs.log2 < 9000
theorem op_fdivX {X : Cx} : OpR X (binaryOp .FloorDiv) (rI DivOk fun i j => .int (i.fdiv j)) := opI fun _ _ _ _ _ _ _ hc q => floordiv_int hc.1 q (.inl (PyProof.noPylong_of_log2 hc.2))
theorem mulL {i j : Int} (h : i.natAbs < 2 ^ 64) : IntMulOk i j := CMul.ok (.inl ⟨by omega, by omega⟩)
theorem mulR {i j : Int} (h : j.natAbs < 2 ^ 64) : IntMulOk i j := CMul.ok (.inr ⟨by omega, by omega⟩)
theorem mulW {i j : Int} {a b : Nat} (ha : i.natAbs < 2 ^ a) (hb : j.natAbs < 2 ^ b) (h0 : 0 < a) (h1 : 0 < b) (h : a + b ≤ 1000000) : IntMulOk i j := (wide_mul ha hb h0 h1 h).ok
theorem divOk {i j : Int} {b : Nat} (h : j ≠ 0) (hb : j.natAbs < 2 ^ b) (h0 : 0 < b) (h9 : b ≤ 9000) : DivOk i j := ⟨h, Nat.lt_of_lt_of_le (PySem.Flt.log2_lt_of h0 hb) h9⟩
theorem add_lt {i j : Int} {a : Nat} (ha : i.natAbs < 2 ^ a) (hb : j.natAbs < 2 ^ a) : (i + j).natAbs < 2 ^ (a + 1) := by
  rw [Nat.pow_succ]
  omega
theorem sub_lt {i j : Int} {a : Nat} (ha : i.natAbs < 2 ^ a) (hb : j.natAbs < 2 ^ a) : (i - j).natAbs < 2 ^ (a + 1) := by
  rw [Nat.pow_succ]
  omega
theorem lt_up {i : Int} {a b : Nat} (ha : i.natAbs < 2 ^ a) (h : a ≤ b) : i.natAbs < 2 ^ b := Nat.lt_of_lt_of_le ha (Nat.pow_le_pow_right (by decide) h)
theorem b40 {n : Nat} (h : n < 10 ^ 40) : n < 2 ^ 200 := Nat.lt_trans h (by decide)
theorem b41 {n : Nat} (h : n ≤ 10 ^ 41) : n < 2 ^ 200 := Nat.lt_of_le_of_lt h (by decide)
theorem bit_lt {c : Prop} [Decidable c] : (if c then (1 : Int) else 0).natAbs < 2 ^ 64 := by split <;> decide
theorem bit_nn {c : Prop} [Decidable c] : (0 : Int) ≤ (if c then (1 : Int) else 0) := by split <;> decide
theorem bit_or {c : Prop} [Decidable c] : (if c then (1 : Int) else 0) = 0 ∨ (if c then (1 : Int) else 0) = 1 := by split <;> simp
theorem small {n : Nat} (h : n ≤ 100000) : n ≤ sizeLine := Nat.le_trans h (by decide)
theorem small' {n : Nat} (h : n < 100000) : n < sizeLine := Nat.lt_of_lt_of_le h (by decide)

/-! the heap but for one object that is written -/
/-- all that was tracked but p is as it was -/
def Fr (p : Addr) (H H' : Hp) : Prop := ∀ b o, b ≠ p → H b = some o → H' b = some o
theorem Fr.refl {p : Addr} {H : Hp} : Fr p H H := fun _ _ _ h => h
theorem Fr.trans {p : Addr} {H H1 H2 : Hp} (a : Fr p H H1) (b : Fr p H1 H2) : Fr p H H2 := fun c o n h => b c o n (a c o n h)
theorem Fr.of {p : Addr} {H H1 : Hp} (a : Same H H1) : Fr p H H1 := fun c o _ h => a c o h
theorem same_new {H : Hp} {p : Addr} {o : HO} (h : H p = none) : Same H (upd H p o) := fun b x e => by
  rw [upd_ne (ne_of_none e h)]
  exact e
theorem Fr.new {p q : Addr} {H H1 : Hp} {o : HO} (a : Fr p H H1) (h : H1 q = none) : Fr p H (upd H1 q o) := a.trans (.of (same_new h))
theorem Fr.put {p : Addr} {H H1 : Hp} {o : HO} (a : Fr p H H1) : Fr p H (upd H1 p o) := fun c x n h => by
  rw [upd_ne n]
  exact a c x n h
theorem Fr.put' {p q : Addr} {H H1 : Hp} {o : HO} (a : Fr p H H1) (h : H q = none) : Fr p H (upd H1 q o) := fun c x n e => by
  rw [upd_ne (ne_of_none e h)]
  exact a c x n e
/-- what is new there was new ahead of it, if the written one stands -/
theorem Fr.free {p q : Addr} {H H1 : Hp} {o : HO} (a : Fr p H H1) (hp : H1 p = some o) (h : H1 q = none) : H q = none := by
  cases e : H q with
  | none => rfl
  | some u =>
    have n : q ≠ p := fun z => by
      rw [z, hp] at h
      cases h
    rw [a q u n e] at h
    cases h

/-! a reading may be asked for more than is wanted; displays whose new heap is a letter -/
def clA (t : TA) : TA := fun σ H Q => ∃ Q0 : List V → Hp → Prop, (∀ xs H1, Q0 xs H1 → Q xs H1) ∧ t σ H Q0
theorem pa_cl {X : Cx} {es : List Expr} {t : TA} (h : PA X es t) : PA X es (clA t) := ⟨fun pos pins s σ H Q I ⟨Q0, m, q⟩ =>
  thn (h.run pos pins s σ H Q0 I q) fun us s1 ⟨xs, H1, I1, r, z⟩ => ⟨xs, H1, I1, r, m _ _ z⟩⟩
def tTupI (t : TA) : TE := fun σ H Q => t σ H fun xs H1 => Nat.ble xs.length 100000 = true ∧ ∀ p H', Same H1 H' → H1 p = none → H' p = some (.tup xs) → Q (.ref p) H'
def tLstI (t : TA) : TE := fun σ H Q => t σ H fun xs H1 => Nat.ble xs.length 100000 = true ∧ ∀ p H', Same H1 H' → H1 p = none → H' p = some (.lst xs) → Q (.ref p) H'
theorem pe_tupI {X : Cx} {es : List Expr} {k : Nat} {pos : Pos} {t : TA} (h : PA X es t) : PE X (.Tuple es k pos) (tTupI t) := ⟨fun pins s σ H Q I q =>
  (pe_tup (pa_cl h)).run pins s σ H Q I ⟨_, fun _ _ ⟨z, w⟩ => ⟨small (Nat.le_of_ble_eq_true z), fun p hp => w p _ (same_new hp) hp upd_same⟩, q⟩⟩
theorem pe_lstI {X : Cx} {es : List Expr} {pos : Pos} {t : TA} (h : PA X es t) : PE X (.List es pos) (tLstI t) := ⟨fun pins s σ H Q I q =>
  (pe_lst (pa_cl h)).run pins s σ H Q I ⟨_, fun _ _ ⟨z, w⟩ => ⟨small (Nat.le_of_ble_eq_true z), fun p hp => w p _ (same_new hp) hp upd_same⟩, q⟩⟩
/-- ways that join behind a statement: R is what they come to -/
def tJ (t : TS) : TS := fun D σ H => ∃ R : L2.St → Hp → Prop, (∀ σ' H', R σ' H' → D.nx σ' H') ∧ t { D with nx := R } σ H
theorem ps_J {X : Cx} {st : Stmt} {t : TS} (h : PS X st t) : PS X st (tJ t) := ⟨fun pins s σ H D I ⟨R, m, q⟩ => thn (h.run pins s σ H { D with nx := R } I q) fun f s1 z =>
  match f, z with
  | .next, ⟨σ', H', J, r⟩ => ⟨σ', H', J, m _ _ r⟩
  | .ret _, z => z
  | .brk, z => z
  | .cont, z => z⟩
theorem ite_bT {b : Bool} {A B : Prop} (h : b = true) (q : A) : if b = true then A else B := by
  rw [if_pos h]
  exact q
theorem ite_bF {b : Bool} {A B : Prop} (h : b = false) (q : B) : if b = true then A else B := by
  rw [if_neg (by rw [h]; exact Bool.false_ne_true)]
  exact q
theorem ite_iT {i j : Int} {A B : Prop} (h : i = j) (q : A) : if decide (V.int i = V.int j) = true then A else B := by
  rw [if_pos (decide_eq_true (congrArg V.int h))]
  exact q
theorem ite_iF {i j : Int} {A B : Prop} (h : i ≠ j) (q : B) : if decide (V.int i = V.int j) = true then A else B := by
  rw [if_neg (by rw [decide_eq_false fun z => h (V.int.inj z)]; exact Bool.false_ne_true)]
  exact q
theorem ite_nT {i j : Int} {A B : Prop} (h : i ≠ j) (q : A) : if (!decide (V.int i = V.int j)) = true then A else B := by
  rw [if_pos (by rw [decide_eq_false fun z => h (V.int.inj z)] <;> rfl)]
  exact q
theorem ite_nF {i j : Int} {A B : Prop} (h : i = j) (q : B) : if (!decide (V.int i = V.int j)) = true then A else B := by
  rw [if_neg (by rw [decide_eq_true (congrArg V.int h)]; exact Bool.false_ne_true)]
  exact q
/-- the law's box of draws: n is more than have been mixed -/
def BoxAt (H : Hp) (p : Addr) (n : Nat) : Prop := ∃ a b c : Int, H p = some (.lst [.int a, .int b, .int c]) ∧ 0 ≤ a ∧ 0 ≤ b ∧ b < 2 ^ 62 ∧ 0 ≤ c ∧ c ≤ (n : Int)
theorem BoxAt.mono {H : Hp} {p : Addr} {n m : Nat} (h : BoxAt H p n) (le : n ≤ m) : BoxAt H p m := by
  obtain ⟨a, b, c, h1, h2, h3, h4, h5, h6⟩ := h
  exact ⟨a, b, c, h1, h2, h3, h4, h5, by omega⟩
theorem BoxAt.same {H H' : Hp} {p : Addr} {n : Nat} (h : BoxAt H p n) (s : Same H H') : BoxAt H' p n := by
  obtain ⟨a, b, c, h1, h2⟩ := h
  exact ⟨a, b, c, s _ _ h1, h2⟩
theorem BoxAt.ne {H : Hp} {p q : Addr} {n : Nat} {xs : List V} (h : BoxAt H p n) (t : H q = some (.tup xs)) : q ≠ p := by
  obtain ⟨a, b, c, h1, _⟩ := h
  exact ne_of t h1 (by intro z; cases z)
theorem BoxAt.some {H : Hp} {p : Addr} {n : Nat} (h : BoxAt H p n) : ∃ o, H p = some o := by
  obtain ⟨a, b, c, h1, _⟩ := h
  exact ⟨_, h1⟩
/-- a tuple stays -/
theorem Fr.tup {p q : Addr} {H H1 : Hp} {n : Nat} {xs : List V} (a : Fr p H H1) (hb : BoxAt H p n) (t : H q = some (.tup xs)) : H1 q = some (.tup xs) := a q _ (hb.ne t) t
/-- a pair of ints -/
def PrAt (H : Hp) (q : Addr) (t b : Int) : Prop := H q = some (.tup [.int t, .int b])
theorem at0 {x : V} {xs : List V} : atI (x :: xs) 0 = some x := atI_nat (j := 0) rfl
theorem at1 {x y : V} {xs : List V} : atI (x :: y :: xs) 1 = some y := atI_nat (j := 1) rfl
theorem at2 {x y z : V} {xs : List V} : atI (x :: y :: z :: xs) 2 = some z := atI_nat (j := 2) rfl

/-! fractions -/
/-- the law's own lowest terms -/
def low (t b : Int) : Int × Int := (t / (Nat.gcd t.natAbs b.natAbs : Nat) * (if b < 0 then -1 else 1), (b.natAbs : Int) / (Nat.gcd t.natAbs b.natAbs : Nat))
structure IsLow (t b : Int) : Prop where
  pos : 0 < b
  cop : Nat.gcd t.natAbs b.natAbs = 1
theorem dvd_mul {a b : Int} (h : a ∣ b) : a * (b / a) = b := Int.mul_ediv_cancel' h
theorem low_facts (t b : Int) (hb : b ≠ 0) : IsLow (low t b).1 (low t b).2 ∧ t * (low t b).2 = (low t b).1 * b := by
  have hg : 0 < Nat.gcd t.natAbs b.natAbs := Nat.gcd_pos_of_pos_right _ (by omega)
  generalize e : Nat.gcd t.natAbs b.natAbs = g at hg
  have d1 : g ∣ t.natAbs := e ▸ Nat.gcd_dvd_left _ _
  have d2 : g ∣ b.natAbs := e ▸ Nat.gcd_dvd_right _ _
  obtain ⟨x, hx⟩ := d1
  obtain ⟨y, hy⟩ := d2
  have hc : Nat.gcd x y = 1 := by
    rw [hx, hy, Nat.gcd_mul_left] at e
    exact Nat.eq_of_mul_eq_mul_left hg (by rw [e, Nat.mul_one])
  have hy0 : 0 < y := by
    rcases Nat.eq_zero_or_pos y with z | z
    · rw [z, Nat.mul_zero] at hy
      omega
    · exact z
  have h2 : (low t b).2 = (y : Int) := by
    show (b.natAbs : Int) / (Nat.gcd t.natAbs b.natAbs : Nat) = (y : Int)
    rw [e, hy, Int.natCast_mul]
    exact Int.mul_ediv_cancel_left _ (by omega)
  have ht : t = (g : Int) * x ∨ t = -((g : Int) * x) := by
    have q : (t.natAbs : Int) = (g : Int) * x := by rw [hx, Int.natCast_mul]
    omega
  have hbb : (b.natAbs : Int) = (g : Int) * y := by rw [hy, Int.natCast_mul]
  have h1 : (low t b).1 = (t / (g : Int)) * (if b < 0 then -1 else 1) := by
    show t / (Nat.gcd t.natAbs b.natAbs : Nat) * (if b < 0 then -1 else 1) = _
    rw [e]
  have h3 : t / (g : Int) = x ∨ t / (g : Int) = -(x : Int) := by
    rcases ht with q | q
    · left
      rw [q]
      exact Int.mul_ediv_cancel_left _ (by omega)
    · right
      rw [q, ← Int.mul_neg]
      exact Int.mul_ediv_cancel_left _ (by omega)
  have h4 : (g : Int) * (t / (g : Int)) = t := dvd_mul (by
    rcases ht with q | q
    · exact ⟨x, q⟩
    · exact ⟨-x, by rw [q, Int.mul_neg]⟩)
  refine ⟨⟨by rw [h2]; omega, ?_⟩, ?_⟩
  · rw [h2, h1]
    have q : ((t / (g : Int)) * (if b < 0 then -1 else 1)).natAbs = x := by
      split <;> rcases h3 with z | z <;> rw [z] <;> omega
    rw [q]
    exact hc
  · rw [h2, h1]
    by_cases c : b < 0
    · rw [if_pos c]
      have q : b = -((g : Int) * y) := by omega
      grind
    · rw [if_neg c]
      have q : b = (g : Int) * y := by omega
      grind
theorem low_pos (t b : Int) (hb : b ≠ 0) : 0 < (low t b).2 := (low_facts t b hb).1.pos
/-- two fractions in lowest terms that are alike across are one -/
theorem isLow_uniq {x y u v : Int} (h : IsLow x y) (k : IsLow u v) (e : x * v = u * y) : x = u ∧ y = v := by
  have h1 := h.pos
  have k1 := k.pos
  have e1 : x.natAbs * v.natAbs = u.natAbs * y.natAbs := by rw [← Int.natAbs_mul, ← Int.natAbs_mul, e]
  have d1 : y.natAbs ∣ v.natAbs := (Nat.Coprime.symm h.cop).dvd_of_dvd_mul_left (by rw [e1]; exact Nat.dvd_mul_left _ _)
  have d2 : v.natAbs ∣ y.natAbs := (Nat.Coprime.symm k.cop).dvd_of_dvd_mul_left (by rw [← e1]; exact Nat.dvd_mul_left _ _)
  have e2 : y.natAbs = v.natAbs := Nat.dvd_antisymm d1 d2
  have e3 : y = v := by omega
  subst e3
  exact ⟨Int.eq_of_mul_eq_mul_right (by omega) e, rfl⟩
theorem low_eq {t b x y : Int} (hb : b ≠ 0) (h : IsLow x y) (e : t * y = x * b) : low t b = (x, y) := by
  obtain ⟨h1, h2⟩ := low_facts t b hb
  have q : (low t b).1 * y = x * (low t b).2 := by
    have z : b * ((low t b).1 * y) = b * (x * (low t b).2) := by grind
    exact Int.eq_of_mul_eq_mul_left hb z
  obtain ⟨a1, a2⟩ := isLow_uniq h1 h q
  exact Prod.ext a1 a2
theorem low_id {t b : Int} (h : IsLow t b) : low t b = (t, b) := low_eq (by have := h.pos; omega) h rfl
theorem low_le (t b : Int) : (low t b).1.natAbs ≤ t.natAbs ∧ (low t b).2.natAbs ≤ b.natAbs := by
  generalize e : Nat.gcd t.natAbs b.natAbs = g
  have h1 : (low t b).1 = (t / (g : Int)) * (if b < 0 then -1 else 1) := by
    show t / (Nat.gcd t.natAbs b.natAbs : Nat) * (if b < 0 then -1 else 1) = _
    rw [e]
  have h2 : (low t b).2 = (b.natAbs : Int) / (g : Int) := by
    show (b.natAbs : Int) / (Nat.gcd t.natAbs b.natAbs : Nat) = _
    rw [e]
  have d1 : (g : Int) ∣ t := e ▸ Int.ofNat_dvd_left.mpr (Nat.gcd_dvd_left _ _)
  constructor
  · rw [h1]
    have q : (t / (g : Int) * (if b < 0 then -1 else 1)).natAbs = (t / (g : Int)).natAbs := by
      split <;> omega
    rw [q]
    obtain ⟨z, rfl⟩ := d1
    by_cases c : (g : Int) = 0
    · rw [c, Int.zero_mul, Int.zero_ediv]
      omega
    · rw [Int.mul_ediv_cancel_left _ c, Int.natAbs_mul]
      exact Nat.le_mul_of_pos_left _ (by omega)
  · rw [h2, ← Int.natCast_ediv, Int.natAbs_natCast]
    exact Nat.div_le_self _ _
theorem low_lt {t b : Int} {n : Nat} (h1 : t.natAbs < 2 ^ n) (h2 : b.natAbs < 2 ^ n) : (low t b).1.natAbs < 2 ^ n ∧ (low t b).2.natAbs < 2 ^ n :=
  ⟨Nat.lt_of_le_of_lt (low_le t b).1 h1, Nat.lt_of_le_of_lt (low_le t b).2 h2⟩
/-- a fraction in lowest terms, of fewer than sixty figures -/
structure FrAt (H : Hp) (x : Addr) (a b : Int) : Prop where
  at_ : H x = some (.tup [.int a, .int b])
  low : IsLow a b
  ta : a.natAbs < 2 ^ 200
  tb : b.natAbs < 2 ^ 200
theorem FrAt.same {H H' : Hp} {x : Addr} {a b : Int} (h : FrAt H x a b) (s : Same H H') : FrAt H' x a b := ⟨s _ _ h.at_, h.low, h.ta, h.tb⟩
theorem FrAt.fr {H H' : Hp} {x p : Addr} {a b : Int} {n : Nat} (h : FrAt H x a b) (B : BoxAt H p n) (f : Fr p H H') : FrAt H' x a b := ⟨f.tup B h.at_, h.low, h.ta, h.tb⟩
/-- a new pair of two numbers' lowest terms -/
def sp_low : Sp := fun vs H Q _ => ∃ t b : Int, vs = [.int t, .int b] ∧ b ≠ 0 ∧ t.natAbs < 2 ^ 2000 ∧ b.natAbs < 2 ^ 2000 ∧ ∀ p H', Same H H' → H p = none → H' p = some (.tup [.int (low t b).1, .int (low t b).2]) → Q (.ref p) H'
/-- two pairs in, low of what f and g say of them out -/
def sp_two (K : PySem.W.Frag) (f g : Int → Int → Int → Int → Int) : Sp := fun vs H Q _ => ∃ (x y : Addr) (a b c d : Int), vs = [.ref x, .ref y] ∧ SqT K H x [.int a, .int b] ∧ SqT K H y [.int c, .int d] ∧ g a b c d ≠ 0 ∧ a.natAbs < 2 ^ 900 ∧ b.natAbs < 2 ^ 900 ∧ c.natAbs < 2 ^ 900 ∧ d.natAbs < 2 ^ 900 ∧
  ∀ p H', Same H H' → H p = none → H' p = some (.tup [.int (low (f a b c d) (g a b c d)).1, .int (low (f a b c d) (g a b c d)).2]) → Q (.ref p) H'
/-- by a divisor turned about -/
theorem fdiv_neg {t g : Int} (h : g ∣ t) : t.fdiv (-g) = t / g * -1 := by
  obtain ⟨z, rfl⟩ := h
  by_cases c : g = 0
  · subst c
    simp
  · rw [Int.mul_ediv_cancel_left _ c, show g * z = (-g) * (-z) by grind, Int.mul_fdiv_cancel_left _ (by omega)]
    omega

/-! data of the law's own making, n deep -/
theorem Same.put {H0 H : Hp} {D : Addr} {o : HO} (s : Same H0 H) (h : H0 D = none) : Same H0 (upd H D o) := fun b u e => by
  rw [upd_ne (ne_of_none e h)]
  exact s b u e
inductive Dt (H : Hp) : Nat → V → PyData → Prop
  | non (n : Nat) : Dt H (n + 1) .non .none
  | bl (n : Nat) (b : Bool) : Dt H (n + 1) (.bl b) (.bool b)
  | int (n : Nat) (i : Int) : Dt H (n + 1) (.int i) (.int i)
  | str (n : Nat) (x : Str) (ok : PyData.canLay0 (.str x) = true) : Dt H (n + 1) (.str x) (.str x)
  | lst {n : Nat} {a : Addr} {xs : List V} {ds : List PyData} : H a = some (.lst xs) → xs.length = ds.length → xs.length ≤ 100000 → (∀ (i : Nat) (x : V) (d : PyData), xs[i]? = some x → ds[i]? = some d → Dt H n x d) → Dt H (n + 1) (.ref a) (.list ds)
  | tup {n : Nat} {a : Addr} {xs : List V} {ds : List PyData} : H a = some (.tup xs) → xs.length = ds.length → xs.length ≤ 100000 → (∀ (i : Nat) (x : V) (d : PyData), xs[i]? = some x → ds[i]? = some d → Dt H n x d) → Dt H (n + 1) (.ref a) (.tuple ds)
theorem Dt.same {H H' : Hp} (s : Same H H') : ∀ {n : Nat} {v : V} {d : PyData}, Dt H n v d → Dt H' n v d := by
  intro n v d h
  induction h with
  | non n => exact .non n
  | bl n b => exact .bl n b
  | int n i => exact .int n i
  | str n x ok => exact .str n x ok
  | lst h1 h2 h3 _ ih => exact .lst (s _ _ h1) h2 h3 ih
  | tup h1 h2 h3 _ ih => exact .tup (s _ _ h1) h2 h3 ih
theorem Dt.up {H : Hp} {n m : Nat} {v : V} {d : PyData} (h : Dt H n v d) : n ≤ m → Dt H m v d := by
  intro le
  induction h generalizing m with
  | non n => obtain ⟨k, rfl⟩ : ∃ k, m = k + 1 := ⟨m - 1, by omega⟩; exact .non k
  | bl n b => obtain ⟨k, rfl⟩ : ∃ k, m = k + 1 := ⟨m - 1, by omega⟩; exact .bl k b
  | int n i => obtain ⟨k, rfl⟩ : ∃ k, m = k + 1 := ⟨m - 1, by omega⟩; exact .int k i
  | str n x ok => obtain ⟨k, rfl⟩ : ∃ k, m = k + 1 := ⟨m - 1, by omega⟩; exact .str k x ok
  | lst h1 h2 h3 _ ih => obtain ⟨k, rfl⟩ : ∃ k, m = k + 1 := ⟨m - 1, by omega⟩; exact .lst h1 h2 h3 fun i x d a b => ih i x d a b (by omega)
  | tup h1 h2 h3 _ ih => obtain ⟨k, rfl⟩ : ∃ k, m = k + 1 := ⟨m - 1, by omega⟩; exact .tup h1 h2 h3 fun i x d a b => ih i x d a b (by omega)
theorem Dt.tup2 {H : Hp} {n : Nat} {a : Addr} {x y : V} {d e : PyData} (h : H a = some (.tup [x, y])) (h1 : Dt H n x d) (h2 : Dt H n y e) : Dt H (n + 1) (.ref a) (.tuple [d, e]) :=
  .tup h rfl (by show 2 ≤ 100000; decide) fun i u v hu hv => match i, hu, hv with
    | 0, hu, hv => by cases hu; cases hv; exact h1
    | 1, hu, hv => by cases hu; cases hv; exact h2
    | i + 2, hu, _ => by simp at hu
theorem Dt.pair {H : Hp} {a : Addr} {t b : Int} (h : H a = some (.tup [.int t, .int b])) : Dt H 2 (.ref a) (.tuple [.int t, .int b]) := .tup2 h (.int 0 t) (.int 0 b)
theorem Dt.lst2 {H : Hp} {n : Nat} {a : Addr} {x y : V} {d e : PyData} (h : H a = some (.lst [x, y])) (h1 : Dt H n x d) (h2 : Dt H n y e) : Dt H (n + 1) (.ref a) (.list [d, e]) :=
  .lst h rfl (by show 2 ≤ 100000; decide) fun i u v hu hv => match i, hu, hv with
    | 0, hu, hv => by cases hu; cases hv; exact h1
    | 1, hu, hv => by cases hu; cases hv; exact h2
    | i + 2, hu, _ => by simp at hu
theorem Dt.lst3 {H : Hp} {n : Nat} {a : Addr} {x y z : V} {d e f : PyData} (h : H a = some (.lst [x, y, z])) (h1 : Dt H n x d) (h2 : Dt H n y e) (h3 : Dt H n z f) : Dt H (n + 1) (.ref a) (.list [d, e, f]) :=
  .lst h rfl (by show 3 ≤ 100000; decide) fun i u v hu hv => match i, hu, hv with
    | 0, hu, hv => by cases hu; cases hv; exact h1
    | 1, hu, hv => by cases hu; cases hv; exact h2
    | 2, hu, hv => by cases hu; cases hv; exact h3
    | i + 3, hu, _ => by simp at hu
/-- a comprehension over pairs: J hands out a new tuple of px i and py i at each of n turns, while St stands -/
theorem lc_pair {J : It} {n : Nat} {St : Hp → Prop} {px py : Nat → V} (hgo : ∀ i H, i < n → St H → J.go i H) (hst : ∀ H, St H → J.stop n H)
    (hy : ∀ i H v H', i < n → St H → J.yld i H v H' → ∃ T, v = .ref T ∧ H T = none ∧ H' = upd H T (.tup [px i, py i]))
    {g : TG} {tt : TT} {te : TE} {vs : List Nat} {σ : L2.St} {H1 : Hp} {D : Addr} {Qd : Hp → Prop} (Pv : Nat → Hp → Prop) (h0 : Pv 0 (upd H1 D (.lst []))) (hq : ∀ i H, i ≤ n → Pv i H → St H)
    (hs : ∀ i T H, i < n → Pv i H → H T = none → g (.ref T) (wipe σ vs) (upd H T (.tup [px i, py i])) fun σ2 H2 => wipe σ2 vs = wipe σ vs ∧ tt σ2 H2 fun b H3 =>
      if b = true then te σ2 H3 fun y H4 => ∃ acc, H4 D = some (.lst acc) ∧ acc.length < sizeLine ∧ Pv (i + 1) (upd H4 D (.lst (acc ++ [y]))) else Pv (i + 1) H3) (hd : ∀ H, Pv n H → Qd H) :
    ∃ W : Nat → Nat → Hp → Prop, (∃ m, W 0 m (upd H1 D (.lst []))) ∧ ∀ i m H, W i m H →
      (J.stop i H ∧ Qd H) ∨ (J.go i H ∧ ∃ Nx : Hp → Prop, (∀ H', Nx H' → ∃ m', m' < m ∧ W (i + 1) m' H') ∧ ∀ x H', J.yld i H x H' → g x (wipe σ vs) H' fun σ2 H2 => wipe σ2 vs = wipe σ vs ∧ tt σ2 H2 fun b H3 =>
        if b = true then te σ2 H3 fun y H4 => ∃ acc, H4 D = some (.lst acc) ∧ acc.length < sizeLine ∧ Nx (upd H4 D (.lst (acc ++ [y]))) else Nx H3) := by
  refine ⟨fun i m H => i + m = n ∧ Pv i H, ⟨n, by omega, h0⟩, fun i m H w => ?_⟩
  obtain ⟨e, p⟩ := w
  have q := hq i H (by omega) p
  rcases Nat.lt_or_ge i n with lt | ge
  · refine Or.inr ⟨hgo i H lt q, Pv (i + 1), fun H' p' => ⟨m - 1, by omega, by omega, p'⟩, fun x H' y => ?_⟩
    obtain ⟨T, rfl, nT, rfl⟩ := hy i H x H' lt q y
    exact hs i T H lt p nT
  · obtain rfl : i = n := by omega
    exact Or.inl ⟨hst H q, hd H p⟩
theorem zipL_go {K : PySem.W.Frag} {a b : Addr} {xs ys : List V} {n : Nat} (h1 : xs.length = n) (h2 : ys.length = n) {i : Nat} {H : Hp} (lt : i < n) (q : SqL K H a xs ∧ SqL K H b ys) : (Itz K a b).go i H :=
  ⟨xs, ys, _, _, q.1, q.2, List.getElem?_eq_getElem (by omega), List.getElem?_eq_getElem (by omega)⟩
theorem zipL_stop {K : PySem.W.Frag} {a b : Addr} {xs ys : List V} {n : Nat} (h1 : xs.length = n) {H : Hp} (q : SqL K H a xs ∧ SqL K H b ys) : (Itz K a b).stop n H := ⟨xs, ys, q.1, q.2, .inl (by omega)⟩
theorem zipL_yld {K : PySem.W.Frag} {a b : Addr} {xs ys : List V} {n : Nat} (h1 : xs.length = n) (h2 : ys.length = n) {i : Nat} {H H' : Hp} {v : V} (lt : i < n) (q : SqL K H a xs ∧ SqL K H b ys) (y : (Itz K a b).yld i H v H') :
    ∃ T, v = .ref T ∧ H T = none ∧ H' = upd H T (.tup [xs.getD i .non, ys.getD i .non]) := by
  obtain ⟨T, x, y, rfl, nT, rfl, f1, f2⟩ := y
  refine ⟨T, rfl, nT, ?_⟩
  rw [List.getD_eq_getElem?_getD, List.getD_eq_getElem?_getD, f1 _ q.1, f2 _ q.2] <;> rfl
theorem zipT_go {K : PySem.W.Frag} {a b : Addr} {xs ys : List V} {n : Nat} (h1 : xs.length = n) (h2 : ys.length = n) {i : Nat} {H : Hp} (lt : i < n) (q : SqT K H a xs ∧ SqT K H b ys) : (RZ.ItzT K a b).go i H :=
  ⟨xs, ys, _, _, q.1, q.2, List.getElem?_eq_getElem (by omega), List.getElem?_eq_getElem (by omega)⟩
theorem zipT_stop {K : PySem.W.Frag} {a b : Addr} {xs ys : List V} {n : Nat} (h1 : xs.length = n) {H : Hp} (q : SqT K H a xs ∧ SqT K H b ys) : (RZ.ItzT K a b).stop n H := ⟨xs, ys, q.1, q.2, .inl (by omega)⟩
theorem zipT_yld {K : PySem.W.Frag} {a b : Addr} {xs ys : List V} {n : Nat} (h1 : xs.length = n) (h2 : ys.length = n) {i : Nat} {H H' : Hp} {v : V} (lt : i < n) (q : SqT K H a xs ∧ SqT K H b ys) (y : (RZ.ItzT K a b).yld i H v H') :
    ∃ T, v = .ref T ∧ H T = none ∧ H' = upd H T (.tup [xs.getD i .non, ys.getD i .non]) := by
  obtain ⟨T, x, y, rfl, nT, rfl, f1, f2⟩ := y
  refine ⟨T, rfl, nT, ?_⟩
  rw [List.getD_eq_getElem?_getD, List.getD_eq_getElem?_getD, f1 _ q.1, f2 _ q.2] <;> rfl
theorem getD_of {xs : List V} {i : Nat} (h : i < xs.length) : xs[i]? = some (xs.getD i .non) := by
  rw [List.getD_eq_getElem?_getD, List.getElem?_eq_getElem h] <;> rfl
theorem yesT {σ : L2.St} {H : Hp} {A B : Hp → Prop} (h : A H) : tYes σ H fun b H3 => if b = true then A H3 else B H3 := iteT (A := A H) (B := B H) h
/-- True so often -/
theorem all_true (n : Nat) : (List.replicate n true).map V.bl = List.replicate n (V.bl true) ∧ (List.replicate n true).all id = true := by
  refine ⟨List.map_replicate, ?_⟩
  induction n with
  | zero => rfl
  | succ n ih => rw [List.replicate_succ, List.all_cons, ih] <;> rfl

/-- a def of the text, where it stands and how it is called -/
structure Def (K : PySem.W.Frag) (mg : Str → Option Value) (name : Str) (st : Stmt) (f : Addr) (fd : FuncData) (ps : List Str) : Prop where
  fn : Fun K name name st f fd
  mg : mg name = some (.ref f)
  b : Binds K fd ps []
/-! rules whose written part is a letter -/
section
variable {X : Cx} {K : PySem.W.Frag}
theorem ixL (h : X.K = K) : IxR X (rIxL K) := h ▸ ix_list
theorem ixT (h : X.K = K) : IxR X (rIxT K) := h ▸ ix_tup
theorem ixQ (h : X.K = K) : IxR X (rIx K) := h ▸ ix_seq
def rLenQ (K : PySem.W.Frag) : List V → Hp → VK → Prop := fun xs H Q => ∃ p ys, xs = [.ref p] ∧ (SqL K H p ys ∨ SqT K H p ys) ∧ Q (.int (ys.length : Nat)) H
theorem lenQ (h : X.K = K) : CallR X (.builtin "len") (rLenQ K) := h ▸ call_len_seq
def rLenA (K : PySem.W.Frag) : List V → Hp → VK → Prop := fun xs H Q => ∃ x n, xs = [x] ∧ LenV K x H n ∧ Q (.int (n : Nat)) H
theorem lenA (h : X.K = K) : CallR X (.builtin "len") (rLenA K) := h ▸ call_len
theorem isiK (h : X.K = K) : CallR X (.builtin "isinstance") (rIsi K) := h ▸ call_isi
theorem isiTK (h : X.K = K) : CallR X (.builtin "isinstance") (rIsiT K) := h ▸ call_isiT
theorem allK (h : X.K = K) (hc : X.calm = true) : CallR X (.builtin "all") (rAll K) := h ▸ cr_all hc
theorem anyK (h : X.K = K) (hc : X.calm = true) : CallR X (.builtin "any") (rAny K) := h ▸ cr_any hc
theorem sumK (h : X.K = K) (hc : X.calm = true) : CallR X (.builtin "sum") (rSum K) := h ▸ cr_sum hc
theorem eqDK (h : X.K = K) (hu : X.A.units + 64 < cLine) : OpR X (compareOp .Eq) (rEqD K) := h ▸ op_eqD hu
theorem neDK (h : X.K = K) (hu : X.A.units + 64 < cLine) : OpR X (compareOp .NotEq) (rNeD K) := h ▸ op_neD hu
theorem inQ (h : X.K = K) : OpR X (compareOp .In) (rIn K false) := h ▸ op_in_seq
theorem notInQ (h : X.K = K) : OpR X (compareOp .NotIn) (rIn K true) := h ▸ op_notIn_seq
theorem pi_listK {tg l : Expr} {tl : TE} (h : X.K = K) (hl : PE X l tl) : PI X tg l (iList K tl) := h ▸ pi_list hl
theorem pi_tupK {tg l : Expr} {tl : TE} (h : X.K = K) (hl : PE X l tl) : PI X tg l (iTup K tl) := h ▸ pi_tup hl
theorem pi_zipK {e e2 : Expr} {ta : TA} {p pos tpos : Pos} {elts : List Expr} {kk : Nat} (h : X.K = K) (hg : Gl X "zip") (hm : X.mg "zip" = none) (ha : PA X [e, e2] ta)
    (hs : starEach [e, e2] X.env = (false, eval e X.env) :: starEach [e2] X.env := by rfl) (hpl : (backTo pos (starEach [e2] X.env)).any (·.1) = false := by rfl) :
    PI X (.Tuple elts kk tpos) (.Call (.Name "zip" p) [e, e2] [] pos) (RZ.iZipA K ta) := h ▸ RZ.pi_zipA hg hm ha hs hpl
theorem pi_enumK {e : Expr} {ta : TA} {p pos tpos : Pos} {elts : List Expr} {kk : Nat} (h : X.K = K) (hg : Gl X "enumerate") (hm : X.mg "enumerate" = none) (ha : PA X [e] ta) (hs : starEach [e] X.env = [(false, eval e X.env)] := by rfl) :
    PI X (.Tuple elts kk tpos) (.Call (.Name "enumerate" p) [e] [] pos) (iEnum K ta) := h ▸ pi_enum hg hm ha hs
theorem pg_tupK {es : List Expr} {k : Nat} {pos : Pos} {t : TGs} {n : Nat} (h : X.K = K) (hc : X.calm = true) (ht : PGs X es t) (hn : (assignEach es X.env).length = n := by rfl) (hst : (assignEach es X.env).findIdx? (·.1) = none := by rfl) :
    PG X (.Tuple es k pos) (gTup K n t) := h ▸ pg_tup hc ht hn hst
/-- a new slice, a new list of what a thing holds -/
def rSlLI (K : PySem.W.Frag) : V → Option Int → Option Int → Hp → VK → Prop := fun x lo hi H Q => ∃ a xs, x = .ref a ∧ SqL K H a xs ∧ ∀ p H', Same H H' → H p = none → H' p = some (.lst (cutV xs lo hi)) → Q (.ref p) H'
theorem slL (h : X.K = K) : SlR X (rSlLI K) := fun pins s σ H x v vl vu lo hi sl Q I rx hs pl pu ⟨a, xs, e, q, k⟩ =>
  sl_list pins s σ H x v vl vu lo hi sl Q I rx hs pl pu ⟨a, xs, e, h ▸ q, fun p hp => k p _ (same_new hp) hp upd_same⟩
def rListI (K : PySem.W.Frag) : List V → Hp → VK → Prop := fun xs H Q => ∃ p ys, xs = [.ref p] ∧ (SqL K H p ys ∨ SqT K H p ys) ∧ ∀ l H', Same H H' → H l = none → H' l = some (.lst ys) → Q (.ref l) H'
theorem listI (h : X.K = K) : CallR X (.type "list") (rListI K) := fun pins s σ H xs us Q I r ⟨p, ys, e, q, k⟩ =>
  call_list_of pins s σ H xs us Q I r ⟨p, ys, e, h ▸ q, fun l hl => k l _ (same_new hl) hl upd_same⟩
end
/-! lists of fractions: addresses, tops, bottoms -/
abbrev Fq := Addr × Int × Int
def refs (l : List Fq) : List V := l.map fun z => V.ref z.1
def dat (z : Fq) : PyData := .tuple [.int z.2.1, .int z.2.2]
structure FqAt (H : Hp) (n : Nat) (z : Fq) : Prop where
  at_ : H z.1 = some (.tup [.int z.2.1, .int z.2.2])
  low : IsLow z.2.1 z.2.2
  ta : z.2.1.natAbs ≤ 10 ^ 41 + n
  tb : z.2.2.natAbs ≤ 10 ^ 41 + n
def FrL (H : Hp) (n : Nat) (l : List Fq) : Prop := ∀ z ∈ l, FqAt H n z
theorem FqAt.fr {H H' : Hp} {p : Addr} {n m k : Nat} {z : Fq} (h : FqAt H n z) (B : BoxAt H p m) (f : Fr p H H') (le : n ≤ k) : FqAt H' k z := ⟨f.tup B h.at_, h.low, by have := h.ta; omega, by have := h.tb; omega⟩
theorem FqAt.same {H H' : Hp} {n : Nat} {z : Fq} (h : FqAt H n z) (s : Same H H') : FqAt H' n z := ⟨s _ _ h.at_, h.low, h.ta, h.tb⟩
theorem FrL.fr {H H' : Hp} {p : Addr} {n m k : Nat} {l : List Fq} (h : FrL H n l) (B : BoxAt H p m) (f : Fr p H H') (le : n ≤ k) : FrL H' k l := fun z hz => (h z hz).fr B f le
theorem FrL.same {H H' : Hp} {n : Nat} {l : List Fq} (h : FrL H n l) (s : Same H H') : FrL H' n l := fun z hz => (h z hz).same s
theorem FqAt.wide {H : Hp} {n : Nat} {z : Fq} (h : FqAt H n z) (le : n ≤ 1000) : z.2.1.natAbs < 2 ^ 200 ∧ z.2.2.natAbs < 2 ^ 200 := by
  have h1 := h.ta
  have h2 := h.tb
  have e : 10 ^ 41 + 1000 < 2 ^ 200 := by decide
  omega
theorem refs_len (l : List Fq) : (refs l).length = l.length := List.length_map _
theorem refs_get {l : List Fq} {i : Nat} {z : Fq} (h : l[i]? = some z) : (refs l)[i]? = some (.ref z.1) := by
  unfold refs
  rw [List.getElem?_map, h] <;> rfl
theorem refs_of {l : List Fq} {i : Nat} {x : V} (h : (refs l)[i]? = some x) : ∃ z, l[i]? = some z ∧ x = .ref z.1 := by
  unfold refs at h
  rw [List.getElem?_map] at h
  cases e : l[i]? with
  | none =>
    rw [e] at h
    cases h
  | some z =>
    rw [e] at h
    exact ⟨z, rfl, (Option.some.inj h).symm⟩
theorem dp_pair {K : PySem.W.Frag} {H : Hp} {a : Addr} {t b : Int} (h : H a = some (.tup [.int t, .int b])) : Dp K H (.ref a) (.tuple [.int t, .int b]) := .tup (SqT.of h) (.cons (.int _) (.cons (.int _) .nil))
theorem FrL.dps {K : PySem.W.Frag} {H : Hp} {n : Nat} : ∀ {l : List Fq}, FrL H n l → DpAll K H (refs l) (l.map dat)
  | [], _ => .nil
  | z :: r, h => .cons (dp_pair (h z List.mem_cons_self).at_) (FrL.dps fun y hy => h y (List.mem_cons_of_mem _ hy))
theorem dats_lay (l : List Fq) : PyData.canLayAll0 (l.map dat) = true ∧ PyData.depthAll (l.map dat) ≤ 1 := by
  induction l with
  | nil => exact ⟨rfl, by decide⟩
  | cons z r ih =>
    refine ⟨?_, ?_⟩
    · show (PyData.canLay0 (dat z) && PyData.canLayAll0 (r.map dat)) = true
      rw [ih.1]
      rfl
    · show max (PyData.depth (dat z)) (PyData.depthAll (r.map dat)) ≤ 1
      have e : PyData.depth (dat z) = 1 := rfl
      omega
theorem dats_shaped (l : List Fq) : SeqAt.shaped (.list (l.map dat)) = true := by
  obtain ⟨h1, h2⟩ := dats_lay l
  show (PyData.canLayAll0 (l.map dat) && decide (PyData.depthAll (l.map dat) + 1 ≤ 64)) = true
  rw [h1, decide_eq_true (by omega)] <;> rfl
theorem dats_nil (l : List Fq) : PyData.eqv (.list (l.map dat)) (.list []) = l.isEmpty := by
  cases l <;> rfl
theorem eqv_pair {a b c d : Int} : PyData.eqv (.tuple [.int a, .int b]) (.tuple [.int c, .int d]) = decide (a = c ∧ b = d) := by
  show ((a == c) && ((b == d) && true)) = decide (a = c ∧ b = d)
  rw [Bool.and_true, Bool.decide_and]
  rfl
/-! data of any make beside the box p -/
inductive Da (p : Addr) (H : Hp) : Nat → V → PyData → Prop
  | non (n : Nat) : Da p H (n + 1) .non .none
  | bl (n : Nat) (b : Bool) : Da p H (n + 1) (.bl b) (.bool b)
  | int (n : Nat) (i : Int) : Da p H (n + 1) (.int i) (.int i)
  | str (n : Nat) (x : Str) : Da p H (n + 1) (.str x) (.str x)
  | lst {n : Nat} {a : Addr} {xs : List V} {ds : List PyData} : a ≠ p → H a = some (.lst xs) → xs.length = ds.length → xs.length ≤ 100000 → (∀ (i : Nat) (x : V) (d : PyData), xs[i]? = some x → ds[i]? = some d → Da p H n x d) → Da p H (n + 1) (.ref a) (.list ds)
  | tup {n : Nat} {a : Addr} {xs : List V} {ds : List PyData} : a ≠ p → H a = some (.tup xs) → xs.length = ds.length → xs.length ≤ 100000 → (∀ (i : Nat) (x : V) (d : PyData), xs[i]? = some x → ds[i]? = some d → Da p H n x d) → Da p H (n + 1) (.ref a) (.tuple ds)
theorem Da.fr {p : Addr} {H H' : Hp} (s : Fr p H H') : ∀ {n : Nat} {v : V} {d : PyData}, Da p H n v d → Da p H' n v d := by
  intro n v d h
  induction h with
  | non n => exact .non n
  | bl n b => exact .bl n b
  | int n i => exact .int n i
  | str n x => exact .str n x
  | lst h0 h1 h2 h3 _ ih => exact .lst h0 (s _ _ h0 h1) h2 h3 ih
  | tup h0 h1 h2 h3 _ ih => exact .tup h0 (s _ _ h0 h1) h2 h3 ih
theorem Da.up {p : Addr} {H : Hp} {n m : Nat} {v : V} {d : PyData} (h : Da p H n v d) : n ≤ m → Da p H m v d := by
  intro le
  induction h generalizing m with
  | non n => obtain ⟨k, rfl⟩ : ∃ k, m = k + 1 := ⟨m - 1, by omega⟩; exact .non k
  | bl n b => obtain ⟨k, rfl⟩ : ∃ k, m = k + 1 := ⟨m - 1, by omega⟩; exact .bl k b
  | int n i => obtain ⟨k, rfl⟩ : ∃ k, m = k + 1 := ⟨m - 1, by omega⟩; exact .int k i
  | str n x => obtain ⟨k, rfl⟩ : ∃ k, m = k + 1 := ⟨m - 1, by omega⟩; exact .str k x
  | lst h0 h1 h2 h3 _ ih => obtain ⟨k, rfl⟩ : ∃ k, m = k + 1 := ⟨m - 1, by omega⟩; exact .lst h0 h1 h2 h3 fun i x d a b => ih i x d a b (by omega)
  | tup h0 h1 h2 h3 _ ih => obtain ⟨k, rfl⟩ : ∃ k, m = k + 1 := ⟨m - 1, by omega⟩; exact .tup h0 h1 h2 h3 fun i x d a b => ih i x d a b (by omega)
/-- each of a row is such data -/
def AllDa (p : Addr) (H : Hp) (n : Nat) (xs : List V) : Prop := ∀ x ∈ xs, ∃ d, Da p H n x d
theorem AllDa.fr {p : Addr} {H H' : Hp} {n : Nat} {xs : List V} (h : AllDa p H n xs) (s : Fr p H H') : AllDa p H' n xs := fun x hx => (h x hx).elim fun d q => ⟨d, q.fr s⟩
theorem AllDa.up {p : Addr} {H : Hp} {n m : Nat} {xs : List V} (h : AllDa p H n xs) (le : n ≤ m) : AllDa p H m xs := fun x hx => (h x hx).elim fun d q => ⟨d, q.up le⟩
theorem AllDa.nil {p : Addr} {H : Hp} {n : Nat} : AllDa p H n [] := fun x hx => absurd hx List.not_mem_nil
theorem AllDa.cons {p : Addr} {H : Hp} {n : Nat} {x : V} {xs : List V} (h : ∃ d, Da p H n x d) (t : AllDa p H n xs) : AllDa p H n (x :: xs) := fun y hy => by
  rcases List.mem_cons.mp hy with e | e
  · rw [e]
    exact h
  · exact t y e
theorem AllDa.append {p : Addr} {H : Hp} {n : Nat} {xs ys : List V} (h : AllDa p H n xs) (t : AllDa p H n ys) : AllDa p H n (xs ++ ys) := fun y hy => by
  rcases List.mem_append.mp hy with e | e
  · exact h y e
  · exact t y e
/-- what the datas of a row are -/
theorem AllDa.pick {p : Addr} {H : Hp} {n : Nat} : ∀ {xs : List V}, AllDa p H n xs → ∃ ds : List PyData, xs.length = ds.length ∧ ∀ (i : Nat) (x : V) (d : PyData), xs[i]? = some x → ds[i]? = some d → Da p H n x d
  | [], _ => ⟨[], rfl, fun i x d h => by simp at h⟩
  | x :: xs, h => by
    obtain ⟨d, q⟩ := h x List.mem_cons_self
    obtain ⟨ds, e, r⟩ := AllDa.pick (xs := xs) fun y hy => h y (List.mem_cons_of_mem _ hy)
    refine ⟨d :: ds, by rw [List.length_cons, List.length_cons, e], fun i y c h1 h2 => ?_⟩
    match i, h1, h2 with
    | 0, h1, h2 => cases h1; cases h2; exact q
    | i + 1, h1, h2 => exact r i y c h1 h2
theorem AllDa.tup {p : Addr} {H : Hp} {n : Nat} {xs : List V} {a : Addr} (h : AllDa p H n xs) (ne : a ≠ p) (e : H a = some (.tup xs)) (z : Nat.ble xs.length 100000 = true := by rfl) : ∃ d, Da p H (n + 1) (.ref a) d := by
  obtain ⟨ds, l, r⟩ := h.pick
  exact ⟨_, .tup ne e l (Nat.le_of_ble_eq_true z) r⟩
theorem AllDa.lst {p : Addr} {H : Hp} {n : Nat} {xs : List V} {a : Addr} (h : AllDa p H n xs) (ne : a ≠ p) (e : H a = some (.lst xs)) (z : Nat.ble xs.length 100000 = true := by rfl) : ∃ d, Da p H (n + 1) (.ref a) d := by
  obtain ⟨ds, l, r⟩ := h.pick
  exact ⟨_, .lst ne e l (Nat.le_of_ble_eq_true z) r⟩
theorem daI {p : Addr} {H : Hp} {n : Nat} (i : Int) : ∃ d, Da p H (n + 1) (.int i) d := ⟨_, .int n i⟩
theorem daB {p : Addr} {H : Hp} {n : Nat} (b : Bool) : ∃ d, Da p H (n + 1) (.bl b) d := ⟨_, .bl n b⟩
theorem daS {p : Addr} {H : Hp} {n : Nat} (x : Str) : ∃ d, Da p H (n + 1) (.str x) d := ⟨_, .str n x⟩
theorem daN {p : Addr} {H : Hp} {n : Nat} : ∃ d, Da p H (n + 1) .non d := ⟨_, .non n⟩
theorem AllDa.one {p : Addr} {H : Hp} {n m : Nat} {x : V} (h : ∃ d, Da p H n x d) (le : n ≤ m) : AllDa p H m [x] := .cons (h.elim fun d q => ⟨d, q.up le⟩) .nil
theorem AllDa.two {p : Addr} {H : Hp} {n : Nat} {x y : V} (h : ∃ d, Da p H n x d) (k : ∃ d, Da p H n y d) : AllDa p H n [x, y] := .cons h (.cons k .nil)
theorem da_fr {p : Addr} {H H' : Hp} {n : Nat} {v : V} (h : ∃ d, Da p H n v d) (s : Fr p H H') : ∃ d, Da p H' n v d := h.elim fun d q => ⟨d, q.fr s⟩
theorem da_up {p : Addr} {H : Hp} {n m : Nat} {v : V} (h : ∃ d, Da p H n v d) (le : n ≤ m) : ∃ d, Da p H m v d := h.elim fun d q => ⟨d, q.up le⟩
theorem BoxAt.new {H : Hp} {p a : Addr} {n : Nat} (h : BoxAt H p n) (e : H a = none) : a ≠ p := by
  obtain ⟨o, ho⟩ := h.some
  exact (ne_of_none ho e).symm
/-- an item at a place that is there -/
theorem at_some {xs : List V} {z : Int} (h0 : 0 ≤ z) (h1 : z < (xs.length : Int)) : ∃ v, atI xs z = some v ∧ v ∈ xs := by
  have g : xs[z.toNat]? = some xs[z.toNat] := List.getElem?_eq_getElem (by omega)
  exact ⟨_, at_of (j := z.toNat) (by omega) g, List.getElem_mem _⟩
/-- which kinds of built-in classes a data is of -/
def isTupD : PyData → Bool
  | .tuple _ => true
  | _ => false
def isIntD : PyData → Bool
  | .int _ => true
  | .bool _ => true
  | _ => false
def isBoolD : PyData → Bool
  | .bool _ => true
  | _ => false
def isListD : PyData → Bool
  | .list _ => true
  | _ => false
def isStrD : PyData → Bool
  | .str _ => true
  | _ => false
structure Kinds (K : PySem.W.Frag) (H : Hp) (v : V) (d : PyData) (t : String) : Prop where
  ty : TyX K H v (.type t)
  tup : kitB t "tuple" = some (isTupD d)
  lst : kitB t "list" = some (isListD d)
  int : kitB t "int" = some (isIntD d)
  bool : kitB t "bool" = some (isBoolD d)
  str : kitB t "str" = some (isStrD d)
theorem Da.kinds {K : PySem.W.Frag} {p : Addr} {H : Hp} {n : Nat} {v : V} {d : PyData} (h : Da p H n v d) : ∃ t, Kinds K H v d t := by
  cases h with
  | non => exact ⟨"NoneType", .base .non, by decide +kernel, by decide +kernel, by decide +kernel, by decide +kernel, by decide +kernel⟩
  | bl _ b => exact ⟨"bool", .base (.bl b), by show _ = some false; decide +kernel, by show _ = some false; decide +kernel, by show _ = some true; decide +kernel, by show _ = some true; decide +kernel, by show _ = some false; decide +kernel⟩
  | int _ i => exact ⟨"int", .base (.int i), by show _ = some false; decide +kernel, by show _ = some false; decide +kernel, by show _ = some true; decide +kernel, by show _ = some false; decide +kernel, by show _ = some false; decide +kernel⟩
  | str _ x => exact ⟨"str", .base (.str x), by show _ = some false; decide +kernel, by show _ = some false; decide +kernel, by show _ = some false; decide +kernel, by show _ = some false; decide +kernel, by show _ = some true; decide +kernel⟩
  | lst _ a1 => exact ⟨"list", .base (.lst a1), by show _ = some false; decide +kernel, by show _ = some true; decide +kernel, by show _ = some false; decide +kernel, by show _ = some false; decide +kernel, by show _ = some false; decide +kernel⟩
  | tup _ a1 => exact ⟨"tuple", .base (.tup a1), by show _ = some true; decide +kernel, by show _ = some false; decide +kernel, by show _ = some false; decide +kernel, by show _ = some false; decide +kernel, by show _ = some false; decide +kernel⟩
/-- repr of a truth -/
theorem cr_reprB {X : Cx} : CallR X (.builtin "repr") (fun xs H Q => ∃ b : Bool, xs = [.bl b] ∧ Q (.str (if b = true then "True" else "False")) H) := by
  intro pins s σ H xs us Q I r h
  obtain ⟨b, rfl, q⟩ := h
  cases r with
  | cons r1 r2 =>
    cases r2
    cases r1
    exact PySem.P.repr_of_bool ⟨.str _, H, I.tok _, ⟨_, rfl⟩, q⟩
/-- xs + ys, a new list -/
def rCatI : R2 := fun x y H Q => ∃ l b xs zs, x = .ref l ∧ y = .ref b ∧ H l = some (.lst xs) ∧ H b = some (.lst zs) ∧ xs.length + zs.length ≤ sizeLine ∧ ∀ p H', Same H H' → H p = none → H' p = some (.lst (xs ++ zs)) → Q (.ref p) H'
theorem op_catI {X : Cx} : OpR X (binaryOp .Add) rCatI := fun pins s σ H x y v u Q I rx ry ⟨l, b, xs, zs, e1, e2, h1, h2, z, k⟩ =>
  op_cat pins s σ H x y v u Q I rx ry ⟨l, b, xs, zs, e1, e2, h1, h2, z, fun p hp => k p _ (same_new hp) hp upd_same⟩
/-- a number; a fraction -/
def isNumD (d : PyData) : Bool := isIntD d && !isBoolD d
def isFracD : PyData → Bool
  | .tuple [.int t, .int b] => decide (0 < b) && decide (Nat.gcd t.natAbs b.natAbs = 1)
  | _ => false
theorem frac_no {d e : PyData} (h : isNumD d = false ∨ isNumD e = false) : isFracD (.tuple [d, e]) = false := by
  cases d <;> cases e <;> first | rfl | (rcases h with h | h <;> cases h)
theorem frac_len {ds : List PyData} (h : ds.length ≠ 2) : isFracD (.tuple ds) = false := by
  match ds, h with
  | [], _ => rfl
  | [d], _ => cases d <;> rfl
  | [_, _], h => exact absurd rfl h
  | d :: e :: _ :: _, _ => cases d <;> cases e <;> rfl
theorem num_int {p : Addr} {H : Hp} {n : Nat} {v : V} {d : PyData} (h : Da p H n v d) (k : isNumD d = true) : ∃ i, d = .int i ∧ v = .int i := by
  cases h with
  | int _ i => exact ⟨i, rfl, rfl⟩
  | non => cases k
  | bl => cases k
  | str => cases k
  | lst => cases k
  | tup => cases k
/-- rows of truths as data -/
theorem dps_bools {K : PySem.W.Frag} {H : Hp} : ∀ bs : List Bool, DpAll K H (bs.map V.bl) (bs.map PyData.bool)
  | [] => .nil
  | b :: r => .cons (.bl b) (dps_bools r)
theorem bools_shaped (bs : List Bool) : SeqAt.shaped (.list (bs.map PyData.bool)) = true := by
  have h : PyData.canLayAll0 (bs.map PyData.bool) = true ∧ PyData.depthAll (bs.map PyData.bool) = 0 := by
    induction bs with
    | nil => exact ⟨rfl, rfl⟩
    | cons b r ih =>
      refine ⟨?_, ?_⟩
      · show (PyData.canLay0 (.bool b) && PyData.canLayAll0 (r.map PyData.bool)) = true
        rw [ih.1] <;> rfl
      · show max (PyData.depth (.bool b)) (PyData.depthAll (r.map PyData.bool)) = 0
        rw [ih.2] <;> rfl
  show (PyData.canLayAll0 (bs.map PyData.bool) && decide (PyData.depthAll (bs.map PyData.bool) + 1 ≤ 64)) = true
  rw [h.1, h.2] <;> rfl
theorem take_one {α : Type} {l : List α} {i : Nat} {x : α} (h : l[i]? = some x) : l.take (i + 1) = l.take i ++ [x] := by
  rw [List.take_add_one, h] <;> rfl
end KR
/-! ### texts -/
namespace KR
open PySem PySem.Spec PyProof.Rows L2
theorem strs_of : ∀ {ys : List Str} {us : List Value}, Vals (ys.map V.str) us → StrsAre us ys
  | [], _, .nil => .nil
  | y :: r, _, .cons h t => by
    obtain ⟨k, rfl⟩ := h
    exact .cons y k (strs_of t)
section
variable {X : Cx} {K : PySem.W.Frag}
/-- sep.join(it), it a list walked from its end -/
theorem join_rev {prog : Program} {w : World} {A : Around} {E : Value → Shared → Prop} {s : Shared} {x : Str} {t : Tok} {it l : Addr} {items : Array Value} {ys : List Str} {Q : Value → Shared → Prop} (hh : A.handled = none)
    (hit : s.heap.IsRevIter it l ((items.size : Int) - 1)) (hl : s.heap.IsList l items) (hne : l ≠ it) (hn : items.size ≤ sizeLine)
    (hP : ∀ acc : Array Value, ItemsOf (fun i v => items[items.size - 1 - i]? = some v) acc items.size → StrsAre acc.toList ys) (hok : (ys.map (·.length)).sum + ys.length * x.length ≤ 16777216)
    (hq : ∀ (h' : Heap) (t' k : Nat), (∀ b o, b ≠ it → s.heap.get? b = some o → h'.get? b = some o) → Q (.str (Txt.join x ys) t') { s with heap := h', toks := k }) :
    wpAny (model prog w) A (call (.builtin "str.join") [.str x t, .ref it]) Q E s := by
  apply wpAny_call
  refine codeAny_call_builtin F.slot_str_join.plain F.entry_str_join (F.slot_str_join.check _ _ _ _ _ _ _ _ (typeIs_str _ _ _) (F.args_str_join_2 _ _) ?_)
  rw [join_tree_other]
  refine wpAny_bind (wpAny_typeOf hit.typeIs ?_)
  show wpAny _ A.in1 ((pyIter (.ref it)).tryCatch _ >>= fun j => collect j >>= fun vs => joinTail x vs) _ _ s
  refine wpAny_bind (wpAny_tryCatch (wpAny_pyIter_revIter hit (wpAny_bind (RT.collect_rev (A := A.in1) hh hit hl hne hn fun h' tk acc hk hacc => ?_))))
  obtain ⟨ps, e1, e2⟩ := strsAre_values (hP acc hacc)
  subst e2
  rw [e1]
  have fits := joinOk_of hok
  unfold JoinOk at fits
  rw [Bool.not_eq_true'] at fits
  have g : Gives (joinTail x (strValues ps)) (joinMade x ps) := by
    have g0 := gives_joinTail x ps fits
    rcases ps with _ | ⟨a, _ | ⟨b, r⟩⟩ <;> exact g0
  exact g prog w A (wants Q E) { s with heap := h', toks := tk } (post_join ps ⟨joinFit_length fits, fun t' k => hq h' t' k hk⟩)
/-- sep.join(reversed(xs)), xs a list of texts -/
def tJoinRev (K : PySem.W.Frag) (to te : TE) : TE := fun σ H Q => to σ H fun x H1 => (∃ a, x = .str a) ∧ te σ H1 fun v H2 => ∃ (a : Str) (q : Addr) (ys : List Str), x = .str a ∧ v = .ref q ∧ SqL K H2 q (ys.map V.str) ∧ (ys.map (·.length)).sum + ys.length * a.length ≤ 16777216 ∧ Q (.str (Txt.join a ys.reverse)) H2
theorem sum_rev (l : List Nat) : l.reverse.sum = l.sum := by
  induction l with
  | nil => rfl
  | cons a r ih =>
    rw [List.reverse_cons, List.sum_append, ih, List.sum_cons, List.sum_cons, List.sum_nil]
    omega
theorem pe_joinRev {o e : Expr} {to te : TE} {apos pos p pos2 : Pos} (hK : X.K = K) (hc : X.calm = true) (hg : Gl X "reversed") (hm : X.mg "reversed" = none) (ho : PE X o to) (he : PE X e te)
    (hs1 : starEach [.Call (.Name "reversed" p) [e] [] pos2] X.env = [(false, eval (.Call (.Name "reversed" p) [e] [] pos2) X.env)] := by rfl) (hs : starEach [e] X.env = (false, eval e X.env) :: starEach [] X.env := by rfl)
    (hbase : attributeBase o "join" X.env (eval o X.env) = eval o X.env := by rfl) (hline : (apos.endLine == pos.line) = true := by rfl) :
    PE X (.Call (.Attribute o "join" apos) [.Call (.Name "reversed" p) [e] [] pos2] [] pos) (tJoinRev K to te) := by
  subst hK
  constructor
  intro pins s σ H Q I want
  refine PySem.Call_method1 hbase hs1 hline (thn (ho.run pins s σ H _ I want) ?_)
  rintro v s1 ⟨x, H1, I1, r1, ⟨a, rfl⟩, q1⟩
  obtain ⟨t, rfl⟩ : ∃ t, v = Value.str a t := r1
  refine ⟨"str", "str.join", F.plainAttrs_str, F.slot_str_join, F.type_str_join, typeIs_str _ _ _, nofun, Calls.callWith_builtin rfl (Calls.evalArgs_plain (Calls.spliced_cons ?_))⟩
  refine Call_ (ld_blt I1 hg hm PyProof.Rows.boot_reversed (PyProof.Rows.callWith_type1 (args_cons (thn (he.run pins s1 σ H1 _ I1 q1) ?_) hs) hs rfl))
  rintro u s2 ⟨y, H2, I2, r2, a', q, ys, ea, rfl, hq, hz, k⟩
  cases ea
  cases r2
  obtain ⟨its, rv, pl, hsz⟩ := I2.list hq
  refine args_nil (call_reversed_list pl.isList (Calls.spliced_nil ?_))
  have old : ∀ b o, s2.heap.get? b = some o → (s2.heap.push (revObj q ((its.toArray.size : Int) - 1))).get? b = some o := fun b o g => Heap.get?_push_of_some _ g
  obtain ⟨oq, hoq, _⟩ := id pl.isList
  have neq : q ≠ s2.heap.objs.size := Nat.ne_of_lt (Heap.lt_size hoq)
  have len : its.toArray.size ≤ sizeLine := by rw [List.size_toArray, ← rv.length]; exact hsz
  refine join_rev (s := { s2 with heap := s2.heap.push (revObj q ((its.toArray.size : Int) - 1)) }) (ys := ys.reverse) (I2.ok.hd hc) ⟨_, Heap.get?_push_size _ rfl, rfl, rfl⟩ (pl.isList.push _) neq len (fun acc hacc => strs_of ?_) ?_ fun h' t' k' keep => ?_
  · rw [List.map_reverse]
    exact RT.vals_rev rv hacc
  · rw [List.map_reverse, sum_rev, List.length_reverse]
    exact hz
  · exact ⟨.str _, H2, I2.kept (t' := k') (fun b o g => keep b o (Nat.ne_of_lt (Heap.lt_size g)) (old b o g)), ⟨t', rfl⟩, k⟩
end
/-! texts as rows of codes -/
abbrev S (l : List Nat) : Str := ⟨l.toArray⟩
theorem tl_S (l : List Nat) : TL.tl (S l) = l := rfl
theorem S_tl (x : Str) : S (TL.tl x) = x := TL.mk_tl x
theorem S_len (l : List Nat) : (S l).length = l.length := by rw [TL.len_tl]
theorem S_app (l m : List Nat) : S l ++ S m = S (l ++ m) := TL.ext_tl (by rw [TL.tl_append])
theorem S_inj {l m : List Nat} (h : S l = S m) : l = m := congrArg TL.tl h
theorem lit_minus : ("-" : Str) = S [45] := by decide +kernel
theorem lit_stroke : ("/" : Str) = S [47] := by decide +kernel
theorem lit_one : ("1" : Str) = S [49] := by decide +kernel
theorem lit_zero : ("0" : Str) = S [48] := by decide +kernel
theorem lit_none : ("" : Str) = S [] := by decide +kernel
theorem lit_empty : Str.empty = S [] := by decide +kernel
theorem lit_digits : ("0123456789" : Str) = S [48, 49, 50, 51, 52, 53, 54, 55, 56, 57] := by decide +kernel
theorem num_S (n : Nat) : Str.ofString (toString ((n : Nat) : Int)) = S (TL.numL n) := TL.ext_tl (TL.tl_num n)
theorem numL_cut (n : Nat) : TL.numL n = (if n / 10 = 0 then [] else TL.numL (n / 10)) ++ [48 + n % 10] := by
  by_cases h : n < 10
  · rw [TL.numL_lt h, if_pos (by omega), show n % 10 = n by omega] <;> rfl
  · rw [TL.numL_step (by omega), if_neg (by omega)]
theorem dig_at {k : Int} (h0 : 0 ≤ k) (h1 : k < 10) : atI ("0123456789" : Str).cps.toList k = some (48 + k.toNat) := by
  rw [lit_digits]
  have ks : k = 0 ∨ k = 1 ∨ k = 2 ∨ k = 3 ∨ k = 4 ∨ k = 5 ∨ k = 6 ∨ k = 7 ∨ k = 8 ∨ k = 9 := by omega
  rcases ks with e | e | e | e | e | e | e | e | e | e <;> subst e <;> rfl
theorem lit_len : ("0123456789" : Str).length ≤ sizeLine := by decide +kernel
/-- text times a number from 0 -/
theorem op_mul_str {X : Cx} : OpR X (binaryOp .Mult) (fun x y H Q => ∃ (a : Str) (n : Nat), x = .str a ∧ y = .int (n : Int) ∧ a.length * n ≤ 100000 ∧ n ≤ 100000 ∧ Q (.str (Txt.mul a n)) H) := by
  intro pins s σ H x y v u Q I rx ry h
  obtain ⟨a, n, rfl, rfl, hz, hn, q⟩ := h
  obtain ⟨t, rfl⟩ := rx
  obtain ⟨t', rfl⟩ := ry
  refine SB.mul ⟨?_, fun h1 h2 => ?_, fun h1 h2 => ?_⟩ fun t2 k => ⟨.str _, H, I.tok _, ⟨_, rfl⟩, q⟩
  · rw [decide_eq_false (by omega), decide_eq_false (by omega)] <;> rfl
  · have n1 : (1 : Int) ≤ (n : Int) := by omega
    intro bad
    have b2 : ((2 ^ 63 - 1 : Int)) / (n : Int) ≥ (2 ^ 63 - 1 : Int) / 100000 := by
      refine Int.le_ediv_of_mul_le (by omega) ?_
      have e : (2 ^ 63 - 1 : Int) / 100000 * (n : Int) ≤ (2 ^ 63 - 1 : Int) / 100000 * 100000 := Int.mul_le_mul_of_nonneg_left (by omega) (by decide)
      exact Int.le_trans e (by decide)
    have a9 : a.length ≤ 100000 := by
      have : a.length * 1 ≤ a.length * n := Nat.mul_le_mul_left _ (by omega)
      omega
    have e3 : (2 ^ 63 - 1 : Int) / 100000 = 92233720368547 := by decide
    omega
  · rw [Int.toNat_natCast]
    exact decide_eq_false (by have := small hz; omega)
theorem mul_zero (a : Str) : Txt.mul a ((0 : Nat) : Int) = S [] := by
  unfold Txt.mul
  rw [if_pos (by decide), lit_empty]
theorem mul_one (a : Str) : Txt.mul a ((1 : Nat) : Int) = a := by
  unfold Txt.mul
  rw [if_neg (by decide), if_pos (by rfl)]
/-- a minus ahead, cut off -/
theorem sub_minus (l : List Nat) : Builtin.Str.subAt (S l) (S [45]) 0 = (l.head? == some 45) := by
  unfold Builtin.Str.subAt
  rcases l with _ | ⟨c, r⟩
  · rfl
  · have e : ((S (c :: r)).cps.extract 0 (0 + (S [45]).length)) = #[c] := by
      apply Array.toList_inj.mp
      rw [Array.toList_extract]
      rfl
    rw [e]
    show (#[c] == #[45]) = (some c == some 45)
    by_cases h : c = 45
    · subst h
      rfl
    · have e2 : (some c == some 45) = false := by
        rw [beq_eq_false_iff_ne]
        exact fun z => h (Option.some.inj z)
      rw [e2, beq_eq_false_iff_ne]
      intro z
      exact h (by have := congrArg (fun a => a[0]?) z; simpa using this)
theorem prefix_minus (l : List Nat) : Txt.removeprefix (S l) (S [45]) = S (if l.head? = some 45 then l.tail else l) := by
  unfold Txt.removeprefix
  rw [sub_minus]
  by_cases h : l.head? = some 45
  · rw [if_pos h, if_pos (by rw [h] <;> rfl)]
    rcases l with _ | ⟨c, r⟩
    · cases h
    · show (if ((S (c :: r)).length - (S [45]).length == (S (c :: r)).length) = true then S (c :: r) else Builtin.Str.strSub (S (c :: r)) (S [45]).length (S (c :: r)).length) = S r
      have e1 : (S (c :: r)).length = r.length + 1 := by rw [S_len] <;> rfl
      have e2 : (S [45]).length = 1 := rfl
      rw [if_neg (by rw [e1, e2, beq_iff_eq]; omega)]
      apply TL.ext_tl
      show ((S (c :: r)).cps.extract (S [45]).length (S (c :: r)).length).toList = r
      rw [Array.toList_extract, e1, e2]
      show List.take (r.length + 1 - 1) (List.drop 1 (c :: r)) = r
      rw [Nat.add_sub_cancel]
      exact List.take_length
  · rw [if_neg h, if_neg (by rw [beq_iff_eq]; exact h)]
    rfl
theorem starts_minus (l : List Nat) : Txt.startswith (S l) (S [45]) = (l.head? == some 45) := by
  unfold Txt.startswith
  rw [sub_minus]
  rcases l with _ | ⟨c, r⟩
  · rfl
  · rw [decide_eq_true (show 0 + (S [45]).length ≤ (S (c :: r)).length by rw [S_len, S_len]; show 0 + 1 ≤ r.length + 1; omega), Bool.true_and]
/-- one to so many figures -/
def figs (l : List Nat) : Bool := !l.isEmpty && l.all fun c => decide (48 ≤ c) && decide (c ≤ 57)
theorem ascii_S (l : List Nat) : Txt.isascii (S l) = l.all (· < 128) := by
  unfold Txt.isascii
  rw [← Array.all_toList]
theorem dig_code : ∀ c, c < 128 → Unicode.isDigit c = (decide (48 ≤ c) && decide (c ≤ 57)) := by decide +kernel
theorem digit_S {l : List Nat} (h : l.all (· < 128) = true) : Txt.isdigit (S l) = figs l := by
  unfold Txt.isdigit figs
  rw [← Array.all_toList, S_len]
  have e1 : decide (l.length > 0) = !l.isEmpty := by
    cases l <;> rfl
  have e2 : l.all Unicode.isDigit = l.all fun c => decide (48 ≤ c) && decide (c ≤ 57) := by
    rw [List.all_eq_true] at h
    clear e1
    induction l with
    | nil => rfl
    | cons c r ih =>
      rw [List.all_cons, List.all_cons, ih fun x hx => h x (List.mem_cons_of_mem _ hx), dig_code c (of_decide_eq_true (h c List.mem_cons_self))]
  rw [e1]
  exact congrArg _ e2
theorem figs_ascii {l : List Nat} (h : figs l = true) : l.all (· < 128) = true := by
  unfold figs at h
  rw [Bool.and_eq_true] at h
  have h3 := List.all_eq_true.mp h.2
  rw [List.all_eq_true]
  intro c hc
  have := h3 c hc
  rw [Bool.and_eq_true] at this
  have h2 := of_decide_eq_true this.2
  exact decide_eq_true (by omega)
theorem figs_num (n : Nat) : figs (TL.numL n) = true := by
  unfold figs
  rw [Bool.and_eq_true]
  refine ⟨?_, ?_⟩
  · have := TL.numL_ne n
    cases e : TL.numL n with
    | nil => exact absurd e this
    | cons _ _ => rfl
  · rw [List.all_eq_true]
    intro c hc
    have := TL.numL_digits n c hc
    rw [decide_eq_true this.1, decide_eq_true this.2] <;> rfl
theorem figs_int {l : List Nat} (h : figs l = true) (z : l.length ≤ 600) : PySem.intText? (S l) = some ((NumText.digitsVal l : Nat) : Int) := by
  unfold figs at h
  rw [Bool.and_eq_true] at h
  have d : NumText.AllDigits l := fun c hc => by
    have := List.all_eq_true.mp h.2 c hc
    rw [Bool.and_eq_true] at this
    exact ⟨of_decide_eq_true this.1, of_decide_eq_true this.2⟩
  have ne : l ≠ [] := by
    intro e
    rw [e] at h
    exact Bool.noConfusion h.1
  exact PySem.intText_digits (x := S l) d ne (by rw [S_len]; omega)
/-- a fraction's text -/
def fracL (t b : Int) : List Nat := (if t < 0 then [45] else []) ++ (TL.numL t.natAbs ++ (if b = 1 then [] else 47 :: TL.numL b.natAbs))
/-- ahead of the first stroke, whether there is one, behind it -/
def cutL : List Nat → List Nat × Bool × List Nat
  | [] => ([], false, [])
  | c :: r => if c = 47 then ([], true, r) else (c :: (cutL r).1, (cutL r).2)
theorem cut_app {a b : List Nat} (h : 47 ∉ a) : cutL (a ++ 47 :: b) = (a, true, b) := by
  induction a with
  | nil => rfl
  | cons c r ih =>
    have hc : c ≠ 47 := fun e => h (by rw [e]; exact List.mem_cons_self)
    have ih' := ih fun m => h (List.mem_cons_of_mem _ m)
    show (if c = 47 then _ else (c :: (cutL (r ++ 47 :: b)).1, (cutL (r ++ 47 :: b)).2)) = _
    rw [if_neg hc, ih']
theorem cut_none {a : List Nat} (h : 47 ∉ a) : cutL a = (a, false, []) := by
  induction a with
  | nil => rfl
  | cons c r ih =>
    have hc : c ≠ 47 := fun e => h (by rw [e]; exact List.mem_cons_self)
    have ih' := ih fun m => h (List.mem_cons_of_mem _ m)
    show (if c = 47 then _ else (c :: (cutL r).1, (cutL r).2)) = _
    rw [if_neg hc, ih']
/-- either no stroke, or the first one -/
theorem cut_ways (l : List Nat) : (47 ∉ l ∧ cutL l = (l, false, [])) ∨ ∃ a b, l = a ++ 47 :: b ∧ 47 ∉ a ∧ cutL l = (a, true, b) := by
  by_cases h : 47 ∈ l
  · obtain ⟨a, b, e, n⟩ := List.eq_append_cons_of_mem h
    exact .inr ⟨a, b, e, n, by rw [e]; exact cut_app n⟩
  · exact .inl ⟨h, cut_none h⟩
end KR
/-! ### defs that ask repr: no repr is under way around them -/
namespace KR
open PySem PySem.Spec PyProof.Rows L2
section
variable {P : Program} {w : World} {K : PySem.W.Frag} {mg : Str → Option Value} {base : Heap}
structure FnG (P : Program) (w : World) (K : PySem.W.Frag) (mg : Str → Option Value) (base : Heap) (k : Nat) (f : Addr) (fd : FuncData) (ps : List Str) (sp : Sp) : Prop where
  many : ∀ vs H Q E, sp vs H Q E → vs.length = ps.length
  does : ∀ (A : Around) (outer : List Env) (s : Shared) (H : Hp) (args : Args) (us : List Value) (vs : List V) (Q : VK) (E : XK), Room k A → A.guards = some [] → Env0 P w K mg base A outer s H → BindsTo s fd args (ps.zip us) → Vals vs us →
    sp vs H Q E → codeAny (model P w) A (.call (.ref f) args) (CR CX0 outer P w H s Q E) s
/-- the end of a def's body is the end of its call -/
theorem body_end {N : List Str} {qual : Str} {sc : Scope} {f : Addr} {cdv : Value} {A : Around} {outer : List Env} {s s' : Shared} {H : Hp} {Q : VK} {E : XK} {fl : Flow}
    (h : SP (cxOf CX0 P w K mg base N qual sc f cdv A outer s H E) [] { nx := fun _ H' => Q .non H', rt := Q } fl s') : CR CX0 outer P w H s Q E (.ok (.ret (match fl with | .ret u => u | _ => .none))) s' ∧ (∀ u, fl = .ret u ∨ fl = .next ∨ fl = .brk ∨ fl = .cont → True) ∧ fl ≠ .brk ∧ fl ≠ .cont := by
  cases fl <;> simp only [SP] at h
  case next => obtain ⟨_, H', J, q⟩ := h; exact ⟨⟨V.non, H', J.os, J.bare, J.base, J.hok, rfl, q⟩, fun _ _ => trivial, nofun, nofun⟩
  case ret u => obtain ⟨v, _, H', J, rv, q⟩ := h; exact ⟨⟨v, H', J.os, J.bare, J.base, J.hok, rv, q⟩, fun _ _ => trivial, nofun, nofun⟩
  case brk => exact absurd h.choose_spec.choose_spec.2 id
  case cont => exact absurd h.choose_spec.choose_spec.2 id
theorem okG {x qual : Str} {st : Stmt} {f : Addr} {fd : FuncData} {N ps : List Str} {k : Nat} {sp : Sp} (F : Fun K x qual st f fd) (S : FnScope N ps (defScope st)) (many : ∀ vs H Q E, sp vs H Q E → vs.length = ps.length)
    (body : ∀ (cdv : Value) (A : Around) (outer : List Env) (s : Shared) (H : Hp) (vs : List V) (Q : VK) (E : XK), Room k (A.deeper (envOfC qual (defScope st) s.heap.objs.size f cdv)) → A.guards = some [] → sp vs H Q E →
      ∃ t, PSs (cxOf CX0 P w K mg base N qual (defScope st) f cdv A outer s H E).nox (defBody st) t ∧ t { nx := fun _ H' => Q .non H', rt := Q } (start N vs) H) : FnG P w K mg base (k + 1) f fd ps sp := by
  obtain ⟨_, _, _, _, _, _, cdv, _, _, rfl, lk, hcd⟩ := F.ex
  refine ⟨many, ?_⟩
  intro A outer s H args us vs Q E hr hg e0 hb rv hsp
  obtain ⟨t, ht, hq⟩ := body cdv A outer s H vs Q E (hr.deeper _) hg hsp
  have inK : K.In s.heap := e0.mod.kin.keeps fun b o q => (e0.bs b o q).1
  apply codeAny_call_function hr.depth (inK _ _ lk) rfl S.co S.gen rfl (PySem.W.codeRec_of inK hcd)
  refine hb _ _ _ _ (wpAny_newFunctionEnv_cells S.kind ?_ ?_)
  · rintro ⟨n, v⟩ hy
    exact (S.par n (List.of_mem_zip hy).1).imp id fun q => ⟨q, PySem.W.cellsFrom_some _ _ _ (Or.inl q)⟩
  · rintro env rfl s1 made
    refine ⟨(e0.mod.nolimit.keeps fun b o q => (e0.bs b o q).1).keeps made.toInCall.keep, codeAny_func ?_⟩
    have I := inv_start (CX := CX0) (E := E) S hr.hd e0 (many _ _ _ _ hsp) rv made
    refine wpAny_mono (ht.nox.run [] s1 (start N vs) H _ I hq) (fun fl s' hs => ?_) fun _ _ z => z
    obtain ⟨r, _, n1, n2⟩ := body_end hs
    cases fl with
    | next => exact r
    | ret u => exact r
    | brk => exact absurd rfl n1
    | cont => exact absurd rfl n2
end
section
variable {X : Cx} {k : Nat} {f : Addr} {fd : FuncData} {ps : List Str} {sp : Sp} {ds : List Value} {dvs : List V} {E : XK} {x : Str} {p pos : Pos} {e : Expr} {es : List Expr} {t : TA}
/-- a call of such a def, where no repr is under way -/
theorem pe_callG (F : FnG X.prog X.w X.K X.mg X.base k f fd ps sp) (room : Room k X.A) (calm : X.A.guards = some []) (glob : Gl X x) (at_ : X.mg x = some (.ref f)) (keep : PySem.W.keepIn X.K (.ref f) = true) (binds : Binds X.K fd ps ds) (dflt : Vals dvs ds) (pass : Passes CX0 X E)
    (args : PA X (e :: es) t) (nd : (x == ("__debug__" : Str)) = false := by decide) (he : starEach (e :: es) X.env = (false, eval e X.env) :: starEach es X.env := by rfl) (hpl : (backTo pos (starEach es X.env)).any (·.1) = false := by rfl) :
    PE X (.Call (.Name x p) (e :: es) [] pos) (tCall sp dvs E t) := by
  constructor
  intro pins s σ H Q I want
  refine wpAny_Call_Name_kw (ld_glob I glob at_ (PySem.W.callWith_K (h₀ := X.base) I.ok.mod.kin keep (thn (args.run pos pins s σ H _ I want) ?_) he hpl) nd)
  rintro us s1 ⟨vs, H1, I1, r, q⟩
  have many := F.many _ _ _ _ q
  have both : Vals (vs ++ dvs) (us ++ ds) := r.append dflt
  refine ⟨I1.kIn, wpAny_call (codeAny_mono (F.does X.A X.stack s1 H1 ⟨us, []⟩ _ _ Q E room calm I1.env0 (binds s1 us I1.kIn (both.length ▸ many)) both q) ?_)⟩
  intro r s' post
  match r, post with
  | .error e, post => exact pass pins σ H1 s1 e s' I1 post
  | .ok (.ret u), post => exact I1.after post
  | .ok .next, post => exact post.elim
  | .ok .brk, post => exact post.elim
  | .ok .cont, post => exact post.elim
end
/-- a def that asks no repr is one -/
theorem FnG.of {P : Program} {w : World} {K : PySem.W.Frag} {mg : Str → Option Value} {base : Heap} {k : Nat} {f : Addr} {fd : FuncData} {ps : List Str} {sp : Sp} (F : FnOk P w K mg base CX0 k f fd ps sp) : FnG P w K mg base k f fd ps sp :=
  ⟨F.len, fun A outer s H args us vs Q E hr _ => F.run A outer s H args us vs Q E hr⟩
/-- repr of data that is no text -/
def rReprD (K : PySem.W.Frag) : List V → Hp → VK → Prop := fun xs H Q => ∃ (a : Addr) (d : PyData), xs = [.ref a] ∧ Dp K H (.ref a) d ∧ d.showable = true ∧ d.hasDict = false ∧ d.depth ≤ 60 ∧ d.shown.length ≤ sizeLine ∧ Q (.str d.shown) H
theorem cr_reprD {X : Cx} (hg : X.A.guards = some []) (hu : X.A.units + 64 < cLine) : CallR X (.builtin "repr") (rReprD X.K) := by
  intro pins s σ H xs us Q I r h
  obtain ⟨a, d, rfl, dp, sh, nd, dd, sz, q⟩ := h
  cases r with
  | cons r1 r2 =>
    cases r2
    cases r1
    obtain ⟨as, rd⟩ := Dp.reads I d _ _ dp rfl
    exact repr_of_reads' rd sh (PyData.noDict_hsm nd) hg (by omega) (fun _ _ e => e) (fun h' u tk hk => ⟨.str _, H, I.kept (fun b o e => hk b o e), ⟨_, rfl⟩, q⟩) sz
theorem cr_reprDK {X : Cx} {K : PySem.W.Frag} (h : X.K = K) (hg : X.A.guards = some []) (hu : X.A.units + 64 < cLine) : CallR X (.builtin "repr") (rReprD K) := h ▸ cr_reprD hg hu
section
variable {P : Program} {w : World} {K : PySem.W.Frag} {mg mb : Str → Option Value} {k : Nat} {fa a : Addr} {fd : FuncData} {x : Str} {sp : Sp} {s₁ : Shared} {vs : List Value} {ns : List Int}
/-- what is tracked when the law is called: the script, unless the module itself made it -/
def scr (K : PySem.W.Frag) (a : Addr) (ob : Obj) (ns : List Int) : Hp := fun b => if b = a ∧ K.lookup a = none then some (.frz ob (.lst (ns.map V.int))) else none
theorem scr_some {ob : Obj} {b : Addr} {u : HO} (h : scr K a ob ns b = some u) : b = a ∧ K.lookup a = none ∧ u = .frz ob (.lst (ns.map V.int)) := by
  unfold scr at h
  split at h
  · rename_i c
    exact ⟨c.1, c.2, (Option.some.inj h).symm⟩
  · cases h
theorem call_law (inK : K.In s₁.heap) (gl : s₁.heap.Ns mainGlobals mg) (bl : s₁.heap.Ns builtinsNs mb) (boot : ∀ x : Str, x ≠ "__name__" → mb x = bootBuiltins x) (lim : s₁.heap.NoLimit) (quiet : s₁.gens = #[])
    (there : s₁.heap.get? a = some { cls := .type "list", data := .seq vs.toArray }) (areInts : IntsAre vs ns) (len : ns.length ≤ sizeLine) (room : Room k callerA)
    (F : ∀ base : Heap, K.In base → base.Ns mainGlobals mg → FnG P w K mg base k fa fd [x] sp) (binds : ∀ (s : Shared) (u : Value), BindsTo s fd ⟨[u], []⟩ [(x, u)])
    (asked : ∀ H : Hp, Only H → SqL K H a (ns.map V.int) → sp [.ref a] H (fun v _ => v = .bl true) fun _ _ _ => False) :
    codeAny (model P w) callerA (.call (.ref fa) ⟨[.ref a], []⟩) (fun r s' => r = .ok (.ret (.bool true)) ∧ OldK s₁.heap s'.heap ∧ s'.os = s₁.os ∧ AllBare s'.gens) s₁ := by
  let ob : Obj := { cls := .type "list", data := .seq vs.toArray }
  let H := scr K a ob ns
  have at_ : ∀ {b u}, H b = some u → b = a ∧ K.lookup a = none ∧ u = .frz ob (.lst (ns.map V.int)) := scr_some
  have no : ∀ b o, s₁.heap.get? b = some o → (∀ q, o ≠ { cls := .type "list", data := .seq q }) → H b = none := fun b o e d => by
    cases c : H b with
    | none => rfl
    | some u =>
      obtain ⟨rfl, _⟩ := at_ c
      exact absurd (Option.some.inj (e.symm.trans there)) (d _)
  have keepNs : ∀ {b : Addr} {m : Str → Option Value}, s₁.heap.Ns b m → (hidT s₁.heap H).Ns b m := fun {b m} ⟨o, es, ep, e, d, r⟩ =>
    ⟨o, es, ep, hidT_get e (no b o e fun q z => by rw [z] at d; cases d), d, r⟩
  have keepK : K.In (hidT s₁.heap H) := fun b o e => hidT_get (inK b o e) (by
    cases c : H b with
    | none => rfl
    | some u =>
      obtain ⟨rfl, n, _⟩ := at_ c
      rw [n] at e
      cases e)
  have rel := vals_ints areInts
  have holds : HOk P w H s₁.heap := fun b u c => by
    obtain ⟨rfl, _, rfl⟩ := at_ c
    exact ⟨there, by rw [List.length_map]; exact len, vs, _, rel, there⟩
  have only : Only H := fun b => by
    cases c : H b with
    | none => exact Or.inl rfl
    | some u => exact Or.inr ⟨ob, _, by rw [(at_ c).2.2]⟩
  have script : SqL K H a (ns.map V.int) := by
    cases c : K.lookup a with
    | none => exact Or.inl (Or.inr ⟨ob, if_pos ⟨rfl, c⟩⟩)
    | some o =>
      have e := Option.some.inj ((inK a o c).symm.trans there)
      subst e
      exact Or.inr ⟨_, vs.toArray, _, c, rfl, rfl, rfl, by rw [List.size_toArray, areInts.length]; exact len, by simpa using rel⟩
  have modul : Mod K mg (hidT s₁.heap H) := ⟨keepK, keepNs gl, ⟨mb, keepNs bl, boot⟩, lim.elim fun mc z => ⟨mc, keepNs z.1, z.2⟩⟩
  have start0 : Env0 P w K mg (hidT s₁.heap H) callerA [] s₁ H := ⟨rfl, modul, fun b o e => of_hidT e, Nat.le_of_eq (hidT_size _ _), trivial, fun b hb => (List.not_mem_nil hb).elim, holds, .of_eq quiet⟩
  refine codeAny_mono ((F _ keepK (keepNs gl)).does callerA [] s₁ H _ [.ref a] [.ref a] _ _ room rfl start0 (binds s₁ (.ref a)) (.cons rfl .nil) (asked H only script)) ?_
  intro r s' post
  match r, post with
  | .error e, post => exact False.elim post
  | .ok .next, post => exact post.elim
  | .ok .brk, post => exact post.elim
  | .ok .cont, post => exact post.elim
  | .ok (.ret u), ⟨v, H', os, bare, un, held, rv, e⟩ =>
    cases (show v = V.bl true from e)
    cases (show u = Value.bool true from rv)
    refine ⟨rfl, OldK.of_keep fun b o g => ?_, os, bare⟩
    cases c : H b with
    | none => exact un.keep b o g c (fun z => (List.not_mem_nil z).elim) (fun z => (List.not_mem_nil z).elim)
    | some u =>
      obtain ⟨rfl, _, rfl⟩ := at_ c
      rw [Option.some.inj (g.symm.trans there)]
      exact (held b _ (un.frzs b ob _ c)).1
end
/-- the goal that is left of a law whose defs ask repr -/
theorem walk_ofG {l : PySem.W.OpenLaw} {n k : Nat} {q : Program} {loose : List Str} {XP : (Str → Option Value) → Heap → Prop} {YP : World → Heap → Prop} {d : DefRec} {K : Params → PySem.W.Frag} {sp : World → Sp} {x : Str}
    (most : l.most = some n) (n9 : n ≤ sizeLine) (nodf : d.params.defaults = []) (room : Room k callerA) (inK : ∀ (w : World) (h : Heap), YP w h → (K w.params).In h)
    (F : ∀ (w : World) (mg : Str → Option Value) (fa : Addr) (h : Heap), (K w.params).In h → h.Ns mainGlobals mg → mg d.name = some (.ref fa) →
      ∃ fd : FuncData, (∀ (s : Shared) (u : Value), BindsTo s fd ⟨[u], []⟩ [(x, u)]) ∧ ∀ base : Heap, (K w.params).In base → base.Ns mainGlobals mg → FnG l.prog w (K w.params) mg base k fa fd [x] (sp w))
    (asked : ∀ (w : World) (H : Hp) (a : Addr) (ns : List Int), ns.length ≤ n → Only H → SqL (K w.params) H a (ns.map V.int) → sp w [.ref a] H (fun v _ => v = .bl true) fun _ _ _ => False) :
    PySem.W.WalkO q loose XP YP l.row.toRowW d [] (fun f vs => PySem.call f vs) :=
  Att.attach_call most nodf fun w s₀ s₁ mg mb fa o pm cd doc a vs ns G Y ho hd hcd hmg hobj hints hlen hg => by
    obtain ⟨fd, b, f⟩ := F w mg fa _ (inK w _ Y) G.T.g hmg
    exact call_law (inK w _ Y) G.T.g G.T.b G.T.builtins G.T.nolimit hg hobj hints (Nat.le_trans hlen n9) room f b fun H only sc => asked w H a ns hlen only sc
end KR
/-! ### all(test for x in ..): the generator expression's own frame, its test read like a def's body -/
namespace KR
open PySem PySem.Spec PyProof.Rows L2
/-- the frame's scope: one name of its own, nothing captured -/
structure GnS (scope : Scope) (x : Str) : Prop where
  kind : scope.kind = .function
  co : scope.isCoroutine = false
  cell : ∀ y ∈ scope.names, y.2 ≠ .cell
  free : ∀ y ∈ scope.names, y.2 ≠ .free
  dot : scope.names.lookup (".0" : Str) = some NameKind.local
  loc : scope.names.lookup x = some .local
/-- the frame's environment, its around -/
abbrev gEnv (X : Cx) (scope : Scope) (C : Addr) (code : Value) : Env := genEnv scope [] C code builtinsNs X.env
abbrev gAr (X : Cx) (ge : Expr) (it : Addr) (env : Env) : Around := X.A.in1.in1.over (.compLoop ge 0 (.ref it) .none env) []
/-- the frame's context: it began at s, H; fp: what is walked -/
abbrev gCx (X : Cx) (ge : Expr) (it : Addr) (x : Str) (s : Shared) (H : Hp) (env : Env) (fp : List Addr) : Cx :=
  { prog := X.prog, w := X.w, K := X.K, mg := X.mg, base := X.base, A := gAr X ge it env, N := [x], s_0 := s, H_0 := H, env := env, outer := X.stack, stack := env :: X.stack, ex := fp, fn := fun _ => false, calm := true, pn := [], xe := fun _ _ => False }
section
variable {X : Cx} {pins : List (Addr × Obj)} {σ : L2.St} {H : Hp} {s : Shared}
theorem inv_gens {g' : Array GenState} (I : Inv X pins σ H s) (hg : AllBare g') : Inv X pins σ H { s with gens := g' } :=
  I.call (h' := s.heap) (g' := g') (t' := s.toks) (d' := s.drawn) (ch := []) Un.refl I.hok hg fun b z => absurd z List.not_mem_nil
theorem bare_set {a : Array GenState} {g : Nat} {x : GenState} (h : AllBare a) (hx : x.bare = true) : AllBare (a.setIfInBounds g x) := fun y hy => by
  rcases Array.mem_or_eq_of_mem_setIfInBounds hy with z | z
  · exact h y z
  · rw [z]
    exact hx
theorem inv_setGen {g : Nat} {x : GenState} (I : Inv X pins σ H s) (hx : x.bare = true) : Inv X pins σ H (s.setGen g x) := inv_gens I (bare_set I.bare hx)
theorem room_gen {k : Nat} (r : Room (k + 1) X.A) {elt : Expr} {cs : List Comprehension} {sc : Scope} {p : Pos} {it : Addr} {env : Env} : Room k (gAr X (.GeneratorExp elt cs sc p) it env) := by
  obtain ⟨h1, h2, h3⟩ := r
  refine ⟨h1, ?_, ?_⟩
  · show X.A.depth + 0 + 1 + 3 * k + 5 < recursionLimit
    omega
  · show X.A.units + 1 + 1 + 0 + 3 + 16 * k + 200 < cLine
    omega
theorem gen_ok {elt : Expr} {cs : List Comprehension} {sc : Scope} {gp : Pos} {it : Addr} {x : Str} {scope : Scope} {code : Value} {fp : List Addr} (I : Inv X pins σ H s) (S : GnS scope x) (hh : X.A.handled = none) (hfp : ∀ b ∈ fp, FpOk X pins H b ∧ b < s.heap.objs.size) :
    (gCx X (.GeneratorExp elt cs sc gp) it x s H (gEnv X scope s.heap.objs.size code) fp).Ok := by
  have kd : ∀ y k, scope.names.lookup y = some k → k ≠ .cell ∧ k ≠ .free := fun y k e => ⟨S.cell _ (PySem.mem_of_lookup e), S.free _ (PySem.mem_of_lookup e)⟩
  exact {
    mod := I.ok.mod, kind := S.kind, glob := I.ok.glob, blt := rfl, above := Nat.le_refl _
    inj := fun y z c e _ => (by cases e)
    has := fun y h => (by
      rcases h with h | h
      · exact absurd rfl (kd y _ h).1
      · exact absurd rfl (kd y _ h).2)
    cab := fun y c z _ => (by cases z)
    hd := fun _ => hh
    frames := (by
      show pushEnvs [gEnv X scope s.heap.objs.size code] (pushEnvs [] X.A.frames) = _
      rw [I.ok.frames] <;> rfl)
    stk := .inr ⟨rfl, rfl⟩
    exf := fun b hb => ⟨Nat.ne_of_lt (hfp b hb).2, fun y c e => (by cases e)⟩
    bs := I.bs, bsz := Nat.le_trans I.ok.bsz I.sz
    noex := fun b o e hb => (by
      obtain ⟨_, _, _, old | old, _⟩ := (hfp b hb).1
      · exact I.ok.noex b o e old
      · have z := Heap.lt_size e
        have z2 := I.ok.bsz
        exact Nat.lt_irrefl b (Nat.lt_of_lt_of_le z (Nat.le_trans z2 old)))
    exfs := fun b hb hf => (by
      obtain ⟨⟨_, n1, n2, _⟩, _⟩ := hfp b hb
      rcases List.mem_cons.mp (I.stkSub b hf) with e | e
      · exact n1 e
      · exact n2 e)
    funs := I.stack, frf := I.stkFree }
/-- the frame as it begins: its space at C, its generator behind it -/
theorem gen_inv {elt : Expr} {cs : List Comprehension} {sc : Scope} {gp : Pos} {it : Addr} {x : Str} {scope : Scope} {code : Value} {fp : List Addr} {h' : Heap} {G : Obj} {g' : Array GenState} {tk : Nat} {m : Str → Option Value} (I : Inv X pins σ H s) (S : GnS scope x) (hh : X.A.handled = none)
    (hfp : ∀ b ∈ fp, FpOk X pins H b ∧ b < s.heap.objs.size) (hn : h'.Ns s.heap.objs.size m) (hsz : h'.objs.size = s.heap.objs.size + 1) (kp : ∀ b o, s.heap.get? b = some o → h'.get? b = some o) (hg : AllBare g') (hG : ∀ v, G.data ≠ .cell v) (hF : G.isFreed = false) :
    Inv (gCx X (.GeneratorExp elt cs sc gp) it x s H (gEnv X scope s.heap.objs.size code) fp) [(h'.objs.size, G)] [none] H { s with heap := h'.push G, gens := g', toks := tk } := by
  have kp2 : ∀ b o, s.heap.get? b = some o → (h'.push G).get? b = some o := fun b o e => Heap.get?_push_of_some _ (kp b o e)
  have gt : s.heap.objs.size ≤ h'.objs.size := by omega
  exact {
    ok := gen_ok I S hh hfp, os := rfl, bare := hg, base := Un.kept kp2
    loc := ⟨m, hn.push _, fun i y v _ e _ => (by
      match i, e with
      | 0, e => cases e
      | j + 1, e => cases e)⟩
    cell := fun y c e => (by cases e)
    free := I.hok.fresh (Nat.le_refl _)
    freeC := fun y c e => (by cases e)
    pin := fun p hp => (by
      obtain rfl := List.mem_singleton.mp (show p ∈ [(h'.objs.size, G)] from hp)
      refine ⟨Heap.get?_push_size _ hF, I.hok.fresh gt, fun z => ?_, fun z => ?_, hG⟩
      · have z2 : h'.objs.size = s.heap.objs.size := z
        omega
      · rcases List.mem_cons.mp (I.stkSub _ z) with e | e
        · have z2 := I.lt
          rw [← e] at z2
          have z3 : h'.objs.size < s.heap.objs.size := z2
          omega
        · exact I.nofs gt e)
    hok := I.hok.kept kp2, len := rfl }
end
/-- what is so between two steps of the generator, i things taken -/
def GSt (Y : Cx) (pn : List (Addr × Obj)) (tn : Nat → Heap → Prop) (fp : List Addr) (W : Nat → Hp → Prop) (i : Nat) (s : Shared) : Prop :=
  ∃ H', Inv Y pn [none] H' s ∧ tn i s.heap ∧ (∀ b ∈ fp, H' b = none) ∧ W i H'
/-- how it ends, how it hands out -/
def gFin (Y : Cx) (pn : List (Addr × Obj)) (Q : VK) (b : Bool) (s : Shared) : Prop := ∃ H', Inv Y pn [none] H' s ∧ Q (.bl b) H'
abbrev gEnd (Y : Cx) (pn : List (Addr × Obj)) (Q : VK) : GenEnd := fun _ _ r s1 => r = .ok .next ∧ gFin Y pn Q true s1
def gPro (Y : Cx) (pn : List (Addr × Obj)) (tn : Nat → Heap → Prop) (fp : List Addr) (W : Nat → Hp → Prop) (Q : VK) : Protocol := fun _ _ v s kap =>
  ∃ b : Bool, v = .bool b ∧ (b = true → ∃ i, GSt Y pn tn fp W i s ∧ ∀ s', GSt Y pn tn fp W i s' → kap (.send .none) s') ∧ (b = false → gFin Y pn Q false s)
/-- one turn's reading -/
def GTurn (J : It) (te : TE) (n : Nat) (W : Nat → Hp → Prop) (Q : VK) : Prop := ∀ i H2, W i H2 →
  (J.stop i H2 ∧ Q (.bl true) H2) ∨ (J.go i H2 ∧ i < n ∧ ∀ x H3, J.yld i H2 x H3 → te [some x] H3 fun u H4 => ∃ b, u = .bl b ∧ if b = true then W (i + 1) H4 else Q (.bl false) H4)
section
variable {X : Cx} {elt iter : Expr} {x : Str} {px gp : Pos} {sc : Scope} {it C : Addr} {s₁ : Shared} {H₁ : Hp} {code : Value} {fp : List Addr} {pn : List (Addr × Obj)} {tn : Nat → Heap → Prop} {J : It} {te : TE} {n : Nat} {W : Nat → Hp → Prop} {Q : VK}
theorem gen_seg {Y : Cx} {env : Env} (hY : Y = gCx X (.GeneratorExp elt [⟨.Name x px, iter, [], 0⟩] sc gp) it x s₁ H₁ env fp) (hco : env.scope.isCoroutine = false) (T : Turn X.prog X.w X.K (.Name x px) J fp it tn)
    (pg : PG Y (.Name x px) (gName 0)) (pe : PE Y elt te) (turn : GTurn J te n W Q) (hpn : ∀ b ∈ fp, ∀ p ∈ pn, p.1 ≠ b) :
    ∀ (m i : Nat) (s s₀ : Shared), n - i = m → GSt Y pn tn fp W i s → Seg (model X.prog X.w) X.A.in1.in1 (gEnd Y pn Q) (gPro Y pn tn fp W Q) m s₀
      (.compLoop (.GeneratorExp elt [⟨.Name x px, iter, [], 0⟩] sc gp) 0 (.ref it) .none env) ((model X.prog X.w).den (.compLoop (.GeneratorExp elt [⟨.Name x px, iter, [], 0⟩] sc gp) 0 (.ref it) .none env)) [] s := by
  have hA : Y.A = X.A.in1.in1.over (.compLoop (.GeneratorExp elt [⟨.Name x px, iter, [], 0⟩] sc gp) 0 (.ref it) .none env) [] := by rw [hY]
  have hP : Y.prog = X.prog := by rw [hY]
  have hW : Y.w = X.w := by rw [hY]
  have hK : Y.K = X.K := by rw [hY]
  have hC : Y.calm = true := by rw [hY]
  have hE : Y.env = env := by rw [hY]
  have hX : Y.ex = fp := by rw [hY]
  have hN : Y.pn = [] := by rw [hY]
  have hxe : Y.xe = fun _ _ => False := by rw [hY]
  have stat : ∀ {σ' : L2.St} {H' : Hp} {s' : Shared}, Inv Y pn σ' H' s' → (∀ b ∈ fp, H' b = none) → ∀ b ∈ fp, FpOk Y pn H' b := fun {σ' H' s'} I' hn b hb => by
    have hb2 : b ∈ Y.ex := by rw [hX]; exact hb
    refine ⟨hn b hb, (I'.ok.exf b hb2).1, I'.ok.exfs b hb2, .inl hb2, fun y c e => (I'.ok.exf b hb2).2 y c e, fun p hp => ?_⟩
    rw [hN] at hp
    exact hpn b hb p hp
  have runG := fun pins s σ H v u Q => pg.run pins s σ H v u Q
  have runE := fun pins s σ H Q => pe.run pins s σ H Q
  rw [hA, hP, hW, hE, hxe] at runG runE
  intro m
  induction m with
  | zero =>
    rintro i s s₀ hm ⟨H, I, st, nf, w⟩
    show Seg _ _ _ _ _ s₀ _ ((compTurn _ 0 (.ref it) .none env).onRaise (leaving env)) [] s
    rw [compTurn_gen, Sem.onRaise_eq_wrap]
    refine seg_bind_wrap (wpAny_standAt ?_)
    rcases turn i H w with ⟨stop, q⟩ | ⟨_, lt, _⟩
    · have td := T.done Y hP hW hK hC i pn s _ H (fun _ _ => False) I (stat I nf) st stop
      rw [hA] at td
      refine seg_bind_wrap (thnF td fun r s2 ⟨e, I2⟩ => ?_)
      rw [e]
      exact seg_end (.ok .next) ⟨rfl, H, I2, q⟩
    · exact absurd lt (by omega)
  | succ m ih =>
    rintro i s s₀ hm ⟨H, I, st, nf, w⟩
    show Seg _ _ _ _ _ s₀ _ ((compTurn _ 0 (.ref it) .none env).onRaise (leaving env)) [] s
    rw [compTurn_gen, Sem.onRaise_eq_wrap]
    refine seg_bind_wrap (wpAny_standAt ?_)
    rcases turn i H w with ⟨stop, q⟩ | ⟨go, lt, step⟩
    · have td := T.done Y hP hW hK hC i pn s _ H (fun _ _ => False) I (stat I nf) st stop
      rw [hA] at td
      refine seg_bind_wrap (thnF td fun r s2 ⟨e, I2⟩ => ?_)
      rw [e]
      exact seg_end (.ok .next) ⟨rfl, H, I2, q⟩
    · have ti := T.item Y hP hW hK hC i pn s _ H (fun _ _ => False) I (stat I nf) st go
      rw [hA] at ti
      refine seg_bind_wrap (thnF ti fun r s2 ⟨u, e, h2⟩ => ?_)
      rw [e]
      refine seg_bind_wrap (thnF h2 fun _ s3 ⟨y, H3, I3, r3, y3, st3, n3⟩ => ?_)
      have I3' := I3.pinned (stat I3 n3) (T.obj _ _ st3)
      refine seg_bind_wrap (thnF (runG _ s3 _ H3 y u _ I3' r3 (show gName 0 y [none] H3 (fun σ' H' => σ' = [some y] ∧ H' = H3) from ⟨rfl, rfl⟩)) fun _ s4 ⟨σ4, H4, I4, e4, e5⟩ => ?_)
      subst e4 e5
      refine seg_bind_wrap (wpAny_tests_nil ?_)
      simp only [if_true]
      have yo : ∀ v, yieldOut env v = yieldValue v := fun v => by
        unfold yieldOut
        rw [hco] <;> rfl
      simp only [yo]
      rw [Sem.bind_eq_wrap', Sem.bind_eq_wrap', Sem.wrap_wrap, Sem.wrap_wrap]
      refine seg_wrap (thnF (runE _ s4 _ _ _ I4 (step y _ y3)) fun v s5 ⟨yv, H5, I5, r5, b, e5, q5⟩ => ?_)
      subst e5
      obtain rfl : v = Value.bool b := r5
      have pin' : ∀ b ∈ fp, ∀ o, s3.heap.get? b = some o → s5.heap.get? b = some o ∧ H5 b = none := fun b hb o e =>
        let z := I5.pin (b, o) (List.mem_append_right _ (List.mem_append_right _ (mem_pinsAt hb e)))
        ⟨z.1, z.2.1⟩
      have I6 : Inv Y pn [none] H5 s5 := I5.unpinned.weak rfl fun j v e => by
        match j, e with
        | 0, e => cases e
        | j + 1, e => cases e
      have done : W (i + 1) H5 → GSt Y pn tn fp W (i + 1) s5 := fun w5 => ⟨H5, I6, T.keep _ _ _ st3 fun b hb o e => (pin' b hb o e).1, fun b hb => (by
        obtain ⟨o, e, _⟩ := T.obj _ _ st3 b hb
        exact (pin' b hb o e).2), w5⟩
      refine seg_at (seg_yield rfl rfl rfl ⟨b, rfl, fun hb => ?_, fun hb => ?_⟩)
      · rw [if_pos hb] at q5
        exact ⟨i + 1, done q5, fun s' hj => seg_again rfl (ih (i + 1) s' s' (by omega) hj)⟩
      · rw [if_neg (by rw [hb]; exact Bool.false_ne_true)] at q5
        exact ⟨H5, I6, q5⟩
/-- the generator at a, its number g: what it does next -/
def GAt (M : Model) (A : Around) (Y : Cx) (pn : List (Addr × Obj)) (tn : Nat → Heap → Prop) (fp : List Addr) (W : Nat → Hp → Prop) (Q : VK) (g m : Nat) (s : Shared) : Prop :=
  ∃ i gs, GSt Y pn tn fp W i s ∧ s.gens[g]? = some gs ∧ ∀ s', GSt Y pn tn fp W i s' → gs.Goes M A (gEnd Y pn Q) (gPro Y pn tn fp W Q) m (.send .none) s'
theorem gst_set {Y : Cx} {i g : Nat} {s : Shared} {y : GenState} (h : GSt Y pn tn fp W i s) (hy : y.bare = true) : GSt Y pn tn fp W i (s.setGen g y) := by
  obtain ⟨H', I, r⟩ := h
  exact ⟨H', inv_setGen I hy, r⟩
theorem fin_set {Y : Cx} {g : Nat} {s : Shared} {y : GenState} {b : Bool} (h : gFin Y pn Q b s) (hy : y.bare = true) : gFin Y pn Q b (s.setGen g y) := by
  obtain ⟨H', I, r⟩ := h
  exact ⟨H', inv_setGen I hy, r⟩
theorem fin_kept {Y : Cx} {s : Shared} {b : Bool} {h' : Heap} (h : gFin Y pn Q b s) (k : ∀ b o, s.heap.get? b = some o → h'.get? b = some o) : gFin Y pn Q b { s with heap := h' } := by
  obtain ⟨H', I, r⟩ := h
  exact ⟨H', I.kept (t' := s.toks) k, r⟩
theorem set_at {s : Shared} {g : Nat} {y : GenState} (h : g + 1 ≤ (s.setGen g y).gens.size) : (s.setGen g y).gens[g]? = some y := by
  have z : g < s.gens.size := by
    have e : (s.setGen g y).gens.size = s.gens.size := Array.size_setIfInBounds
    omega
  show (s.gens.setIfInBounds g y)[g]? = some y
  rw [Array.getElem?_setIfInBounds, if_pos rfl, if_pos z]
theorem all_run {Y : Cx} {a : Addr} {g : Nat} {G : Obj} {R : Result → Shared → Prop} (hp : (a, G) ∈ pn) (hG : ∀ h : Heap, h.get? a = some G → h.IsGen a g) (hh : X.A.handled = none) (hd : X.A.depth + 2 < recursionLimit)
    (hR : ∀ b s', gFin Y pn Q b s' → R (.ok (.ret (.bool b))) s') :
    ∀ (m : Nat) (s : Shared), GAt (model X.prog X.w) X.A.in1.in1 Y pn tn fp W Q g m s → codeAny (model X.prog X.w) X.A (.builtin "all.loop" ⟨[.ref a], []⟩) R s := by
  have turn : ∀ (m : Nat) (s : Shared), GAt (model X.prog X.w) X.A.in1.in1 Y pn tn fp W Q g m s →
      (∀ s', (∃ k, m = k + 1 ∧ GAt (model X.prog X.w) X.A.in1.in1 Y pn tn fp W Q g k s') → codeAny (model X.prog X.w) X.A (.builtin "all.loop" ⟨[.ref a], []⟩) R s') → codeAny (model X.prog X.w) X.A (.builtin "all.loop" ⟨[.ref a], []⟩) R s := by
    rintro m s ⟨i, gs, st, hgs, goes⟩ next
    obtain ⟨H, I, _⟩ := id st
    have gen : s.heap.IsGen a g := hG _ (I.pin (a, G) (List.mem_append_right _ hp)).1
    have hgl : g + 1 ≤ s.gens.size := (Array.getElem?_eq_some_iff.mp hgs).1
    refine codeAny_builtin (F.entry_all_loop) ?_
    rw [Around.under_plainId (F.plain_all_loop) _]
    show wpAny (model X.prog X.w) X.A.in1 (pyNext (.ref a) >>= _) _ _ s
    refine wpAny_bind (GenW.wpAny_gsz (n := g + 1) hgl (wpAny_pyNext_genexpQ (n := m) (P := fun _ _ s1 => gFin Y pn Q true s1) (Y := gPro Y pn tn fp W Q) hh I.nolimit (by show X.A.depth < recursionLimit; omega) gen hgs (goes _ (gst_set st rfl)) (fun v s1 gs' hb hv => ?_) (fun s1 hf h' hk => ?_)))
    · intro hgl2
      obtain ⟨b, rfl, yes, no⟩ := hv
      refine wpAny_bind (wpAny_holding (wpAny_truthy_bool ?_))
      refine wpAny_bind (wpAny_letGo ?_)
      cases b with
      | true =>
        obtain ⟨i2, st2, kap⟩ := yes rfl
        simp only [if_true]
        cases m with
        | zero => exact (kap s1 st2).elim
        | succ k => exact wpAny_pure ⟨plainId_quiet (F.plain_all_loop) _, next _ ⟨k, rfl, i2, gs', gst_set st2 hb, set_at hgl2, fun s' h => kap s' h⟩⟩
      | false =>
        simp only [Bool.false_eq_true, if_false]
        exact wpAny_bind (wpAny_rule (wpAny_pure (hR false _ (fin_set (no rfl) hb))))
    · intro _
      refine wpAny_bind (wpAny_rule (wpAny_pure ?_))
      exact hR true _ (fin_kept (fin_set hf rfl) hk)
  intro m
  induction m with
  | zero => exact fun s h => turn 0 s h fun s' ⟨k, e, _⟩ => (by cases e)
  | succ m ih => exact fun s h => turn (m + 1) s h fun s' ⟨k, e, z⟩ => ih s' (by cases e; exact z)
end
/-- .. in the def: the table of the def's code may have grown ahead of it -/
def tAllG (P : Addr) (wi : TI) (te : TE) : TE := fun σ H Q => wi σ H fun J H1 => GxR.TabG H1 P ∧ ∃ (n : Nat) (W : Nat → Hp → Prop), (∀ H2, GxR.Tabbed P H1 H2 → W 0 H2) ∧ GTurn J te n W Q
theorem gen_den {X : Cx} {elt iter : Expr} {x : Str} {px gp : Pos} {sc : Scope} {it : Addr} {env : Env} {fp : List Addr} {pn : List (Addr × Obj)} {tn : Nat → Heap → Prop} {W : Nat → Hp → Prop} {Q : VK} {Y : Cx} {J : It} {n : Nat} (T : Turn X.prog X.w X.K (.Name x px) J fp it tn)
    (loop : ∀ (s s₀ : Shared), GSt Y pn tn fp W 0 s → Seg (model X.prog X.w) X.A.in1.in1 (gEnd Y pn Q) (gPro Y pn tn fp W Q) n s₀ (.compLoop (.GeneratorExp elt [⟨.Name x px, iter, [], 0⟩] sc gp) 0 (.ref it) .none env)
      ((model X.prog X.w).den (.compLoop (.GeneratorExp elt [⟨.Name x px, iter, [], 0⟩] sc gp) 0 (.ref it) .none env)) [] s) (s s₀ : Shared) (st : GSt Y pn tn fp W 0 s) :
    Seg (model X.prog X.w) X.A.in1.in1 (gEnd Y pn Q) (gPro Y pn tn fp W Q) n s₀ (.compStart (.GeneratorExp elt [⟨.Name x px, iter, [], 0⟩] sc gp) 0 (.ref it) .none env)
      ((model X.prog X.w).den (.compStart (.GeneratorExp elt [⟨.Name x px, iter, [], 0⟩] sc gp) 0 (.ref it) .none env)) [] s := by
  have go := loop s s₀ st
  obtain ⟨H', I, st0, _⟩ := id st
  show Seg _ _ _ _ _ s₀ _ ((compStart _ 0 (.ref it) .none env).onRaise (leaving env)) [] s
  unfold compStart
  rw [Sem.onRaise_eq_wrap]
  show Seg _ _ _ _ _ s₀ _ ((ask >>= _).wrap _ _ _ _) [] s
  refine seg_bind_wrap (wpAny_askSetting ?_)
  split
  · exact seg_again rfl go
  · refine seg_bind_wrap (wpAny_rule ?_)
    show Seg _ _ _ _ _ s₀ _ ((standAt iter.pos >>= _).wrap _ _ _ _) [] s
    refine seg_bind_wrap (wpAny_standAt (seg_bind_wrap ?_))
    exact T.self _ 0 s _ _ st0 (seg_again rfl go)
theorem no_clo {cells : List (Str × Addr)} : ∀ (l : List (Str × NameKind)), (∀ y ∈ l, y.2 ≠ .free) → cloFrom cells l [] = []
  | [], _ => rfl
  | (n, k) :: r, h => by
    have z := no_clo (cells := cells) r fun y hy => h y (List.mem_cons_of_mem _ hy)
    have hk : k ≠ .free := h (n, k) List.mem_cons_self
    unfold cloFrom
    cases k <;> first | exact z | exact absurd rfl hk
theorem pe_allG {X : Cx} {c P : Addr} {elt iter : Expr} {x : Str} {px p pos gp : Pos} {scope : Scope} {wi : TI} {te : TE} {k : Nat}
    (hr : Room k X.A) (hg : Gl X "all") (hm : X.mg "all" = none) (hb : bootBuiltins "all" = some (.builtin "all")) (TB : GxR.TabB X.base X.mg c P) (hcode : X.env.code = .ref c) (S : GnS scope x) (hi : PI X (.Name x px) iter wi)
    (hel : ∀ (it C : Addr) (s : Shared) (H : Hp) (code : Value) (fp : List Addr), PE (gCx X (.GeneratorExp elt [⟨.Name x px, iter, [], 0⟩] scope gp) it x s H (gEnv X scope C code) fp) elt te)
    (hs : ∀ v, genFold iter X.env v = pure v)
    (he : starEach [.GeneratorExp elt [⟨.Name x px, iter, [], 0⟩] scope gp] X.env = (false, eval (.GeneratorExp elt [⟨.Name x px, iter, [], 0⟩] scope gp) X.env) :: starEach [] X.env := by rfl) :
    PE X (.Call (.Name "all" p) [.GeneratorExp elt [⟨.Name x px, iter, [], 0⟩] scope gp] [] pos) (tAllG P wi te) := by
  have dep := hr.dp
  refine ⟨fun pins s σ H Q I h => ?_⟩
  refine wpAny_Call_Name_kw (ld_blt I hg hm hb ?_)
  refine PyProof.Rows.callWith_builtin1 ?_ he (by rfl)
  rw [he]
  refine Calls.spliced_cons (wpAny_GeneratorExp_make (cl := []) S.co ?_ S.cell S.dot S.kind (by omega) ?_ hs)
  · rw [closure_ok (fun y hy e => absurd e (S.free y hy)), no_clo _ S.free]
  refine thn (hi.run pins s σ H _ I h) fun xv s1 hx => thn hx fun itv s2 ⟨it, fp, tn, J, H2, e, I2, T, st2, f2, TG, n, W, w0, turn⟩ => ⟨I2.nolimit, ?_⟩
  subst e
  obtain ⟨ps, hP, ht⟩ := TG
  have hPs : s2.heap.get? P = some { cls := .none, data := .fields ps } := I2.hok P _ hP
  have cd : PySem.W.CodeHd s2.heap c P := TB.code.keeps I2.bk
  have fpP : ∀ b ∈ fp, b ≠ P := fun b hb z => by
    have q := (f2 b hb).1
    rw [z, hP] at q
    cases q
  have cont : ∀ (code : Value) (h3 : Heap) (tk : Nat) (ps' : Array Value), Heap.ExtBut P s2.heap h3 → s2.heap.objs.size ≤ h3.objs.size → h3.get? P = some { cls := .none, data := .fields ps' } → (∃ more, ps' = ps ++ more) → TriplesOk ps'.toList →
      wpAny (model X.prog X.w) X.A (builtinsFor X.env.globals X.env.builtins) (fun bi s₄ => ∀ h', h'.Ns s₄.heap.objs.size (fun y => if y = ".0" then some (.ref it) else none) →
        Heap.SameBut s₄.heap.objs.size (s₄.heap.push { cls := .type "frame", data := .dict #[] }) h' → wpAny (model X.prog X.w) X.A (spliced (backTo pos (starEach [] X.env))) (fun us s' => wpAny (model X.prog X.w) X.A (call (.builtin "all") (.ref h'.objs.size :: us)) (EP X pins σ Q) X.xe s') X.xe
          { s₄ with gens := s₄.gens.push (.fresh (.compStart (.GeneratorExp elt [⟨.Name x px, iter, [], 0⟩] scope gp) 0 (.ref it) .none (genEnv scope [] s₄.heap.objs.size code bi X.env))), toks := s₄.toks + 1 + 1 + 1,
                    heap := h'.push { cls := .type "generator", data := .fields #[.int s₄.gens.size 0, .str "<genexpr>" (s₄.toks + 1), .str (X.env.qual ++ "<genexpr>") (s₄.toks + 1 + 1)] } }) X.xe { s2 with heap := h3, toks := tk } := by
    intro code h3 tk ps' hx hsz hP3 hmore ht3
    obtain ⟨bm, ob, e1, e2, e3, e4, e5, e6, e7, e8⟩ := TB.bm
    have keep3 : ∀ b u, b ≠ P → s2.heap.get? b = some u → h3.get? b = some u := fun b u hb e => hx b u hb e
    refine wpAny_builtinsFor (m := X.mg) (by rw [I2.ok.glob]; exact (I2.mod.glob.keeps I2.bk).extBut hx TB.gP) e1 e2 (keep3 _ _ e4 (I2.bk _ _ e5)) e6 e7 e8 ?_
    obtain ⟨more, em⟩ := hmore
    have I4 := GxR.inv_tab (more := more) (h' := h3) (g' := s2.gens) (d' := s2.drawn) (t' := tk) I2 hP (fun b u hb e => keep3 b u hb e) (by rw [← em]; exact hP3) I2.bare
    generalize hs4 : ({ s2 with heap := h3, toks := tk } : Shared) = s4 at I4 ⊢
    have h4 : s4.heap = h3 := by rw [← hs4]
    have tabbed : GxR.Tabbed P H2 (upd H2 P (.tbl (ps ++ more))) := ⟨⟨_, upd_same, by rw [← em]; exact ht3⟩, fun b hb => upd_ne hb⟩
    generalize upd H2 P (.tbl (ps ++ more)) = H4 at I4 tabbed
    have lt4 : ∀ b ∈ fp, b < s4.heap.objs.size := fun b hb => by
      obtain ⟨o, e, _⟩ := T.obj _ _ st2 b hb
      have z := Heap.lt_size e
      rw [h4]
      exact Nat.lt_of_lt_of_le z hsz
    have f4 : ∀ b ∈ fp, FpOk X pins H4 b ∧ b < s4.heap.objs.size := fun b hb => ⟨⟨(tabbed.2 b (fpP b hb)).trans (f2 b hb).1, (f2 b hb).2⟩, lt4 b hb⟩
    intro h' hn' hs'
    have sz' : h'.objs.size = s4.heap.objs.size + 1 := by rw [hs'.1, Heap.size_push]
    have kp : ∀ b o, s4.heap.get? b = some o → h'.get? b = some o := fun b o e => hs'.extBut b o (Nat.ne_of_lt (Heap.lt_size e)) (Heap.get?_push_of_some _ e)
    generalize hG : ({ cls := .type "generator", data := .fields #[.int s4.gens.size 0, .str "<genexpr>" (s4.toks + 1), .str (X.env.qual ++ "<genexpr>") (s4.toks + 1 + 1)] } : Obj) = G
    have IG := gen_inv (elt := elt) (cs := [⟨.Name x px, iter, [], 0⟩]) (sc := scope) (gp := gp) (it := it) (code := code) (G := G) (g' := s4.gens.push (.fresh (.compStart (.GeneratorExp elt [⟨.Name x px, iter, [], 0⟩] scope gp) 0 (.ref it) .none (gEnv X scope s4.heap.objs.size code)))) (tk := s4.toks + 1 + 1 + 1)
      I4 S hr.hd f4 hn' sz' kp (I4.bare.push rfl) (fun v z => by rw [← hG] at z; cases z) (by rw [← hG] <;> rfl)
    have st5 : tn 0 (h'.push G) := T.keep _ _ _ st2 fun b hb o e => Heap.get?_push_of_some _ (kp b o (by rw [h4]; exact keep3 b o (fpP b hb) e))
    refine Calls.spliced_nil ?_
    have isG : ∀ hp : Heap, hp.get? h'.objs.size = some G → hp.IsGen h'.objs.size s4.gens.size := fun hp e => ⟨G, _, _, e, by rw [← hG], by rw [← hG], by rw [← hG]⟩
    have hpn : ∀ b ∈ fp, ∀ p ∈ [(h'.objs.size, G)], p.1 ≠ b := fun b hb p hp z => by
      obtain rfl := List.mem_singleton.mp hp
      have q : b < s4.heap.objs.size := lt4 b hb
      have z2 : h'.objs.size = b := z
      rw [← z2, sz'] at q
      exact Nat.lt_irrefl _ (Nat.lt_of_succ_lt q)
    have loop := gen_seg (elt := elt) (iter := iter) (px := px) (gp := gp) (sc := scope) (Q := Q) (tn := tn) (n := n) rfl S.co T (pg_name (X := gCx X (.GeneratorExp elt [⟨.Name x px, iter, [], 0⟩] scope gp) it x s4 H4 (gEnv X scope s4.heap.objs.size code) fp) (List.nodup_cons.mpr ⟨List.not_mem_nil, List.nodup_nil⟩) rfl (.inl S.loc) (.inr S.loc))
      (hel it s4.heap.objs.size s4 H4 code fp) turn hpn
    refine call_function_tree (F.kind_all) (F.plain_all) (F.entry_all) (F.args_all1 _) ?_
    unfold Builtin.«all»
    refine wpAny_bind (m := oneArg "all" _) (wpAny_pure ?_)
    refine wpAny_bind (wpAny_pyIter_gen (isG _ (IG.pin (h'.objs.size, G) (List.mem_singleton.mpr rfl)).1) ?_)
    refine wpAny_pure ⟨plainId_quiet (F.plain_all_loop) _, all_run (pn := [(h'.objs.size, G)]) (tn := tn) (fp := fp) (W := W) (Q := Q) (List.mem_singleton.mpr rfl) isG hr.hd (by omega) (fun b s' hf => ?_) n _ ⟨0, _, ⟨H4, IG, st5, fun b hb => (f4 b hb).1.1, w0 H4 tabbed⟩, Array.getElem?_push_size .., fun s' hst => ⟨rfl, gen_den T (fun s s₀ q => loop n 0 s s₀ (Nat.sub_zero n) q) s' s' hst⟩⟩⟩
    obtain ⟨H', IY, q⟩ := hf
    have J := I4.call' (ch := fp) IY.os IY.base IY.hok IY.bare fun b hb => ⟨(f4 b hb).1.2.2.2.1, (f4 b hb).1.2.1, (f4 b hb).1.2.2.2.2.1, (f4 b hb).1.2.2.2.2.2⟩
    exact ⟨.bl b, H', J, rfl, q⟩
  cases hf : codeAmong gp ps.toList with
  | none =>
    refine wpAny_genexprCodeX hcode (cd.code hPs ht) (cd.tab hPs) hf fun c' h' tk hx hge hlt hco' _ htab' _ => ?_
    obtain ⟨o1, vs, f1, tf, fl, tg, inF, tx, tt, op, _, _, _, _, _, _, _, _, _, htr, _⟩ := hco'
    exact cont _ h' tk _ hx (Nat.le_trans hge (Nat.le_of_lt hlt)) htab'.2 ⟨_, rfl⟩ htr
  | some cv =>
    refine wpAny_genexprCode_hit hcode (cd.code hPs ht) hf ?_
    exact cont cv s2.heap s2.toks ps (Heap.ExtBut.refl _ _) (Nat.le_refl _) hPs ⟨#[], by simp⟩ ht
end KR
/-! ### defs whose code has a table (a generator expression stands in them): what is kept around their calls, and the law's end with such tables -/
namespace KR
open PySem PySem.Spec PyProof.Rows L2
/-- what was tracked is as it was; tables may have grown -/
structure Sm (H H' : Hp) : Prop where
  keep : ∀ b o, H b = some o → (∀ q, o ≠ .tbl q) → H' b = some o
  tab : ∀ b, GxR.TabG H b → GxR.TabG H' b
theorem tab_at {H : Hp} {b : Addr} (h : GxR.TabG H b) : ∃ q, H b = some (.tbl q) := h.elim fun q z => ⟨q, z.1⟩
theorem Sm.refl {H : Hp} : Sm H H := ⟨fun _ _ h _ => h, fun _ h => h⟩
theorem Sm.trans {H H1 H2 : Hp} (a : Sm H H1) (b : Sm H1 H2) : Sm H H2 := ⟨fun c o h n => b.keep c o (a.keep c o h n) n, fun c h => b.tab c (a.tab c h)⟩
theorem Sm.of {H H1 : Hp} (a : Same H H1) : Sm H H1 := ⟨fun c o h _ => a c o h, fun c ⟨q, e, t⟩ => ⟨q, a _ _ e, t⟩⟩
theorem Sm.tabbed {H H1 : Hp} {P : Addr} (a : GxR.Tabbed P H H1) (h : GxR.TabG H P) : Sm H H1 := by
  obtain ⟨q, e, _⟩ := h
  refine ⟨fun c o h n => ?_, fun c ⟨q2, e2, t2⟩ => ?_⟩
  · have ne : c ≠ P := fun z => by
      rw [z, e] at h
      exact n q (Option.some.inj h).symm
    rw [a.2 c ne]
    exact h
  · by_cases z : c = P
    · rw [z]
      exact a.1
    · exact ⟨q2, (a.2 c z).trans e2, t2⟩
theorem Sm.tup {K : PySem.W.Frag} {H H' : Hp} {a : Addr} {xs : List V} (e : Sm H H') (h : SqT K H a xs) : SqT K H' a xs := by
  rcases h with (h | ⟨o, h⟩) | h
  · exact .inl (.inl (e.keep _ _ h nofun))
  · exact .inl (.inr ⟨o, e.keep _ _ h nofun⟩)
  · exact .inr h
theorem Sm.seq {K : PySem.W.Frag} {H H' : Hp} {a : Addr} {xs : List V} (e : Sm H H') (h : SqL K H a xs) : SqL K H' a xs := by
  rcases h with (h | ⟨o, h⟩) | h
  · exact .inl (.inl (e.keep _ _ h nofun))
  · exact .inl (.inr ⟨o, e.keep _ _ h nofun⟩)
  · exact .inr h
theorem Sm.lst {H H' : Hp} {a : Addr} {xs : List V} (e : Sm H H') (h : H a = some (.lst xs)) : H' a = some (.lst xs) := e.keep _ _ h nofun
theorem BoxAt.sm {H H' : Hp} {p : Addr} {n : Nat} (h : BoxAt H p n) (s : Sm H H') : BoxAt H' p n := by
  obtain ⟨a, b, c, h1, h2⟩ := h
  exact ⟨a, b, c, s.lst h1, h2⟩
/-- .. but the box p -/
structure Fs (p : Addr) (H H' : Hp) : Prop where
  keep : ∀ b o, b ≠ p → H b = some o → (∀ q, o ≠ .tbl q) → H' b = some o
  tab : ∀ b, b ≠ p → GxR.TabG H b → GxR.TabG H' b
theorem Fs.refl {p : Addr} {H : Hp} : Fs p H H := ⟨fun _ _ _ h _ => h, fun _ _ h => h⟩
theorem Fs.trans {p : Addr} {H H1 H2 : Hp} (a : Fs p H H1) (b : Fs p H1 H2) : Fs p H H2 := ⟨fun c o e h n => b.keep c o e (a.keep c o e h n) n, fun c e h => b.tab c e (a.tab c e h)⟩
theorem Fs.of {p : Addr} {H H1 : Hp} (a : Fr p H H1) : Fs p H H1 := ⟨fun c o e h _ => a c o e h, fun c e ⟨q, g, t⟩ => ⟨q, a _ _ e g, t⟩⟩
theorem Fs.sm {p : Addr} {H H1 : Hp} (a : Sm H H1) : Fs p H H1 := ⟨fun c o _ h n => a.keep c o h n, fun c _ h => a.tab c h⟩
/-- so many tables are there -/
def Tbs (Ps : List Addr) (H : Hp) : Prop := ∀ P ∈ Ps, GxR.TabG H P
theorem Tbs.sm {Ps : List Addr} {H H' : Hp} (h : Tbs Ps H) (s : Sm H H') : Tbs Ps H' := fun P hP => s.tab P (h P hP)
theorem Tbs.fs {Ps : List Addr} {p : Addr} {H H' : Hp} {xs : List V} (h : Tbs Ps H) (hp : H p = some (.lst xs)) (s : Fs p H H') : Tbs Ps H' := fun P hP => s.tab P (fun z => by
  obtain ⟨q, e⟩ := tab_at (h P hP)
  rw [z, hp] at e
  cases e) (h P hP)
theorem box_lst {H : Hp} {p : Addr} {n : Nat} (h : BoxAt H p n) : ∃ xs, H p = some (.lst xs) := by
  obtain ⟨a, b, c, h1, _⟩ := h
  exact ⟨_, h1⟩
theorem Tbs.fr {Ps : List Addr} {p : Addr} {n : Nat} {H H' : Hp} (h : Tbs Ps H) (B : BoxAt H p n) (f : Fr p H H') : Tbs Ps H' := (box_lst B).elim fun _ e => h.fs e (.of f)
theorem Tbs.same {Ps : List Addr} {H H' : Hp} (h : Tbs Ps H) (s : Same H H') : Tbs Ps H' := h.sm (.of s)
/-- what is written into a list of the def's own touches no table -/
theorem Tbs.put {Ps : List Addr} {H : Hp} {D : Addr} {xs ys : List V} (h : Tbs Ps H) (hd : H D = some (.lst xs)) : Tbs Ps (upd H D (.lst ys)) := h.fs hd (.of fr_updL)
where fr_updL : Fr D H (upd H D (.lst ys)) := fun b o n e => by rw [upd_ne n]; exact e
theorem Sm.put {H0 H : Hp} {D : Addr} {o : HO} (s : Sm H0 H) (h : H0 D = none) : Sm H0 (upd H D o) :=
  ⟨fun b u e n => by rw [upd_ne (ne_of_none e h)]; exact s.keep b u e n, fun b ⟨q, e, t⟩ => by
    obtain ⟨q2, e2, t2⟩ := s.tab b ⟨q, e, t⟩
    exact ⟨q2, by rw [upd_ne (ne_of_none e h)]; exact e2, t2⟩⟩
/-- a def of the text whose code object is known -/
structure FunC (K : PySem.W.Frag) (x qual : Str) (st : Stmt) (f : Addr) (fd : FuncData) (c : Addr) : Prop where
  ex : ∃ (oc : Value) (od : Option Addr) (kV doc pm : Value) (an : Option Addr) (ct : Value) (osl : Array (Option Value)),
    fd = PySem.W.fnOf x qual (defArgs st) (defBody st) (defScope st) .none kV doc pm an (.ref c) ct ∧ K.lookup f = some ⟨oc, od, .func fd, osl⟩ ∧ PySem.W.codeIn K (.ref c) qual = true
theorem funC_mk {K : PySem.W.Frag} {x qual : Str} {st : Stmt} {f c : Addr} {oc : Value} {od an : Option Addr} {osl : Array (Option Value)} {kV doc pm ct : Value} (l : K.lookup f = some ⟨oc, od, .func (PySem.W.fnOf x qual (defArgs st) (defBody st) (defScope st) .none kV doc pm an (.ref c) ct), osl⟩)
    (h : PySem.W.codeIn K (.ref c) qual = true) : FunC K x qual st f (PySem.W.fnOf x qual (defArgs st) (defBody st) (defScope st) .none kV doc pm an (.ref c) ct) c := ⟨⟨oc, od, kV, doc, pm, an, ct, osl, rfl, l, h⟩⟩
section
variable {P : Program} {w : World} {K : PySem.W.Frag} {mg : Str → Option Value} {base : Heap}
theorem FunC.ok {x qual : Str} {st : Stmt} {f c : Addr} {fd : FuncData} {N ps : List Str} {k : Nat} {sp : Sp} (F : FunC K x qual st f fd c) (S : FnScope N ps (defScope st)) (len : ∀ vs H Q E, sp vs H Q E → vs.length = ps.length)
    (body : ∀ (cdv : Value) (A : Around) (outer : List Env) (s : Shared) (H : Hp) (vs : List V) (Q : VK) (E : XK), cdv = .ref c → Room k (A.deeper (envOfC qual (defScope st) s.heap.objs.size f cdv)) → sp vs H Q E →
      ∃ t, PSs (cxOf CX0 P w K mg base N qual (defScope st) f cdv A outer s H E).nox (defBody st) t ∧ t { nx := fun _ H' => Q .non H', rt := Q } (start N vs) H) : FnOk P w K mg base CX0 (k + 1) f fd ps sp := by
  obtain ⟨_, _, _, _, _, _, _, _, rfl, lk, hcd⟩ := F.ex
  exact fn_of lk hcd S len fun A outer s H vs Q E hr hsp => (body (.ref c) A outer s H vs Q E rfl hr hsp).elim fun t z => ⟨t, z.1.nox, z.2⟩
end
section
variable {P : Program} {w : World} {K : PySem.W.Frag} {mg mb : Str → Option Value} {k : Nat} {fa a : Addr} {fd : FuncData} {x : Str} {sp : Sp} {s₁ : Shared} {vs : List Value} {ns : List Int}
/-- what is tracked when the law is called: the script and the tables -/
def scrT (K : PySem.W.Frag) (a : Addr) (ob : Obj) (ns : List Int) (Ps : List Addr) : Hp := fun b => if b ∈ Ps then some (.tbl #[]) else scr K a ob ns b
theorem scrT_some {ob : Obj} {Ps : List Addr} {b : Addr} {u : HO} (h : scrT K a ob ns Ps b = some u) : (b ∈ Ps ∧ u = .tbl #[]) ∨ (b ∉ Ps ∧ b = a ∧ K.lookup a = none ∧ u = .frz ob (.lst (ns.map V.int))) := by
  unfold scrT at h
  split at h
  · rename_i c
    exact .inl ⟨c, (Option.some.inj h).symm⟩
  · rename_i c
    exact .inr ⟨c, scr_some h⟩
abbrev eob : Obj := { cls := .none, data := .fields #[] }
theorem call_lawT {cs : List (Addr × Addr)} (inK : K.In s₁.heap) (gl : s₁.heap.Ns mainGlobals mg) (bl : s₁.heap.Ns builtinsNs mb) (boot : ∀ x : Str, x ≠ "__name__" → mb x = bootBuiltins x) (lim : s₁.heap.NoLimit) (quiet : s₁.gens = #[])
    (empty : ∀ p ∈ cs, s₁.heap.get? p.2 = some eob) (noK : ∀ p ∈ cs, K.lookup p.2 = none) (head : ∀ p ∈ cs, PySem.W.CodeHd s₁.heap p.1 p.2)
    (bmain : ∃ (bm : Addr) (ob : Obj), mg "__builtins__" = some (.ref bm) ∧ bm ≠ builtinsNs ∧ s₁.heap.get? bm = some ob ∧ ob.cls = .type "module" ∧ ob.dict = some builtinsNs ∧ ob.data = .plain)
    (there : s₁.heap.get? a = some { cls := .type "list", data := .seq vs.toArray }) (areInts : IntsAre vs ns) (len : ns.length ≤ sizeLine) (room : Room k callerA)
    (F : ∀ base : Heap, K.In base → base.Ns mainGlobals mg → (∀ p ∈ cs, GxR.TabB base mg p.1 p.2) → FnG P w K mg base k fa fd [x] sp) (binds : ∀ (s : Shared) (u : Value), BindsTo s fd ⟨[u], []⟩ [(x, u)])
    (asked : ∀ H : Hp, Tbs (cs.map (·.2)) H → SqL K H a (ns.map V.int) → sp [.ref a] H (fun v _ => v = .bl true) fun _ _ _ => False) :
    codeAny (model P w) callerA (.call (.ref fa) ⟨[.ref a], []⟩) (fun r s' => r = .ok (.ret (.bool true)) ∧ OldK s₁.heap s'.heap ∧ s'.os = s₁.os ∧ AllBare s'.gens) s₁ := by
  let ob : Obj := { cls := .type "list", data := .seq vs.toArray }
  let Ps := cs.map (·.2)
  let H := scrT K a ob ns Ps
  have at_ : ∀ {b u}, H b = some u → (b ∈ Ps ∧ u = .tbl #[]) ∨ (b ∉ Ps ∧ b = a ∧ K.lookup a = none ∧ u = .frz ob (.lst (ns.map V.int))) := scrT_some
  have isT : ∀ b ∈ Ps, s₁.heap.get? b = some eob := fun b hb => by
    obtain ⟨p, hp, e⟩ := List.mem_map.mp hb
    rw [← e]
    exact empty p hp
  have aT : a ∉ Ps := fun z => by
    have q := Option.some.inj ((isT a z).symm.trans there)
    have q2 : Data.fields #[] = Data.seq vs.toArray _ := congrArg Obj.data q
    cases q2
  have no : ∀ b o, s₁.heap.get? b = some o → (∀ q n, o.data ≠ .seq q n) → o.data ≠ .fields #[] → H b = none := fun b o e d1 d2 => by
    cases c : H b with
    | none => rfl
    | some u =>
      rcases at_ c with ⟨hb, _⟩ | ⟨_, rfl, _⟩
      · have q := Option.some.inj (e.symm.trans (isT b hb))
        exact absurd (by rw [q]) d2
      · have q := Option.some.inj (e.symm.trans there)
        exact absurd (by rw [q]) (d1 vs.toArray _)
  have keepNs : ∀ {b : Addr} {m : Str → Option Value}, s₁.heap.Ns b m → (hidT s₁.heap H).Ns b m := fun {b m} ⟨o, es, ep, e, d, r⟩ =>
    ⟨o, es, ep, hidT_get e (no b o e (fun q n z => by rw [d] at z; cases z) fun z => by rw [d] at z; cases z), d, r⟩
  have keepK : K.In (hidT s₁.heap H) := fun b o e => hidT_get (inK b o e) (by
    cases c : H b with
    | none => rfl
    | some u =>
      rcases at_ c with ⟨hb, _⟩ | ⟨_, rfl, n, _⟩
      · obtain ⟨p, hp, e2⟩ := List.mem_map.mp hb
        rw [← e2, noK p hp] at e
        cases e
      · rw [n] at e
        cases e)
  have rel := vals_ints areInts
  have holds : HOk P w H s₁.heap := fun b u c => by
    rcases at_ c with ⟨hb, rfl⟩ | ⟨_, rfl, _, rfl⟩
    · exact isT b hb
    · exact ⟨there, by rw [List.length_map]; exact len, vs, _, rel, there⟩
  have tbs : Tbs Ps H := fun b hb => ⟨#[], if_pos hb, by first | trivial | simp [TriplesOk]⟩
  have script : SqL K H a (ns.map V.int) := by
    cases c : K.lookup a with
    | none => exact Or.inl (Or.inr ⟨ob, (if_neg aT).trans (if_pos ⟨rfl, c⟩)⟩)
    | some o =>
      have e := Option.some.inj ((inK a o c).symm.trans there)
      subst e
      exact Or.inr ⟨_, vs.toArray, _, c, rfl, rfl, rfl, by rw [List.size_toArray, areInts.length]; exact len, by simpa using rel⟩
  have modul : Mod K mg (hidT s₁.heap H) := ⟨keepK, keepNs gl, ⟨mb, keepNs bl, boot⟩, lim.elim fun mc z => ⟨mc, keepNs z.1, z.2⟩⟩
  have tabB : ∀ p ∈ cs, GxR.TabB (hidT s₁.heap H) mg p.1 p.2 := fun p hp => by
    refine ⟨?_, ?_, fun z => ?_⟩
    · obtain ⟨o, us, file, tf, flags, tg, inF, text, tt, e1, r0, r1, r2, rest⟩ := head p hp
      refine ⟨o, us, file, tf, flags, tg, inF, text, tt, hidT_get e1 (no _ _ e1 (fun q n z => ?_) fun z => ?_), r0, r1, r2, rest⟩
      · rw [r1] at z
        cases z
      · rw [r1] at z
        cases z
        simp at r2
    · obtain ⟨bm, o, b1, b2, b3, b4, b5, b6⟩ := bmain
      refine ⟨bm, o, b1, b2, fun q => ?_, fun q => ?_, hidT_get b3 (no _ _ b3 (fun q n z => ?_) fun z => ?_), b4, b5, b6⟩
      · obtain ⟨o2, es, ep, e, d, _⟩ := gl
        rw [q, e] at b3
        cases b3
        rw [d] at b6
        cases b6
      · rw [q, empty p hp] at b3
        cases b3
        cases b6
      · rw [b6] at z
        cases z
      · rw [b6] at z
        cases z
    · obtain ⟨o2, es, ep, e, d, _⟩ := gl
      rw [z, empty p hp] at e
      cases e
      cases d
  have start0 : Env0 P w K mg (hidT s₁.heap H) callerA [] s₁ H := ⟨rfl, modul, fun b o e => of_hidT e, Nat.le_of_eq (hidT_size _ _), trivial, fun b hb => (List.not_mem_nil hb).elim, holds, .of_eq quiet⟩
  refine codeAny_mono ((F _ keepK (keepNs gl) tabB).does callerA [] s₁ H _ [.ref a] [.ref a] _ _ room rfl start0 (binds s₁ (.ref a)) (.cons rfl .nil) (asked H tbs script)) ?_
  intro r s' post
  match r, post with
  | .error e, post => exact False.elim post
  | .ok .next, post => exact post.elim
  | .ok .brk, post => exact post.elim
  | .ok .cont, post => exact post.elim
  | .ok (.ret u), ⟨v, H', os, bare, un, held, rv, e⟩ =>
    cases (show v = V.bl true from e)
    cases (show u = Value.bool true from rv)
    have key : ∀ b o, b ∉ Ps → s₁.heap.get? b = some o → s'.heap.get? b = some o := fun b o nb g => by
      cases c : H b with
      | none => exact un.keep b o g c (fun z => (List.not_mem_nil z).elim) (fun z => (List.not_mem_nil z).elim)
      | some u =>
        rcases at_ c with ⟨hb, _⟩ | ⟨_, rfl, _, rfl⟩
        · exact absurd hb nb
        · rw [Option.some.inj (g.symm.trans there)]
          exact (held b _ (un.frzs b ob _ c)).1
    have grown : ∀ p ∈ cs, ∃ more : Array Value, s'.heap.get? p.2 = some { cls := .none, data := .fields more } := fun p hp =>
      (un.tbls p.2 #[] (if_pos (List.mem_map.mpr ⟨p, hp, rfl⟩))).elim fun more z => ⟨_, held p.2 _ z⟩
    refine ⟨rfl, ⟨fun b o g => ?_, fun b o g => ?_⟩, os, bare⟩
    · by_cases hb : b ∈ Ps
      · obtain ⟨p, hp, e2⟩ := List.mem_map.mp hb
        obtain ⟨more, hm⟩ := grown p hp
        subst e2
        cases Option.some.inj (g.symm.trans (empty p hp))
        exact .inr (.inl ⟨((head p hp).tab (empty p hp)).isCodeTable, rfl, #[], more, rfl, by rw [Array.empty_append]; exact hm⟩)
      · exact .inl (key b o hb g)
    · by_cases hb : b ∈ Ps
      · obtain ⟨p, hp, e2⟩ := List.mem_map.mp hb
        subst e2
        exact (grown p hp).elim fun _ z => ⟨_, z⟩
      · exact ⟨o, key b o hb g⟩
end
/-- the goal that is left of a law: xs, the defs in which a generator expression stands -/
theorem walk_ofT {l : PySem.W.OpenLaw} {n k : Nat} {q : Program} {loose : List Str} {XP : (Str → Option Value) → Heap → Prop} {YP : World → Heap → Prop} {d : DefRec} {K : Params → PySem.W.Frag} {sp : World → List Addr → Sp} {x : Str} (xs : List Str)
    (most : l.most = some n) (n9 : n ≤ sizeLine) (nodf : d.params.defaults = []) (room : Room k callerA) (inK : ∀ (w : World) (h : Heap), YP w h → (K w.params).In h) (recs : ∀ y ∈ xs, ((recsOf q).any fun e => e.name == y) = true)
    (F : ∀ (w : World) (mg : Str → Option Value) (fa : Addr) (h : Heap), (K w.params).In h → h.Ns mainGlobals mg → mg d.name = some (.ref fa) →
      ∃ (fd : FuncData) (cs : List (Addr × Addr)), (∀ p ∈ cs, ∃ y ∈ xs, PySem.W.tabIn (K w.params) y = some p) ∧ (∀ p ∈ cs, (K w.params).lookup p.2 = none) ∧ (∀ (s : Shared) (u : Value), BindsTo s fd ⟨[u], []⟩ [(x, u)]) ∧
        ∀ base : Heap, (K w.params).In base → base.Ns mainGlobals mg → (∀ p ∈ cs, GxR.TabB base mg p.1 p.2) → FnG l.prog w (K w.params) mg base k fa fd [x] (sp w (cs.map (·.2))))
    (asked : ∀ (w : World) (Ps : List Addr) (H : Hp) (a : Addr) (ns : List Int), ns.length ≤ n → Tbs Ps H → SqL (K w.params) H a (ns.map V.int) → sp w Ps [.ref a] H (fun v _ => v = .bl true) fun _ _ _ => False) :
    PySem.W.WalkO q loose XP YP l.row.toRowW d [] (fun f vs => PySem.call f vs) :=
  Att.attach_call most nodf fun w s₀ s₁ mg mb fa o pm cd doc a vs ns G Y ho hd hcd hmg hobj hints hlen hg => by
    obtain ⟨fd, cs, ht, hn, b, f⟩ := F w mg fa _ (inK w _ Y) G.T.g hmg
    have tab : ∀ p ∈ cs, PySem.W.CodeHd s₁.heap p.1 p.2 ∧ s₁.heap.get? p.2 = some eob := fun p hp => by
      obtain ⟨y, hy, e⟩ := ht p hp
      obtain ⟨r, hr⟩ : ∃ r, (recsOf q).find? (fun e => e.name == y) = some r := Option.isSome_iff_exists.mp (by
        rw [List.find?_isSome]
        exact List.any_eq_true.mp (recs y hy))
      exact PySem.W.tab_of G.T (inK w _ Y) hr e
    exact call_lawT (inK w _ Y) G.T.g G.T.b G.T.builtins G.T.nolimit hg (fun p hp => (tab p hp).2) hn (fun p hp => (tab p hp).1) G.T.bmain hobj hints (Nat.le_trans hlen n9) room f b fun H tbs sc => asked w _ H a ns hlen tbs sc
/-- a comprehension in a comprehension -/
theorem blkOk_nest {N : List Str} {outer scope sc : Scope} {own : List (Str × Nat)} {cl : List (Str × Addr)} {C : Addr} {env : Env} (hs : env.scope = sc) (h : blkC N (relS outer sc) scope own = true) : BlkOk N (compEnvC outer cl C env).scope scope own := by
  subst hs
  exact blkOk_by h
/-- tuple(x) of a list or a tuple -/
def rTupI (K : PySem.W.Frag) : List V → Hp → VK → Prop := fun xs H Q => ∃ p ys, xs = [.ref p] ∧ ((SqL K H p ys ∧ ∀ l H', Same H H' → H l = none → H' l = some (.tup ys) → Q (.ref l) H') ∨ (SqT K H p ys ∧ Q (.ref p) H))
theorem tupI {X : Cx} {K : PySem.W.Frag} (h : X.K = K) : CallR X (.type "tuple") (rTupI K) := fun pins s σ H xs us Q I r ⟨p, ys, e, q⟩ =>
  call_tuple_of pins s σ H xs us Q I r ⟨p, ys, e, h ▸ q.imp (fun z => ⟨z.1, fun l hl => z.2 l _ (same_new hl) hl upd_same⟩) id⟩
theorem tabIn_of {K : PySem.W.Frag} {x : Str} {f c P : Addr} {oc e : Value} {od dd : Option Addr} {fd : FuncData} {osl sl : Array (Option Value)} {vs : Array Value} (a : PySem.W.nsIn K mainGlobals x = some (some (.ref f))) (l : K.lookup f = some ⟨oc, od, .func fd, osl⟩)
    (hc : fd.code = .ref c) (q : K.lookup c = some ⟨e, dd, .fields vs, sl⟩) (p : vs[11]? = some (.ref P)) : PySem.W.tabIn K x = some (c, P) := by
  unfold PySem.W.tabIn
  rw [a]
  dsimp only
  rw [l]
  dsimp only
  rw [hc]
  dsimp only
  rw [q]
  dsimp only
  rw [p]
end KR
/-! ### all(test for x in ..) whose test names one local of the def (a cell) -/
namespace KR
open PySem PySem.Spec PyProof.Rows L2
/-- the frame's scope: one name of its own, one captured -/
structure GnF (scope : Scope) (x y : Str) : Prop where
  kind : scope.kind = .function
  co : scope.isCoroutine = false
  cell : ∀ z ∈ scope.names, z.2 ≠ .cell
  free : ∀ z ∈ scope.names, z.2 = .free → z.1 = y
  clo : ∀ cells : List (Str × Addr), cloFrom cells scope.names [] = [(y, (cells.lookup y).getD 0)]
  fy : scope.names.lookup y = some .free
  dot : scope.names.lookup (".0" : Str) = some NameKind.local
  loc : scope.names.lookup x = some .local
theorem GnF.ne {scope : Scope} {x y : Str} (S : GnF scope x y) : x ≠ y := fun e => by
  have := S.loc.symm.trans (e ▸ S.fy)
  cases this
/-- the frame's environment, its around -/
abbrev gEnvF (X : Cx) (scope : Scope) (y : Str) (cy C : Addr) (code : Value) : Env := genEnv scope [(y, cy)] C code builtinsNs X.env
/-- the frame's context: it began at s, H; fp: what is walked -/
abbrev gCxF (X : Cx) (ge : Expr) (it : Addr) (x y : Str) (s : Shared) (H : Hp) (env : Env) (fp : List Addr) : Cx :=
  { prog := X.prog, w := X.w, K := X.K, mg := X.mg, base := X.base, A := gAr X ge it env, N := [x, y], s_0 := s, H_0 := H, env := env, outer := X.stack, stack := env :: X.stack, ex := fp, fn := fun _ => false, calm := true, pn := [], xe := fun _ _ => False }
section
variable {X : Cx} {pins : List (Addr × Obj)} {σ : L2.St} {H : Hp} {s : Shared}
theorem gen_okF {elt : Expr} {cs : List Comprehension} {sc : Scope} {gp : Pos} {it : Addr} {x y : Str} {cy : Addr} {scope : Scope} {code : Value} {fp : List Addr} (I : Inv X pins σ H s) (S : GnF scope x y) (hcy : X.env.cells.lookup y = some cy) (hh : X.A.handled = none) (hfp : ∀ b ∈ fp, FpOk X pins H b ∧ b < s.heap.objs.size) :
    (gCxF X (.GeneratorExp elt cs sc gp) it x y s H (gEnvF X scope y cy s.heap.objs.size code) fp).Ok := by
  have one : ∀ z c, ([(y, cy)] : List (Str × Addr)).lookup z = some c → z = y ∧ c = cy := fun z c e => by
    rw [List.lookup_cons] at e
    cases hz : z == y with
    | true =>
      rw [hz] at e
      exact ⟨by simpa using hz, (Option.some.inj e).symm⟩
    | false =>
      rw [hz] at e
      cases e
  exact {
    mod := I.ok.mod, kind := S.kind, glob := I.ok.glob, blt := rfl, above := Nat.le_refl _
    inj := fun z u c e1 e2 => (one z c e1).1.trans (one u c e2).1.symm
    has := fun z h => (by
      rcases h with h | h
      · exact absurd rfl (S.cell _ (PySem.mem_of_lookup h))
      · have e := S.free _ (PySem.mem_of_lookup h) rfl
        have e : z = y := e
        subst e
        exact ⟨cy, by show ([(z, cy)] : List (Str × Addr)).lookup z = some cy; rw [List.lookup_cons, beq_self_eq_true]⟩)
    cab := fun y c z _ => (by cases z)
    hd := fun _ => hh
    frames := (by
      show pushEnvs [gEnvF X scope y cy s.heap.objs.size code] (pushEnvs [] X.A.frames) = _
      rw [I.ok.frames] <;> rfl)
    stk := .inr ⟨rfl, rfl⟩
    exf := fun b hb => ⟨Nat.ne_of_lt (hfp b hb).2, fun z c e => (by
      have e2 := (one z c e).2
      rw [e2]
      exact (hfp b hb).1.2.2.2.2.1 y cy hcy)⟩
    bs := I.bs, bsz := Nat.le_trans I.ok.bsz I.sz
    noex := fun b o e hb => (by
      obtain ⟨_, _, _, old | old, _⟩ := (hfp b hb).1
      · exact I.ok.noex b o e old
      · have z := Heap.lt_size e
        have z2 := I.ok.bsz
        exact Nat.lt_irrefl b (Nat.lt_of_lt_of_le z (Nat.le_trans z2 old)))
    exfs := fun b hb hf => (by
      obtain ⟨⟨_, n1, n2, _⟩, _⟩ := hfp b hb
      rcases List.mem_cons.mp (I.stkSub b hf) with e | e
      · exact n1 e
      · exact n2 e)
    funs := I.stack, frf := I.stkFree }
/-- the frame as it begins: its space at C, its generator behind it -/
theorem gen_invF {elt : Expr} {cs : List Comprehension} {sc : Scope} {gp : Pos} {it : Addr} {x y : Str} {cy : Addr} {w : V} {scope : Scope} {code : Value} {fp : List Addr} {h' : Heap} {G : Obj} {g' : Array GenState} {tk : Nat} {m : Str → Option Value} (I : Inv X pins σ H s) (S : GnF scope x y) (hcy : X.env.cells.lookup y = some cy) (hw : ∃ u, RelV w u ∧ s.heap.IsCell cy (some u)) (hh : X.A.handled = none)
    (hfp : ∀ b ∈ fp, FpOk X pins H b ∧ b < s.heap.objs.size) (hn : h'.Ns s.heap.objs.size m) (hsz : h'.objs.size = s.heap.objs.size + 1) (kp : ∀ b o, s.heap.get? b = some o → h'.get? b = some o) (hg : AllBare g') (hG : ∀ v, G.data ≠ .cell v) (hF : G.isFreed = false) :
    Inv (gCxF X (.GeneratorExp elt cs sc gp) it x y s H (gEnvF X scope y cy s.heap.objs.size code) fp) [(h'.objs.size, G)] [none, some w] H { s with heap := h'.push G, gens := g', toks := tk } := by
  have gone : ∀ z c, ([(y, cy)] : List (Str × Addr)).lookup z = some c → z = y ∧ c = cy := fun z c e => by
    rw [List.lookup_cons] at e
    cases hz : z == y with
    | true =>
      rw [hz] at e
      exact ⟨by simpa using hz, (Option.some.inj e).symm⟩
    | false =>
      rw [hz] at e
      cases e
  have kp2 : ∀ b o, s.heap.get? b = some o → (h'.push G).get? b = some o := fun b o e => Heap.get?_push_of_some _ (kp b o e)
  have gt : s.heap.objs.size ≤ h'.objs.size := by omega
  exact {
    ok := gen_okF I S hcy hh hfp, os := rfl, bare := hg, base := Un.kept kp2
    loc := ⟨m, hn.push _, fun i z v e0 e vis => (by
      match i, e0, e with
      | 0, _, e => cases e
      | 1, e0, e =>
        cases e0
        cases e
        obtain ⟨u, ru, hu⟩ := hw
        exact ⟨u, ru, .inr ⟨.inr S.fy, cy, by show ([(y, cy)] : List (Str × Addr)).lookup y = some cy; rw [List.lookup_cons, beq_self_eq_true], hu.imp fun o ho => ⟨kp2 _ _ ho.1, ho.2⟩⟩⟩
      | j + 2, e0, _ => cases e0)⟩
    cell := fun z c e => (by
      have e2 := (gone z c e).2
      rw [e2]
      obtain ⟨u, _, hu⟩ := hw
      exact ⟨_, hu.imp fun o ho => ⟨kp2 _ _ ho.1, ho.2⟩⟩)
    free := I.hok.fresh (Nat.le_refl _)
    freeC := fun z c e => (by
      have e2 := (gone z c e).2
      rw [e2]
      exact I.freeC y cy hcy)
    pin := fun p hp => (by
      obtain rfl := List.mem_singleton.mp (show p ∈ [(h'.objs.size, G)] from hp)
      refine ⟨Heap.get?_push_size _ hF, I.hok.fresh gt, fun z => ?_, fun z => ?_, hG⟩
      · have z2 : h'.objs.size = s.heap.objs.size := z
        omega
      · rcases List.mem_cons.mp (I.stkSub _ z) with e | e
        · have z2 := I.lt
          rw [← e] at z2
          have z3 : h'.objs.size < s.heap.objs.size := z2
          omega
        · exact I.nofs gt e)
    hok := I.hok.kept kp2, len := rfl }
end
/-- what is so between two steps of the generator, i things taken -/
def GStF (w : V) (Y : Cx) (pn : List (Addr × Obj)) (tn : Nat → Heap → Prop) (fp : List Addr) (W : Nat → Hp → Prop) (i : Nat) (s : Shared) : Prop :=
  ∃ H', Inv Y pn [none, some w] H' s ∧ tn i s.heap ∧ (∀ b ∈ fp, H' b = none) ∧ W i H'
/-- how it ends, how it hands out -/
def gFinF (w : V) (Y : Cx) (pn : List (Addr × Obj)) (Q : VK) (b : Bool) (s : Shared) : Prop := ∃ H', Inv Y pn [none, some w] H' s ∧ Q (.bl b) H'
abbrev gEndF (w : V) (Y : Cx) (pn : List (Addr × Obj)) (Q : VK) : GenEnd := fun _ _ r s1 => r = .ok .next ∧ gFinF w Y pn Q true s1
def gProF (w : V) (Y : Cx) (pn : List (Addr × Obj)) (tn : Nat → Heap → Prop) (fp : List Addr) (W : Nat → Hp → Prop) (Q : VK) : Protocol := fun _ _ v s kap =>
  ∃ b : Bool, v = .bool b ∧ (b = true → ∃ i, GStF w Y pn tn fp W i s ∧ ∀ s', GStF w Y pn tn fp W i s' → kap (.send .none) s') ∧ (b = false → gFinF w Y pn Q false s)
/-- one turn's reading -/
def GTurnF (w : V) (J : It) (te : TE) (n : Nat) (W : Nat → Hp → Prop) (Q : VK) : Prop := ∀ i H2, W i H2 →
  (J.stop i H2 ∧ Q (.bl true) H2) ∨ (J.go i H2 ∧ i < n ∧ ∀ x H3, J.yld i H2 x H3 → te [some x, some w] H3 fun u H4 => ∃ b, u = .bl b ∧ if b = true then W (i + 1) H4 else Q (.bl false) H4)
section
variable {X : Cx} {elt iter : Expr} {x y : Str} {w : V} {px gp : Pos} {sc : Scope} {it C : Addr} {s₁ : Shared} {H₁ : Hp} {code : Value} {fp : List Addr} {pn : List (Addr × Obj)} {tn : Nat → Heap → Prop} {J : It} {te : TE} {n : Nat} {W : Nat → Hp → Prop} {Q : VK}
theorem gen_segF {Y : Cx} {env : Env} (hY : Y = gCxF X (.GeneratorExp elt [⟨.Name x px, iter, [], 0⟩] sc gp) it x y s₁ H₁ env fp) (hco : env.scope.isCoroutine = false) (T : Turn X.prog X.w X.K (.Name x px) J fp it tn)
    (pg : PG Y (.Name x px) (gName 0)) (pe : PE Y elt te) (turn : GTurnF w J te n W Q) (hpn : ∀ b ∈ fp, ∀ p ∈ pn, p.1 ≠ b) :
    ∀ (m i : Nat) (s s₀ : Shared), n - i = m → GStF w Y pn tn fp W i s → Seg (model X.prog X.w) X.A.in1.in1 (gEndF w Y pn Q) (gProF w Y pn tn fp W Q) m s₀
      (.compLoop (.GeneratorExp elt [⟨.Name x px, iter, [], 0⟩] sc gp) 0 (.ref it) .none env) ((model X.prog X.w).den (.compLoop (.GeneratorExp elt [⟨.Name x px, iter, [], 0⟩] sc gp) 0 (.ref it) .none env)) [] s := by
  have hA : Y.A = X.A.in1.in1.over (.compLoop (.GeneratorExp elt [⟨.Name x px, iter, [], 0⟩] sc gp) 0 (.ref it) .none env) [] := by rw [hY]
  have hP : Y.prog = X.prog := by rw [hY]
  have hW : Y.w = X.w := by rw [hY]
  have hK : Y.K = X.K := by rw [hY]
  have hC : Y.calm = true := by rw [hY]
  have hE : Y.env = env := by rw [hY]
  have hX : Y.ex = fp := by rw [hY]
  have hN : Y.pn = [] := by rw [hY]
  have hxe : Y.xe = fun _ _ => False := by rw [hY]
  have stat : ∀ {σ' : L2.St} {H' : Hp} {s' : Shared}, Inv Y pn σ' H' s' → (∀ b ∈ fp, H' b = none) → ∀ b ∈ fp, FpOk Y pn H' b := fun {σ' H' s'} I' hn b hb => by
    have hb2 : b ∈ Y.ex := by rw [hX]; exact hb
    refine ⟨hn b hb, (I'.ok.exf b hb2).1, I'.ok.exfs b hb2, .inl hb2, fun y c e => (I'.ok.exf b hb2).2 y c e, fun p hp => ?_⟩
    rw [hN] at hp
    exact hpn b hb p hp
  have runG := fun pins s σ H v u Q => pg.run pins s σ H v u Q
  have runE := fun pins s σ H Q => pe.run pins s σ H Q
  rw [hA, hP, hW, hE, hxe] at runG runE
  intro m
  induction m with
  | zero =>
    rintro i s s₀ hm ⟨H, I, st, nf, wv⟩
    show Seg _ _ _ _ _ s₀ _ ((compTurn _ 0 (.ref it) .none env).onRaise (leaving env)) [] s
    rw [compTurn_gen, Sem.onRaise_eq_wrap]
    refine seg_bind_wrap (wpAny_standAt ?_)
    rcases turn i H wv with ⟨stop, q⟩ | ⟨_, lt, _⟩
    · have td := T.done Y hP hW hK hC i pn s _ H (fun _ _ => False) I (stat I nf) st stop
      rw [hA] at td
      refine seg_bind_wrap (thnF td fun r s2 ⟨e, I2⟩ => ?_)
      rw [e]
      exact seg_end (.ok .next) ⟨rfl, H, I2, q⟩
    · exact absurd lt (by omega)
  | succ m ih =>
    rintro i s s₀ hm ⟨H, I, st, nf, wv⟩
    show Seg _ _ _ _ _ s₀ _ ((compTurn _ 0 (.ref it) .none env).onRaise (leaving env)) [] s
    rw [compTurn_gen, Sem.onRaise_eq_wrap]
    refine seg_bind_wrap (wpAny_standAt ?_)
    rcases turn i H wv with ⟨stop, q⟩ | ⟨go, lt, step⟩
    · have td := T.done Y hP hW hK hC i pn s _ H (fun _ _ => False) I (stat I nf) st stop
      rw [hA] at td
      refine seg_bind_wrap (thnF td fun r s2 ⟨e, I2⟩ => ?_)
      rw [e]
      exact seg_end (.ok .next) ⟨rfl, H, I2, q⟩
    · have ti := T.item Y hP hW hK hC i pn s _ H (fun _ _ => False) I (stat I nf) st go
      rw [hA] at ti
      refine seg_bind_wrap (thnF ti fun r s2 ⟨u, e, h2⟩ => ?_)
      rw [e]
      refine seg_bind_wrap (thnF h2 fun _ s3 ⟨y0, H3, I3, r3, y3, st3, n3⟩ => ?_)
      have I3' := I3.pinned (stat I3 n3) (T.obj _ _ st3)
      refine seg_bind_wrap (thnF (runG _ s3 _ H3 y0 u _ I3' r3 (show gName 0 y0 [none, some w] H3 (fun σ' H' => σ' = [some y0, some w] ∧ H' = H3) from ⟨rfl, rfl⟩)) fun _ s4 ⟨σ4, H4, I4, e4, e5⟩ => ?_)
      subst e4 e5
      refine seg_bind_wrap (wpAny_tests_nil ?_)
      simp only [if_true]
      have yo : ∀ v, yieldOut env v = yieldValue v := fun v => by
        unfold yieldOut
        rw [hco] <;> rfl
      simp only [yo]
      rw [Sem.bind_eq_wrap', Sem.bind_eq_wrap', Sem.wrap_wrap, Sem.wrap_wrap]
      refine seg_wrap (thnF (runE _ s4 _ _ _ I4 (step y0 _ y3)) fun v s5 ⟨yv, H5, I5, r5, b, e5, q5⟩ => ?_)
      subst e5
      obtain rfl : v = Value.bool b := r5
      have pin' : ∀ b ∈ fp, ∀ o, s3.heap.get? b = some o → s5.heap.get? b = some o ∧ H5 b = none := fun b hb o e =>
        let z := I5.pin (b, o) (List.mem_append_right _ (List.mem_append_right _ (mem_pinsAt hb e)))
        ⟨z.1, z.2.1⟩
      have I6 : Inv Y pn [none, some w] H5 s5 := I5.unpinned.weak rfl fun j v e => by
        match j, e with
        | 0, e => cases e
        | 1, e => exact e
        | j + 2, e => cases e
      have done : W (i + 1) H5 → GStF w Y pn tn fp W (i + 1) s5 := fun w5 => ⟨H5, I6, T.keep _ _ _ st3 fun b hb o e => (pin' b hb o e).1, fun b hb => (by
        obtain ⟨o, e, _⟩ := T.obj _ _ st3 b hb
        exact (pin' b hb o e).2), w5⟩
      refine seg_at (seg_yield rfl rfl rfl ⟨b, rfl, fun hb => ?_, fun hb => ?_⟩)
      · rw [if_pos hb] at q5
        exact ⟨i + 1, done q5, fun s' hj => seg_again rfl (ih (i + 1) s' s' (by omega) hj)⟩
      · rw [if_neg (by rw [hb]; exact Bool.false_ne_true)] at q5
        exact ⟨H5, I6, q5⟩
/-- the generator at a, its number g: what it does next -/
def GAtF (w : V) (M : Model) (A : Around) (Y : Cx) (pn : List (Addr × Obj)) (tn : Nat → Heap → Prop) (fp : List Addr) (W : Nat → Hp → Prop) (Q : VK) (g m : Nat) (s : Shared) : Prop :=
  ∃ i gs, GStF w Y pn tn fp W i s ∧ s.gens[g]? = some gs ∧ ∀ s', GStF w Y pn tn fp W i s' → gs.Goes M A (gEndF w Y pn Q) (gProF w Y pn tn fp W Q) m (.send .none) s'
theorem gst_setF {Y : Cx} {i g : Nat} {s : Shared} {gs0 : GenState} (h : GStF w Y pn tn fp W i s) (hy : gs0.bare = true) : GStF w Y pn tn fp W i (s.setGen g gs0) := by
  obtain ⟨H', I, r⟩ := h
  exact ⟨H', inv_setGen I hy, r⟩
theorem fin_setF {Y : Cx} {g : Nat} {s : Shared} {gs0 : GenState} {b : Bool} (h : gFinF w Y pn Q b s) (hy : gs0.bare = true) : gFinF w Y pn Q b (s.setGen g gs0) := by
  obtain ⟨H', I, r⟩ := h
  exact ⟨H', inv_setGen I hy, r⟩
theorem fin_keptF {Y : Cx} {s : Shared} {b : Bool} {h' : Heap} (h : gFinF w Y pn Q b s) (k : ∀ b o, s.heap.get? b = some o → h'.get? b = some o) : gFinF w Y pn Q b { s with heap := h' } := by
  obtain ⟨H', I, r⟩ := h
  exact ⟨H', I.kept (t' := s.toks) k, r⟩
theorem all_runF {Y : Cx} {a : Addr} {g : Nat} {G : Obj} {R : Result → Shared → Prop} (hp : (a, G) ∈ pn) (hG : ∀ h : Heap, h.get? a = some G → h.IsGen a g) (hh : X.A.handled = none) (hd : X.A.depth + 2 < recursionLimit)
    (hR : ∀ b s', gFinF w Y pn Q b s' → R (.ok (.ret (.bool b))) s') :
    ∀ (m : Nat) (s : Shared), GAtF w (model X.prog X.w) X.A.in1.in1 Y pn tn fp W Q g m s → codeAny (model X.prog X.w) X.A (.builtin "all.loop" ⟨[.ref a], []⟩) R s := by
  have turn : ∀ (m : Nat) (s : Shared), GAtF w (model X.prog X.w) X.A.in1.in1 Y pn tn fp W Q g m s →
      (∀ s', (∃ k, m = k + 1 ∧ GAtF w (model X.prog X.w) X.A.in1.in1 Y pn tn fp W Q g k s') → codeAny (model X.prog X.w) X.A (.builtin "all.loop" ⟨[.ref a], []⟩) R s') → codeAny (model X.prog X.w) X.A (.builtin "all.loop" ⟨[.ref a], []⟩) R s := by
    rintro m s ⟨i, gs, st, hgs, goes⟩ next
    obtain ⟨H, I, _⟩ := id st
    have gen : s.heap.IsGen a g := hG _ (I.pin (a, G) (List.mem_append_right _ hp)).1
    have hgl : g + 1 ≤ s.gens.size := (Array.getElem?_eq_some_iff.mp hgs).1
    refine codeAny_builtin (F.entry_all_loop) ?_
    rw [Around.under_plainId (F.plain_all_loop) _]
    show wpAny (model X.prog X.w) X.A.in1 (pyNext (.ref a) >>= _) _ _ s
    refine wpAny_bind (GenW.wpAny_gsz (n := g + 1) hgl (wpAny_pyNext_genexpQ (n := m) (P := fun _ _ s1 => gFinF w Y pn Q true s1) (Y := gProF w Y pn tn fp W Q) hh I.nolimit (by show X.A.depth < recursionLimit; omega) gen hgs (goes _ (gst_setF st rfl)) (fun v s1 gs' hb hv => ?_) (fun s1 hf h' hk => ?_)))
    · intro hgl2
      obtain ⟨b, rfl, yes, no⟩ := hv
      refine wpAny_bind (wpAny_holding (wpAny_truthy_bool ?_))
      refine wpAny_bind (wpAny_letGo ?_)
      cases b with
      | true =>
        obtain ⟨i2, st2, kap⟩ := yes rfl
        simp only [if_true]
        cases m with
        | zero => exact (kap s1 st2).elim
        | succ k => exact wpAny_pure ⟨plainId_quiet (F.plain_all_loop) _, next _ ⟨k, rfl, i2, gs', gst_setF st2 hb, set_at hgl2, fun s' h => kap s' h⟩⟩
      | false =>
        simp only [Bool.false_eq_true, if_false]
        exact wpAny_bind (wpAny_rule (wpAny_pure (hR false _ (fin_setF (no rfl) hb))))
    · intro _
      refine wpAny_bind (wpAny_rule (wpAny_pure ?_))
      exact hR true _ (fin_keptF (fin_setF hf rfl) hk)
  intro m
  induction m with
  | zero => exact fun s h => turn 0 s h fun s' ⟨k, e, _⟩ => (by cases e)
  | succ m ih => exact fun s h => turn (m + 1) s h fun s' ⟨k, e, z⟩ => ih s' (by cases e; exact z)
end
/-- .. in the def: the table of the def's code may have grown ahead of it -/
def tAllF (P : Addr) (j : Nat) (wi : TI) (te : TE) : TE := fun σ H Q => wi σ H fun J H1 => GxR.TabG H1 P ∧ ∃ (w : V) (n : Nat) (W : Nat → Hp → Prop), σ[j]? = some (some w) ∧ (∀ H2, GxR.Tabbed P H1 H2 → W 0 H2) ∧ GTurnF w J te n W Q
theorem gen_denF {w : V} {X : Cx} {elt iter : Expr} {x : Str} {px gp : Pos} {sc : Scope} {it : Addr} {env : Env} {fp : List Addr} {pn : List (Addr × Obj)} {tn : Nat → Heap → Prop} {W : Nat → Hp → Prop} {Q : VK} {Y : Cx} {J : It} {n : Nat} (T : Turn X.prog X.w X.K (.Name x px) J fp it tn)
    (loop : ∀ (s s₀ : Shared), GStF w Y pn tn fp W 0 s → Seg (model X.prog X.w) X.A.in1.in1 (gEndF w Y pn Q) (gProF w Y pn tn fp W Q) n s₀ (.compLoop (.GeneratorExp elt [⟨.Name x px, iter, [], 0⟩] sc gp) 0 (.ref it) .none env)
      ((model X.prog X.w).den (.compLoop (.GeneratorExp elt [⟨.Name x px, iter, [], 0⟩] sc gp) 0 (.ref it) .none env)) [] s) (s s₀ : Shared) (st : GStF w Y pn tn fp W 0 s) :
    Seg (model X.prog X.w) X.A.in1.in1 (gEndF w Y pn Q) (gProF w Y pn tn fp W Q) n s₀ (.compStart (.GeneratorExp elt [⟨.Name x px, iter, [], 0⟩] sc gp) 0 (.ref it) .none env)
      ((model X.prog X.w).den (.compStart (.GeneratorExp elt [⟨.Name x px, iter, [], 0⟩] sc gp) 0 (.ref it) .none env)) [] s := by
  have go := loop s s₀ st
  obtain ⟨H', I, st0, _⟩ := id st
  show Seg _ _ _ _ _ s₀ _ ((compStart _ 0 (.ref it) .none env).onRaise (leaving env)) [] s
  unfold compStart
  rw [Sem.onRaise_eq_wrap]
  show Seg _ _ _ _ _ s₀ _ ((ask >>= _).wrap _ _ _ _) [] s
  refine seg_bind_wrap (wpAny_askSetting ?_)
  split
  · exact seg_again rfl go
  · refine seg_bind_wrap (wpAny_rule ?_)
    show Seg _ _ _ _ _ s₀ _ ((standAt iter.pos >>= _).wrap _ _ _ _) [] s
    refine seg_bind_wrap (wpAny_standAt (seg_bind_wrap ?_))
    exact T.self _ 0 s _ _ st0 (seg_again rfl go)
theorem pe_allF {X : Cx} {c P : Addr} {elt iter : Expr} {x y : Str} {jy : Nat} {px p pos gp : Pos} {scope : Scope} {wi : TI} {te : TE} {k : Nat}
    (hr : Room k X.A) (hg : Gl X "all") (hm : X.mg "all" = none) (hb : bootBuiltins "all" = some (.builtin "all")) (TB : GxR.TabB X.base X.mg c P) (hcode : X.env.code = .ref c) (S : GnF scope x y) (hN : X.N[jy]? = some y) (hky : X.env.kindOf y = some .cell) (hi : PI X (.Name x px) iter wi)
    (hel : ∀ (it cy C : Addr) (s : Shared) (H : Hp) (code : Value) (fp : List Addr), PE (gCxF X (.GeneratorExp elt [⟨.Name x px, iter, [], 0⟩] scope gp) it x y s H (gEnvF X scope y cy C code) fp) elt te)
    (hs : ∀ v, genFold iter X.env v = pure v)
    (he : starEach [.GeneratorExp elt [⟨.Name x px, iter, [], 0⟩] scope gp] X.env = (false, eval (.GeneratorExp elt [⟨.Name x px, iter, [], 0⟩] scope gp) X.env) :: starEach [] X.env := by rfl) :
    PE X (.Call (.Name "all" p) [.GeneratorExp elt [⟨.Name x px, iter, [], 0⟩] scope gp] [] pos) (tAllF P jy wi te) := by
  have dep := hr.dp
  refine ⟨fun pins s σ H Q I h => ?_⟩
  refine wpAny_Call_Name_kw (ld_blt I hg hm hb ?_)
  refine PyProof.Rows.callWith_builtin1 ?_ he (by rfl)
  rw [he]
  obtain ⟨cy, hcy⟩ := I.ok.has y (.inl hky)
  refine Calls.spliced_cons (wpAny_GeneratorExp_make (cl := [(y, cy)]) S.co ?_ S.cell S.dot S.kind (by omega) ?_ hs)
  · rw [closure_ok (fun z hz e => by rw [S.free z hz e]; exact ⟨cy, hcy⟩), S.clo, hcy] <;> rfl
  refine thn (hi.run pins s σ H _ I h) fun xv s1 hx => thn hx fun itv s2 ⟨it, fp, tn, J, H2, e, I2, T, st2, f2, TG, w, n, W, hw0, w0, turn⟩ => ⟨I2.nolimit, ?_⟩
  subst e
  obtain ⟨ps, hP, ht⟩ := TG
  have hPs : s2.heap.get? P = some { cls := .none, data := .fields ps } := I2.hok P _ hP
  have cd : PySem.W.CodeHd s2.heap c P := TB.code.keeps I2.bk
  have fpP : ∀ b ∈ fp, b ≠ P := fun b hb z => by
    have q := (f2 b hb).1
    rw [z, hP] at q
    cases q
  have cont : ∀ (code : Value) (h3 : Heap) (tk : Nat) (ps' : Array Value), Heap.ExtBut P s2.heap h3 → s2.heap.objs.size ≤ h3.objs.size → h3.get? P = some { cls := .none, data := .fields ps' } → (∃ more, ps' = ps ++ more) → TriplesOk ps'.toList →
      wpAny (model X.prog X.w) X.A (builtinsFor X.env.globals X.env.builtins) (fun bi s₄ => ∀ h', h'.Ns s₄.heap.objs.size (fun y => if y = ".0" then some (.ref it) else none) →
        Heap.SameBut s₄.heap.objs.size (s₄.heap.push { cls := .type "frame", data := .dict #[] }) h' → wpAny (model X.prog X.w) X.A (spliced (backTo pos (starEach [] X.env))) (fun us s' => wpAny (model X.prog X.w) X.A (call (.builtin "all") (.ref h'.objs.size :: us)) (EP X pins σ Q) X.xe s') X.xe
          { s₄ with gens := s₄.gens.push (.fresh (.compStart (.GeneratorExp elt [⟨.Name x px, iter, [], 0⟩] scope gp) 0 (.ref it) .none (genEnv scope [(y, cy)] s₄.heap.objs.size code bi X.env))), toks := s₄.toks + 1 + 1 + 1,
                    heap := h'.push { cls := .type "generator", data := .fields #[.int s₄.gens.size 0, .str "<genexpr>" (s₄.toks + 1), .str (X.env.qual ++ "<genexpr>") (s₄.toks + 1 + 1)] } }) X.xe { s2 with heap := h3, toks := tk } := by
    intro code h3 tk ps' hx hsz hP3 hmore ht3
    obtain ⟨bm, ob, e1, e2, e3, e4, e5, e6, e7, e8⟩ := TB.bm
    have keep3 : ∀ b u, b ≠ P → s2.heap.get? b = some u → h3.get? b = some u := fun b u hb e => hx b u hb e
    refine wpAny_builtinsFor (m := X.mg) (by rw [I2.ok.glob]; exact (I2.mod.glob.keeps I2.bk).extBut hx TB.gP) e1 e2 (keep3 _ _ e4 (I2.bk _ _ e5)) e6 e7 e8 ?_
    obtain ⟨more, em⟩ := hmore
    have I4 := GxR.inv_tab (more := more) (h' := h3) (g' := s2.gens) (d' := s2.drawn) (t' := tk) I2 hP (fun b u hb e => keep3 b u hb e) (by rw [← em]; exact hP3) I2.bare
    generalize hs4 : ({ s2 with heap := h3, toks := tk } : Shared) = s4 at I4 ⊢
    have h4 : s4.heap = h3 := by rw [← hs4]
    have tabbed : GxR.Tabbed P H2 (upd H2 P (.tbl (ps ++ more))) := ⟨⟨_, upd_same, by rw [← em]; exact ht3⟩, fun b hb => upd_ne hb⟩
    generalize upd H2 P (.tbl (ps ++ more)) = H4 at I4 tabbed
    have lt4 : ∀ b ∈ fp, b < s4.heap.objs.size := fun b hb => by
      obtain ⟨o, e, _⟩ := T.obj _ _ st2 b hb
      have z := Heap.lt_size e
      rw [h4]
      exact Nat.lt_of_lt_of_le z hsz
    have f4 : ∀ b ∈ fp, FpOk X pins H4 b ∧ b < s4.heap.objs.size := fun b hb => ⟨⟨(tabbed.2 b (fpP b hb)).trans (f2 b hb).1, (f2 b hb).2⟩, lt4 b hb⟩
    intro h' hn' hs'
    have sz' : h'.objs.size = s4.heap.objs.size + 1 := by rw [hs'.1, Heap.size_push]
    have kp : ∀ b o, s4.heap.get? b = some o → h'.get? b = some o := fun b o e => hs'.extBut b o (Nat.ne_of_lt (Heap.lt_size e)) (Heap.get?_push_of_some _ e)
    generalize hG : ({ cls := .type "generator", data := .fields #[.int s4.gens.size 0, .str "<genexpr>" (s4.toks + 1), .str (X.env.qual ++ "<genexpr>") (s4.toks + 1 + 1)] } : Obj) = G
    have hw4 : ∃ u, RelV w u ∧ s4.heap.IsCell cy (some u) := by
      obtain ⟨m, _, lk⟩ := I4.loc
      obtain ⟨u, ru, k⟩ := lk jy y w hN hw0 (.inr (.inl hky))
      rcases k with ⟨k, _⟩ | ⟨_, c', e', hc'⟩
      · rw [hky] at k
        cases k
      · rw [hcy] at e'
        cases e'
        exact ⟨u, ru, hc'⟩
    have IG := gen_invF (elt := elt) (cs := [⟨.Name x px, iter, [], 0⟩]) (sc := scope) (gp := gp) (it := it) (code := code) (G := G) (g' := s4.gens.push (.fresh (.compStart (.GeneratorExp elt [⟨.Name x px, iter, [], 0⟩] scope gp) 0 (.ref it) .none (gEnvF X scope y cy s4.heap.objs.size code)))) (tk := s4.toks + 1 + 1 + 1)
      I4 S hcy hw4 hr.hd f4 hn' sz' kp (I4.bare.push rfl) (fun v z => by rw [← hG] at z; cases z) (by rw [← hG] <;> rfl)
    have st5 : tn 0 (h'.push G) := T.keep _ _ _ st2 fun b hb o e => Heap.get?_push_of_some _ (kp b o (by rw [h4]; exact keep3 b o (fpP b hb) e))
    refine Calls.spliced_nil ?_
    have isG : ∀ hp : Heap, hp.get? h'.objs.size = some G → hp.IsGen h'.objs.size s4.gens.size := fun hp e => ⟨G, _, _, e, by rw [← hG], by rw [← hG], by rw [← hG]⟩
    have hpn : ∀ b ∈ fp, ∀ p ∈ [(h'.objs.size, G)], p.1 ≠ b := fun b hb p hp z => by
      obtain rfl := List.mem_singleton.mp hp
      have q : b < s4.heap.objs.size := lt4 b hb
      have z2 : h'.objs.size = b := z
      rw [← z2, sz'] at q
      exact Nat.lt_irrefl _ (Nat.lt_of_succ_lt q)
    have loop := gen_segF (elt := elt) (iter := iter) (px := px) (gp := gp) (sc := scope) (Q := Q) (tn := tn) (n := n) rfl S.co T (pg_name (X := gCxF X (.GeneratorExp elt [⟨.Name x px, iter, [], 0⟩] scope gp) it x y s4 H4 (gEnvF X scope y cy s4.heap.objs.size code) fp) (List.nodup_cons.mpr ⟨fun z => S.ne (List.mem_singleton.mp z), List.nodup_cons.mpr ⟨List.not_mem_nil, List.nodup_nil⟩⟩) rfl (.inl S.loc) (.inr S.loc))
      (hel it cy s4.heap.objs.size s4 H4 code fp) turn hpn
    refine call_function_tree (F.kind_all) (F.plain_all) (F.entry_all) (F.args_all1 _) ?_
    unfold Builtin.«all»
    refine wpAny_bind (m := oneArg "all" _) (wpAny_pure ?_)
    refine wpAny_bind (wpAny_pyIter_gen (isG _ (IG.pin (h'.objs.size, G) (List.mem_singleton.mpr rfl)).1) ?_)
    refine wpAny_pure ⟨plainId_quiet (F.plain_all_loop) _, all_runF (pn := [(h'.objs.size, G)]) (tn := tn) (fp := fp) (W := W) (Q := Q) (List.mem_singleton.mpr rfl) isG hr.hd (by omega) (fun b s' hf => ?_) n _ ⟨0, _, ⟨H4, IG, st5, fun b hb => (f4 b hb).1.1, w0 H4 tabbed⟩, Array.getElem?_push_size .., fun s' hst => ⟨rfl, gen_denF T (fun s s₀ q => loop n 0 s s₀ (Nat.sub_zero n) q) s' s' hst⟩⟩⟩
    obtain ⟨H', IY, q⟩ := hf
    have J := I4.call' (ch := fp) IY.os IY.base IY.hok IY.bare fun b hb => ⟨(f4 b hb).1.2.2.2.1, (f4 b hb).1.2.1, (f4 b hb).1.2.2.2.2.1, (f4 b hb).1.2.2.2.2.2⟩
    exact ⟨.bl b, H', J, rfl, q⟩
  cases hf : codeAmong gp ps.toList with
  | none =>
    refine wpAny_genexprCodeX hcode (cd.code hPs ht) (cd.tab hPs) hf fun c' h' tk hx hge hlt hco' _ htab' _ => ?_
    obtain ⟨o1, vs, f1, tf, fl, tg, inF, tx, tt, op, _, _, _, _, _, _, _, _, _, htr, _⟩ := hco'
    exact cont _ h' tk _ hx (Nat.le_trans hge (Nat.le_of_lt hlt)) htab'.2 ⟨_, rfl⟩ htr
  | some cv =>
    refine wpAny_genexprCode_hit hcode (cd.code hPs ht) hf ?_
    exact cont cv s2.heap s2.toks ps (Heap.ExtBut.refl _ _) (Nat.le_refl _) hPs ⟨#[], by simp⟩ ht
end KR
/-! ### fractions as numbers of the field -/
namespace KR
open PySem PySem.Spec PyProof.Rows L2
theorem Same.tup {K : PySem.W.Frag} {H H' : Hp} {a : Addr} {xs : List V} (e : Same H H') (h : SqT K H a xs) : SqT K H' a xs :=
  h.elim (fun h => .inl (h.elim (fun h => .inl (e _ _ h)) fun ⟨o, h⟩ => .inr ⟨o, e _ _ h⟩)) fun h => .inr h
theorem sqT_ty {K : PySem.W.Frag} {H : Hp} {a : Addr} {xs : List V} (h : SqT K H a xs) : TyX K H (.ref a) (.type "tuple") := by
  rcases h with (h | ⟨o, h⟩) | ⟨o, its, n, h1, h2, _⟩
  · exact .base (.tup h)
  · exact .fTuple h
  · exact .kTuple h1 h2
theorem sqT_frL {K : PySem.W.Frag} {H H' : Hp} {a p : Addr} {xs ys : List V} (h : SqT K H a xs) (hp : H p = some (.lst ys)) (f : Fr p H H') : SqT K H' a xs := by
  rcases h with (h | ⟨o, h⟩) | h
  · exact .inl (.inl (f _ _ (ne_of h hp (by intro z; cases z)) h))
  · exact .inl (.inr ⟨o, f _ _ (ne_of h hp (by intro z; cases z)) h⟩)
  · exact .inr h
theorem sqT_fr {K : PySem.W.Frag} {H H' : Hp} {a p : Addr} {n : Nat} {xs : List V} (h : SqT K H a xs) (B : BoxAt H p n) (f : Fr p H H') : SqT K H' a xs := by
  obtain ⟨i, j, k, hp, _⟩ := B
  exact sqT_frL h hp f
theorem fr_upd {p : Addr} {H : Hp} {o : HO} : Fr p H (upd H p o) := Fr.put Fr.refl
theorem BoxAt.upd {H : Hp} {p D : Addr} {n : Nat} {o : HO} (h : BoxAt H p n) (ne : D ≠ p) : BoxAt (L2.upd H D o) p n := by
  obtain ⟨a, b, c, h1, h2⟩ := h
  exact ⟨a, b, c, by rw [upd_ne ne.symm]; exact h1, h2⟩
def rq (t b : Int) : Rat := (t : Rat) / (b : Rat)
theorem rat_nd (q : Rat) : (q.num : Rat) / ((q.den : Int) : Rat) = q := by rw [← Rat.divInt_eq_div, Rat.num_divInt_den]
theorem den_ne (q : Rat) : ((q.den : Int) : Rat) ≠ 0 := by
  intro h
  have k := q.den_pos
  have h2 : ((q.den : Int) : Rat) = ((0 : Int) : Rat) := h
  have e := Rat.intCast_inj.mp h2
  omega
theorem den_ne' (q : Rat) : (q.den : Int) ≠ 0 := by
  have k := q.den_pos
  omega
theorem int_ne {b : Int} (h : b ≠ 0) : (b : Rat) ≠ 0 := fun z => h (Rat.intCast_inj.mp (z.trans (by rfl : (0 : Rat) = ((0 : Int) : Rat))))
theorem rat_low (q : Rat) : IsLow q.num q.den := ⟨by have k := q.den_pos; omega, by rw [Int.natAbs_natCast]; exact q.reduced⟩
theorem rq_cross {t b : Int} (hb : b ≠ 0) : t * ((rq t b).den : Int) = (rq t b).num * b := by
  have e := rat_nd (rq t b)
  have h1 := den_ne (rq t b)
  have h2 := int_ne hb
  refine Rat.intCast_inj.mp ?_
  rw [Rat.intCast_mul, Rat.intCast_mul]
  generalize ((rq t b).den : Int) = d at *
  generalize (rq t b).num = n at *
  unfold rq at e
  grind
theorem rq_low {t b : Int} (hb : b ≠ 0) : low t b = ((rq t b).num, ((rq t b).den : Int)) := low_eq hb (rat_low _) (rq_cross hb)
theorem cast_pos {b : Int} (h : 0 < b) : (0 : Rat) < (b : Rat) := (Rat.intCast_lt_intCast (a := 0)).mpr h
theorem cast_nn {b : Int} (h : 0 ≤ b) : (0 : Rat) ≤ (b : Rat) := (Rat.intCast_le_intCast (a := 0)).mpr h
theorem le_div {a b c : Rat} (h : 0 < c) (k : a * c ≤ b) : a ≤ b / c := Rat.not_lt.mp fun z => absurd ((Rat.div_lt_iff h).mp z) (Rat.not_lt.mpr k)
theorem div_le {a b c : Rat} (h : 0 < c) (k : b ≤ a * c) : b / c ≤ a := Rat.not_lt.mp fun z => absurd ((Rat.lt_div_iff h).mp z) (Rat.not_lt.mpr k)
theorem rq_nn {t b : Int} (ht : 0 ≤ t) (hb : 0 < b) : 0 ≤ rq t b := by
  have h1 := cast_nn ht
  have h2 := cast_pos hb
  unfold rq
  generalize (t : Rat) = x at *
  generalize (b : Rat) = y at *
  exact le_div h2 (by grind)
theorem rq_pos {t b : Int} (ht : 0 < t) (hb : 0 < b) : 0 < rq t b := by
  have h1 := cast_pos ht
  have h2 := cast_pos hb
  unfold rq
  generalize (t : Rat) = x at *
  generalize (b : Rat) = y at *
  exact (Rat.lt_div_iff h2).mpr (by grind)
theorem rq_lt_one {t b : Int} (ht : t < b) (hb : 0 < b) : rq t b < 1 := by
  have h1 := Rat.intCast_lt_intCast.mpr ht
  have h2 := cast_pos hb
  unfold rq
  generalize (t : Rat) = x at *
  generalize (b : Rat) = y at *
  exact (Rat.div_lt_iff h2).mpr (by grind)
theorem rq_le_one {t b : Int} (ht : t ≤ b) (hb : 0 < b) : rq t b ≤ 1 := by
  have h1 := Rat.intCast_le_intCast.mpr ht
  have h2 := cast_pos hb
  unfold rq
  generalize (t : Rat) = x at *
  generalize (b : Rat) = y at *
  exact div_le h2 (by grind)
theorem rq_add (p q : Rat) : rq (p.num * q.den + q.num * p.den) (p.den * q.den) = p + q := by
  have e1 := rat_nd p
  have e2 := rat_nd q
  have h1 := den_ne p
  have h2 := den_ne q
  unfold rq
  rw [Rat.intCast_add, Rat.intCast_mul, Rat.intCast_mul, Rat.intCast_mul]
  generalize ((p.den : Int) : Rat) = d at *
  generalize (p.num : Rat) = n at *
  generalize ((q.den : Int) : Rat) = d2 at *
  generalize (q.num : Rat) = n2 at *
  grind
theorem rq_sub (p q : Rat) : rq (p.num * q.den - q.num * p.den) (p.den * q.den) = p - q := by
  have e1 := rat_nd p
  have e2 := rat_nd q
  have h1 := den_ne p
  have h2 := den_ne q
  unfold rq
  rw [Rat.intCast_sub, Rat.intCast_mul, Rat.intCast_mul, Rat.intCast_mul]
  generalize ((p.den : Int) : Rat) = d at *
  generalize (p.num : Rat) = n at *
  generalize ((q.den : Int) : Rat) = d2 at *
  generalize (q.num : Rat) = n2 at *
  grind
theorem rq_mul (p q : Rat) : rq (p.num * q.num) (p.den * q.den) = p * q := by
  have e1 := rat_nd p
  have e2 := rat_nd q
  have h1 := den_ne p
  have h2 := den_ne q
  unfold rq
  rw [Rat.intCast_mul, Rat.intCast_mul]
  generalize ((p.den : Int) : Rat) = d at *
  generalize (p.num : Rat) = n at *
  generalize ((q.den : Int) : Rat) = d2 at *
  generalize (q.num : Rat) = n2 at *
  grind
theorem rq_div (p q : Rat) : rq (p.num * q.den) (p.den * q.num) = p / q := by
  have e1 := rat_nd p
  have e2 := rat_nd q
  have h1 := den_ne p
  have h2 := den_ne q
  unfold rq
  rw [Rat.intCast_mul, Rat.intCast_mul]
  generalize ((p.den : Int) : Rat) = d at *
  generalize (p.num : Rat) = n at *
  generalize ((q.den : Int) : Rat) = d2 at *
  generalize (q.num : Rat) = n2 at *
  grind
theorem rq_self (q : Rat) : rq q.num q.den = q := rat_nd q
theorem num_ne {q : Rat} (h : q ≠ 0) : q.num ≠ 0 := fun z => h (by
  have e := rat_nd q
  rw [z] at e
  rw [← e]
  grind)
theorem num_zero {q : Rat} : q.num = 0 ↔ q = 0 := ⟨fun z => Classical.byContradiction fun y => num_ne y z, fun z => by rw [z] <;> rfl⟩
theorem num_pos {q : Rat} : 0 < q.num ↔ 0 < q := by
  have k := Rat.lt_iff 0 q
  simp at k
  exact k.symm
theorem num_nn {q : Rat} : 0 ≤ q.num ↔ 0 ≤ q := Rat.num_nonneg
theorem lt_cross (p q : Rat) : (p.num * q.den < q.num * p.den) ↔ p < q := (Rat.lt_iff p q).symm
/-- top and bottom fit so many bits -/
def Sz (n : Nat) (q : Rat) : Prop := q.num.natAbs < 2 ^ n ∧ (q.den : Int).natAbs < 2 ^ n
theorem Sz.up {n m : Nat} {q : Rat} (h : Sz n q) (le : n ≤ m) : Sz m q := ⟨lt_up h.1 le, lt_up h.2 le⟩
theorem sz_rq {t b : Int} {n : Nat} (hb : b ≠ 0) (h1 : t.natAbs < 2 ^ n) (h2 : b.natAbs < 2 ^ n) : Sz n (rq t b) := by
  have k := low_lt h1 h2
  rw [rq_low hb] at k
  exact k
theorem Sz.int {z : Int} {n : Nat} (h : z.natAbs < 2 ^ n) (h0 : 0 < n) : Sz n (z : Rat) := ⟨h, Nat.lt_of_lt_of_le (by decide : (1 : Nat) < 2 ^ 1) (Nat.pow_le_pow_right (by decide) h0)⟩
theorem Sz.neg {n : Nat} {q : Rat} (h : Sz n q) : Sz n (-q) := ⟨by
  show (-q.num).natAbs < 2 ^ n
  rw [Int.natAbs_neg]
  exact h.1, h.2⟩
/-- a fraction that is read -/
def FrQ (K : PySem.W.Frag) (H : Hp) (x : Addr) (q : Rat) : Prop := SqT K H x [.int q.num, .int (q.den : Int)]
theorem FrQ.same {K : PySem.W.Frag} {H H' : Hp} {x : Addr} {q : Rat} (h : FrQ K H x q) (s : Same H H') : FrQ K H' x q := Same.tup s h
theorem FrQ.fr {K : PySem.W.Frag} {H H' : Hp} {x p : Addr} {n : Nat} {q : Rat} (h : FrQ K H x q) (B : BoxAt H p n) (f : Fr p H H') : FrQ K H' x q := sqT_fr h B f
theorem FrQ.of {K : PySem.W.Frag} {H : Hp} {x : Addr} {q : Rat} (h : H x = some (.tup [.int q.num, .int (q.den : Int)])) : FrQ K H x q := SqT.of h
theorem FrQ.int {K : PySem.W.Frag} {H : Hp} {x : Addr} {z : Int} (h : H x = some (.tup [.int z, .int 1])) : FrQ K H x (z : Rat) := SqT.of h
/-- a juice that is read -/
def JuQ (K : PySem.W.Frag) (H : Hp) (x : Addr) (s w : Rat) : Prop := ∃ a b, SqT K H x [.ref a, .ref b] ∧ FrQ K H a s ∧ FrQ K H b w
theorem JuQ.same {K : PySem.W.Frag} {H H' : Hp} {x : Addr} {s w : Rat} (h : JuQ K H x s w) (e : Same H H') : JuQ K H' x s w := by
  obtain ⟨a, b, h1, h2, h3⟩ := h
  exact ⟨a, b, Same.tup e h1, h2.same e, h3.same e⟩
theorem JuQ.fr {K : PySem.W.Frag} {H H' : Hp} {x p : Addr} {n : Nat} {s w : Rat} (h : JuQ K H x s w) (B : BoxAt H p n) (f : Fr p H H') : JuQ K H' x s w := by
  obtain ⟨a, b, h1, h2, h3⟩ := h
  exact ⟨a, b, sqT_fr h1 B f, h2.fr B f, h3.fr B f⟩
theorem JuQ.new {K : PySem.W.Frag} {H : Hp} {x a b : Addr} {s w : Rat} (h : H x = some (.tup [.ref a, .ref b])) (ha : FrQ K H a s) (hb : FrQ K H b w) : JuQ K H x s w := ⟨a, b, SqT.of h, ha, hb⟩
/-- a new pair of two numbers' lowest terms -/
def sp_lowQ (K : PySem.W.Frag) : Sp := fun vs H Q _ => ∃ (t b : Int) (n : Nat), vs = [.int t, .int b] ∧ b ≠ 0 ∧ t.natAbs < 2 ^ n ∧ b.natAbs < 2 ^ n ∧ n ≤ 2000 ∧ ∀ p H', Same H H' → H p = none → FrQ K H' p (rq t b) → Sz n (rq t b) → Q (.ref p) H'
theorem lowQ {K : PySem.W.Frag} {vs : List V} {H : Hp} {Q : VK} {E : XK} (h : sp_lowQ K vs H Q E) : sp_low vs H Q E := by
  obtain ⟨t, b, n, e, hb, h1, h2, hn, q⟩ := h
  refine ⟨t, b, e, hb, lt_up h1 hn, lt_up h2 hn, fun p H' s hp h' => q p H' s hp ?_ (sz_rq hb h1 h2)⟩
  rw [rq_low hb] at h'
  exact .of h'
/-- two fractions in, one out -/
def sp_q2 (K : PySem.W.Frag) (f : Rat → Rat → Rat) (ok : Rat → Rat → Prop) : Sp := fun vs H Q _ => ∃ (x y : Addr) (p q : Rat) (m n : Nat), vs = [.ref x, .ref y] ∧ FrQ K H x p ∧ FrQ K H y q ∧ Sz m p ∧ Sz n q ∧ m + n ≤ 1900 ∧ ok p q ∧
  ∀ z H', Same H H' → H z = none → FrQ K H' z (f p q) → Sz (m + n + 1) (f p q) → Q (.ref z) H'
def sp_less (K : PySem.W.Frag) : Sp := fun vs H Q _ => ∃ (x y : Addr) (p q : Rat), vs = [.ref x, .ref y] ∧ FrQ K H x p ∧ FrQ K H y q ∧ Sz 1900 p ∧ Sz 1900 q ∧ Q (.bl (decide (p < q))) H
theorem mulZ {i j : Int} {a b : Nat} (ha : i.natAbs < 2 ^ a) (hb : j.natAbs < 2 ^ b) (h : a + b ≤ 100000) : IntMulOk i j :=
  mulW (lt_up ha (by omega : a ≤ a + 1)) (lt_up hb (by omega : b ≤ b + 1)) (by omega) (by omega) (by omega)
/-! data of the law's own making, tuples of the written part among them -/
inductive Dk (K : PySem.W.Frag) (H : Hp) : Nat → V → PyData → Prop
  | non (n : Nat) : Dk K H (n + 1) .non .none
  | bl (n : Nat) (b : Bool) : Dk K H (n + 1) (.bl b) (.bool b)
  | int (n : Nat) (i : Int) : Dk K H (n + 1) (.int i) (.int i)
  | str (n : Nat) (x : Str) (ok : PyData.canLay0 (.str x) = true) : Dk K H (n + 1) (.str x) (.str x)
  | lst {n : Nat} {a : Addr} {xs : List V} {ds : List PyData} : H a = some (.lst xs) → xs.length = ds.length → xs.length ≤ 100000 → (∀ (i : Nat) (x : V) (d : PyData), xs[i]? = some x → ds[i]? = some d → Dk K H n x d) → Dk K H (n + 1) (.ref a) (.list ds)
  | tup {n : Nat} {a : Addr} {xs : List V} {ds : List PyData} : SqT K H a xs → xs.length = ds.length → xs.length ≤ 100000 → (∀ (i : Nat) (x : V) (d : PyData), xs[i]? = some x → ds[i]? = some d → Dk K H n x d) → Dk K H (n + 1) (.ref a) (.tuple ds)
theorem Dk.same {K : PySem.W.Frag} {H H' : Hp} (s : Same H H') : ∀ {n : Nat} {v : V} {d : PyData}, Dk K H n v d → Dk K H' n v d := by
  intro n v d h
  induction h with
  | non n => exact .non n
  | bl n b => exact .bl n b
  | int n i => exact .int n i
  | str n x ok => exact .str n x ok
  | lst h1 h2 h3 _ ih => exact .lst (s _ _ h1) h2 h3 ih
  | tup h1 h2 h3 _ ih => exact .tup (Same.tup s h1) h2 h3 ih
theorem Dk.up {K : PySem.W.Frag} {H : Hp} {n m : Nat} {v : V} {d : PyData} (h : Dk K H n v d) : n ≤ m → Dk K H m v d := by
  intro le
  induction h generalizing m with
  | non n => obtain ⟨k, rfl⟩ : ∃ k, m = k + 1 := ⟨m - 1, by omega⟩; exact .non k
  | bl n b => obtain ⟨k, rfl⟩ : ∃ k, m = k + 1 := ⟨m - 1, by omega⟩; exact .bl k b
  | int n i => obtain ⟨k, rfl⟩ : ∃ k, m = k + 1 := ⟨m - 1, by omega⟩; exact .int k i
  | str n x ok => obtain ⟨k, rfl⟩ : ∃ k, m = k + 1 := ⟨m - 1, by omega⟩; exact .str k x ok
  | lst h1 h2 h3 _ ih => obtain ⟨k, rfl⟩ : ∃ k, m = k + 1 := ⟨m - 1, by omega⟩; exact .lst h1 h2 h3 fun i x d a b => ih i x d a b (by omega)
  | tup h1 h2 h3 _ ih => obtain ⟨k, rfl⟩ : ∃ k, m = k + 1 := ⟨m - 1, by omega⟩; exact .tup h1 h2 h3 fun i x d a b => ih i x d a b (by omega)
/-- rows of data beside their values -/
def DkAll (K : PySem.W.Frag) (H : Hp) (n : Nat) (xs : List V) (ds : List PyData) : Prop := xs.length = ds.length ∧ ∀ (i : Nat) (x : V) (d : PyData), xs[i]? = some x → ds[i]? = some d → Dk K H n x d
theorem DkAll.nil {K : PySem.W.Frag} {H : Hp} {n : Nat} : DkAll K H n [] [] := ⟨rfl, fun i x d h => by simp at h⟩
theorem DkAll.cons {K : PySem.W.Frag} {H : Hp} {n : Nat} {x : V} {d : PyData} {xs : List V} {ds : List PyData} (h : Dk K H n x d) (t : DkAll K H n xs ds) : DkAll K H n (x :: xs) (d :: ds) :=
  ⟨by rw [List.length_cons, List.length_cons, t.1], fun i u v hu hv => match i, hu, hv with
    | 0, hu, hv => by cases hu; cases hv; exact h
    | i + 1, hu, hv => t.2 i u v hu hv⟩
theorem DkAll.tup {K : PySem.W.Frag} {H : Hp} {n : Nat} {xs : List V} {ds : List PyData} {a : Addr} (t : DkAll K H n xs ds) (h : SqT K H a xs) (z : Nat.ble xs.length 100000 = true := by rfl) : Dk K H (n + 1) (.ref a) (.tuple ds) := .tup h t.1 (Nat.le_of_ble_eq_true z) t.2
theorem DkAll.lst {K : PySem.W.Frag} {H : Hp} {n : Nat} {xs : List V} {ds : List PyData} {a : Addr} (t : DkAll K H n xs ds) (h : H a = some (.lst xs)) (z : Nat.ble xs.length 100000 = true := by rfl) : Dk K H (n + 1) (.ref a) (.list ds) := .lst h t.1 (Nat.le_of_ble_eq_true z) t.2
/-- the data of a fraction, of a juice -/
def dq (q : Rat) : PyData := .tuple [.int q.num, .int (q.den : Int)]
def dj (s w : Rat) : PyData := .tuple [dq s, dq w]
theorem FrQ.dk {K : PySem.W.Frag} {H : Hp} {x : Addr} {q : Rat} (h : FrQ K H x q) (n : Nat := 0) : Dk K H (n + 2) (.ref x) (dq q) := DkAll.tup (.cons (.int _ _) (.cons (.int _ _) .nil)) h
theorem JuQ.dk {K : PySem.W.Frag} {H : Hp} {x : Addr} {s w : Rat} (h : JuQ K H x s w) (n : Nat := 0) : Dk K H (n + 3) (.ref x) (dj s w) := by
  obtain ⟨a, b, h1, h2, h3⟩ := h
  exact DkAll.tup (.cons (h2.dk n) (.cons (h3.dk n) .nil)) h1
/-- forty figures -/
theorem b133 {n : Nat} (h : n < 10 ^ 40) : n < 2 ^ 133 := Nat.lt_trans h (by decide)
/-- a fraction or None -/
def OQ (K : PySem.W.Frag) (H : Hp) (v : V) : Option Rat → Prop
  | none => v = .non
  | some q => ∃ x, v = .ref x ∧ FrQ K H x q
theorem OQ.same {K : PySem.W.Frag} {H H' : Hp} {v : V} {o : Option Rat} (h : OQ K H v o) (e : Same H H') : OQ K H' v o := by
  cases o with
  | none => exact h
  | some q =>
    obtain ⟨x, e1, h1⟩ := h
    exact ⟨x, e1, h1.same e⟩
def oq : Option Rat → PyData
  | none => .none
  | some q => dq q
theorem OQ.dk {K : PySem.W.Frag} {H : Hp} {v : V} {o : Option Rat} (h : OQ K H v o) (n : Nat := 0) : Dk K H (n + 2) v (oq o) := by
  cases o with
  | none => rw [show v = .non from h]; exact .non _
  | some q =>
    obtain ⟨x, e1, h1⟩ := h
    rw [e1]
    exact h1.dk n
/-- the strength of a juice -/
def stren (s w : Rat) : Option Rat := if s + w = 0 then none else some (s / (s + w))
theorem stren_part {s w t : Rat} (h : t ≠ 0) : stren (s * t) (w * t) = stren s w := by
  unfold stren
  by_cases c : s + w = 0
  · rw [if_pos c, if_pos (by grind)]
  · rw [if_neg c, if_neg (by grind)]
    congr 1
    grind
theorem stren_more {s w t : Rat} (h : 0 ≤ t) : stren (s + s * t) (w + w * t) = stren s w := by
  have e1 : s + s * t = s * (1 + t) := by grind
  have e2 : w + w * t = w * (1 + t) := by grind
  rw [e1, e2]
  exact stren_part (by grind)
theorem strength_between {s w x y : Rat} (hs : 0 ≤ s) (hw : 0 ≤ w) (hx : 0 ≤ x) (hy : 0 ≤ y) (h1 : s + w ≠ 0) (h2 : x + y ≠ 0) (le : s / (s + w) ≤ x / (x + y)) :
    s / (s + w) ≤ (s + x) / (s + x + (w + y)) ∧ (s + x) / (s + x + (w + y)) ≤ x / (x + y) := by
  have p1 : 0 < s + w := by grind
  have p2 : 0 < x + y := by grind
  have p3 : 0 < s + x + (w + y) := by grind
  generalize ea : s / (s + w) = a at *
  generalize eb : x / (x + y) = b at *
  have sa : s = a * (s + w) := by grind
  have xb : x = b * (x + y) := by grind
  have d : 0 ≤ b - a := by grind
  constructor
  · refine le_div p3 ?_
    have k := Rat.mul_nonneg d (Rat.le_of_lt p2)
    grind
  · refine div_le p3 ?_
    have k := Rat.mul_nonneg d (Rat.le_of_lt p1)
    grind
theorem is_zero {q : Rat} : decide (q.num = 0 ∧ (q.den : Int) = 1) = decide (q = 0) := by
  rw [decide_eq_decide]
  constructor
  · rintro ⟨h, _⟩
    exact num_zero.mp h
  · rintro rfl
    exact ⟨rfl, rfl⟩
/-- boiling -/
def wat (s u : Rat) : Rat := s / u - s
def boil (s w : Rat) (f : Int) (u h : Rat) : Rat := if wat s u < w then (if w - f * h < wat s u then wat s u else w - f * h) else w
theorem rq_wat (s u : Rat) (hu : u ≠ 0) : rq (s.num * ((u.den : Int) - u.num)) (s.den * u.num) = wat s u := by
  have e1 := rat_nd s
  have e2 := rat_nd u
  have h1 := den_ne s
  have h2 := den_ne u
  have h3 := int_ne (num_ne hu)
  unfold rq wat
  rw [Rat.intCast_mul, Rat.intCast_mul, Rat.intCast_sub]
  generalize ((s.den : Int) : Rat) = d at *
  generalize (s.num : Rat) = n at *
  generalize ((u.den : Int) : Rat) = d2 at *
  generalize (u.num : Rat) = n2 at *
  rw [← e1, ← e2]
  grind
theorem Sz.add {m n : Nat} {p q : Rat} (h : Sz m p) (k : Sz n q) : Sz (m + n + 1) (p + q) := by
  rw [← rq_add]
  exact sz_rq (Int.mul_ne_zero (den_ne' p) (den_ne' q)) (lt_up (add_lt (wide_lt h.1 k.2) (lt_up (wide_lt k.1 h.2) (by omega : n + m ≤ m + n))) (by omega)) (lt_up (wide_lt h.2 k.2) (by omega))
theorem Sz.sub {m n : Nat} {p q : Rat} (h : Sz m p) (k : Sz n q) : Sz (m + n + 1) (p - q) := by
  rw [← rq_sub]
  exact sz_rq (Int.mul_ne_zero (den_ne' p) (den_ne' q)) (lt_up (sub_lt (wide_lt h.1 k.2) (lt_up (wide_lt k.1 h.2) (by omega : n + m ≤ m + n))) (by omega)) (lt_up (wide_lt h.2 k.2) (by omega))
theorem Sz.mul {m n : Nat} {p q : Rat} (h : Sz m p) (k : Sz n q) : Sz (m + n) (p * q) := by
  rw [← rq_mul]
  exact sz_rq (Int.mul_ne_zero (den_ne' p) (den_ne' q)) (wide_lt h.1 k.1) (wide_lt h.2 k.2)
theorem Sz.wat {m n : Nat} {s u : Rat} (h : Sz m s) (k : Sz n u) (hu : u ≠ 0) : Sz (m + n + 1) (wat s u) := by
  rw [← rq_wat s u hu]
  exact sz_rq (Int.mul_ne_zero (den_ne' s) (num_ne hu)) (lt_up (wide_lt h.1 (sub_lt k.2 k.1)) (by omega)) (lt_up (wide_lt h.2 k.1) (by omega))
theorem Sz.boil {a b c n N : Nat} {s w u h : Rat} {f : Int} (zs : Sz a s) (zu : Sz n u) (hu : u ≠ 0) (zw : Sz b w) (zh : Sz c h) (hf : f.natAbs < 2 ^ 14) (h1 : a + n + 1 ≤ N) (h2 : b + (14 + c) + 1 ≤ N) : Sz N (KR.boil s w f u h) := by
  unfold KR.boil
  split
  · split
    · exact (Sz.wat zs zu hu).up h1
    · exact (Sz.sub zw (Sz.mul (Sz.int hf (by decide)) zh)).up h2
  · exact zw.up (by omega)
theorem boil_zero {s w u : Rat} {f : Int} : boil s w f u 0 = w := by
  unfold boil
  rw [Rat.mul_zero]
  split <;> grind
theorem boil_boil {s w u h k : Rat} {f : Int} (hf : 0 ≤ f) (hh : 0 ≤ h) (hk : 0 ≤ k) : boil s (boil s w f u h) f u k = boil s w f u (h + k) := by
  have f0 := cast_nn hf
  have a0 := Rat.mul_nonneg f0 hh
  have b0 := Rat.mul_nonneg f0 hk
  unfold boil
  rw [Rat.mul_add]
  generalize (f : Rat) * h = a at *
  generalize (f : Rat) * k = b at *
  generalize wat s u = L
  grind
theorem boil_fire {s w u h : Rat} {f g : Int} (hf : f ≤ g) (hh : 0 ≤ h) : boil s w g u h ≤ boil s w f u h := by
  have k := Rat.mul_nonneg (cast_nn (show 0 ≤ g - f by omega)) hh
  rw [Rat.intCast_sub] at k
  unfold boil
  generalize wat s u = L
  have e : ((g : Rat) - (f : Rat)) * h = (g : Rat) * h - (f : Rat) * h := by grind
  rw [e] at k
  generalize (f : Rat) * h = a at *
  generalize (g : Rat) * h = b at *
  grind
theorem boil_two {s w u h : Rat} {f : Int} : boil (s + s) (w + w) (2 * f) u h = boil s w f u h + boil s w f u h := by
  unfold boil
  have e : wat (s + s) u = wat s u + wat s u := by
    unfold wat
    grind
  rw [e, Rat.intCast_mul]
  have e2 : ((2 : Int) : Rat) * (f : Rat) * h = (f : Rat) * h + (f : Rat) * h := by
    have e3 : ((2 : Int) : Rat) = 2 := rfl
    rw [e3]
    grind
  rw [e2]
  generalize (f : Rat) * h = a at *
  generalize wat s u = L at *
  grind
theorem Sz.div {m n : Nat} {p q : Rat} (h : Sz m p) (k : Sz n q) (hq : q ≠ 0) : Sz (m + n) (p / q) := by
  rw [← rq_div]
  exact sz_rq (Int.mul_ne_zero (den_ne' p) (num_ne hq)) (wide_lt h.1 k.2) (wide_lt h.2 k.1)
theorem rq_divi (r : Rat) (f : Int) : rq r.num (r.den * f) = r / (f : Rat) := by
  have e := rq_div r (f : Rat)
  rw [← e]
  show rq r.num (r.den * f) = rq (r.num * 1) (r.den * f)
  rw [Int.mul_one]
theorem FrQ.dp {K : PySem.W.Frag} {H : Hp} {x : Addr} {q : Rat} (h : FrQ K H x q) : Dp K H (.ref x) (dq q) := .tup h (.cons (.int _) (.cons (.int _) .nil))
theorem JuQ.dp {K : PySem.W.Frag} {H : Hp} {x : Addr} {s w : Rat} (h : JuQ K H x s w) : Dp K H (.ref x) (dj s w) := by
  obtain ⟨a, b, h1, h2, h3⟩ := h
  exact .tup h1 (.cons h2.dp (.cons h3.dp .nil))
theorem eqv_dq (a b : Rat) : PyData.eqv (dq a) (dq b) = decide (a = b) := by
  refine eqv_pair.trans ?_
  rw [decide_eq_decide]
  constructor
  · rintro ⟨h1, h2⟩
    exact Rat.ext h1 (by omega)
  · rintro rfl
    exact ⟨rfl, rfl⟩
theorem OQ.dp {K : PySem.W.Frag} {H : Hp} {v : V} {o : Option Rat} (h : OQ K H v o) : Dp K H v (oq o) := by
  cases o with
  | none => rw [show v = .non from h]; exact .non
  | some q =>
    obtain ⟨x, e1, h1⟩ := h
    rw [e1]
    exact h1.dp
theorem oq_fit (o : Option Rat) : PyData.canLay0 (oq o) = true ∧ PyData.depth (oq o) ≤ 60 := by
  cases o with
  | none => exact ⟨rfl, by decide⟩
  | some q => exact ⟨rfl, by show 1 ≤ 60; decide⟩
/-- when a juice is ready -/
def ready (s w : Rat) (f : Int) (u : Rat) : Option Rat := if s = 0 then none else if wat s u < w then (if f = 0 then none else some ((w - wat s u) / (f : Rat))) else some 0
theorem wat_nn {s u : Rat} (hs : 0 ≤ s) (u0 : 0 < u) (u1 : u < 1) : 0 ≤ wat s u := by
  have k := Rat.mul_nonneg hs (show 0 ≤ 1 - u by grind)
  have h : s ≤ s / u := le_div u0 (by grind)
  unfold wat
  grind
theorem on_way {s w u : Rat} {f : Int} (hs : 0 < s) (u0 : 0 < u) (u1 : u < 1) (hf : 0 < f) (lt : wat s u < w) {t : Rat} (et : t = (w - wat s u) / (f : Rat)) :
    boil s w f u t = wat s u ∧ stren s (wat s u) = some u ∧ 0 < t ∧ ∀ h : Rat, 0 < h → (boil s w f u (t + h) = wat s u ∧ (h ≤ 1 → ∃ q, stren s (boil s w f u (t * h)) = some q ∧ (q = u ↔ h = 1) ∧ ready s (boil s w f u (t * h)) f u = some (t - t * h))) := by
  have f0 := cast_pos hf
  have fne : (f : Rat) ≠ 0 := by grind
  have ft : (f : Rat) * t = w - wat s u := by rw [et]; grind
  have wn := wat_nn (Rat.le_of_lt hs) u0 u1
  have tp : 0 < t := by
    rw [et]
    exact (Rat.lt_div_iff f0).mpr (by grind)
  refine ⟨?_, ?_, tp, fun h hh => ⟨?_, fun h1 => ?_⟩⟩
  · unfold boil
    rw [ft]
    grind
  · have e : s + wat s u = s / u := by
      unfold wat
      grind
    have ne : s / u ≠ 0 := by grind
    unfold stren
    rw [e, if_neg ne]
    congr 1
    grind
  · have k := Rat.mul_pos f0 hh
    unfold boil
    rw [Rat.mul_add, ft]
    grind
  · have d : 0 < w - wat s u := by grind
    have k := Rat.mul_nonneg (Rat.le_of_lt d) (show 0 ≤ 1 - h by grind)
    have e : (f : Rat) * (t * h) = (w - wat s u) * h := by rw [← ft]; grind
    have eb : boil s w f u (t * h) = w - (w - wat s u) * h := by
      unfold boil
      rw [e]
      grind
    have xge : wat s u ≤ w - (w - wat s u) * h := by grind
    have sx : s + (w - (w - wat s u) * h) ≠ 0 := by grind
    rw [eb]
    refine ⟨s / (s + (w - (w - wat s u) * h)), if_neg sx, ⟨fun q => ?_, fun q => ?_⟩, ?_⟩
    · have q2 : s = u * (s + (w - (w - wat s u) * h)) := by grind
      have q3 : wat s u = w - (w - wat s u) * h := by
        unfold wat at *
        grind
      have q4 : (w - wat s u) * (1 - h) = 0 := by grind
      have q5 : 1 - h = 0 := by
        rcases Rat.mul_eq_zero.mp q4 with z | z
        · grind
        · exact z
      grind
    · rw [q]
      have e2 : s + (w - (w - wat s u) * 1) = s / u := by
        unfold wat
        grind
      rw [e2]
      grind
    · unfold ready
      rw [if_neg (by grind)]
      by_cases c : wat s u < w - (w - wat s u) * h
      · rw [if_pos c, if_neg (by omega)]
        congr 1
        rw [et]
        grind
      · rw [if_neg c]
        have q4 : (w - wat s u) * (1 - h) = 0 := by grind
        have q5 : 1 - h = 0 := by
          rcases Rat.mul_eq_zero.mp q4 with z | z
          · grind
          · exact z
        have q6 : h = 1 := by grind
        rw [q6]
        congr 1
        grind
/-- a thing is not among those of a tuple -/
def rNoTup (K : PySem.W.Frag) : R2 := fun x y H Q => ∃ d ds, Dp K H x d ∧ Dp K H y (.tuple ds) ∧ PyData.canLay0 d = true ∧ PyData.canLayAll0 ds = true ∧ PyData.depth d ≤ 60 ∧ Q (.bl (!ds.any fun z => PyData.eqv z d)) H
theorem notTup {X : Cx} {K : PySem.W.Frag} (hK : X.K = K) (room : X.A.units + 64 < cLine) : OpR X (compareOp .NotIn) (rNoTup K) := by
  subst hK
  intro pn s0 σ H x y v1 v2 Q I a1 a2 h
  obtain ⟨d, ds, h1, h2, h3, h4, h5, q⟩ := h
  obtain ⟨as1, r1⟩ := Dp.reads I d x v1 h1 a1
  obtain ⟨as2, r2⟩ := Dp.reads I (.tuple ds) y v2 h2 a2
  exact SeqAt.notIn_tuple_reads r2 r1 h4 h3 (by omega) ⟨.bl _, H, I, rfl, q⟩
/-- a juice in, a juice and a share in, two juices in -/
def sp_j2 (K : PySem.W.Frag) : Sp := fun vs H Q _ => ∃ (x y : Addr) (s w s' w' : Rat) (m n : Nat), vs = [.ref x, .ref y] ∧ JuQ K H x s w ∧ JuQ K H y s' w' ∧ Sz m s ∧ Sz m w ∧ Sz n s' ∧ Sz n w' ∧ m + n ≤ 1900 ∧
  ∀ z H', Same H H' → JuQ K H' z (s + s') (w + w') → Sz (m + n + 1) (s + s') → Sz (m + n + 1) (w + w') → Q (.ref z) H'
def sp_jt (K : PySem.W.Frag) (f : Rat → Rat) : Sp := fun vs H Q _ => ∃ (x y : Addr) (s w t : Rat) (m n : Nat), vs = [.ref x, .ref y] ∧ JuQ K H x s w ∧ FrQ K H y t ∧ Sz m s ∧ Sz m w ∧ Sz n t ∧ m + n ≤ 900 ∧ n ≤ 400 ∧
  ∀ z H', Same H H' → JuQ K H' z (s * f t) (w * f t) → Sz (m + n + 10) (s * f t) → Sz (m + n + 10) (w * f t) → Q (.ref z) H'
def sp_vol (K : PySem.W.Frag) : Sp := fun vs H Q _ => ∃ (x : Addr) (s w : Rat) (m : Nat), vs = [.ref x] ∧ JuQ K H x s w ∧ Sz m s ∧ Sz m w ∧ m ≤ 900 ∧ ∀ z H', Same H H' → FrQ K H' z (s + w) → Sz (m + m + 1) (s + w) → Q (.ref z) H'
def sp_str (K : PySem.W.Frag) : Sp := fun vs H Q _ => ∃ (x : Addr) (s w : Rat) (m : Nat), vs = [.ref x] ∧ JuQ K H x s w ∧ Sz m s ∧ Sz m w ∧ m ≤ 600 ∧ ∀ v H', Same H H' → OQ K H' v (stren s w) → (∀ q, stren s w = some q → Sz (3 * m + 2) q) → Q v H'
end KR
/-! ### walks over things that may be lists or tuples: for, enumerate, zip -/
namespace KR
open PySem PySem.Spec PyProof.Rows L2
/-- a list, or a tuple -/
def SqB (K : PySem.W.Frag) (H : Hp) (a : Addr) (xs : List V) : Bool → Prop
  | true => SqL K H a xs
  | false => SqT K H a xs
def ItB (h : Heap) (it a : Addr) (i : Nat) : Bool → Prop
  | true => h.IsListIter it a i
  | false => h.IsTupleIter it a i
def IsB (h : Heap) (a : Addr) (items : Array Value) : Bool → Prop
  | true => h.IsList a items
  | false => h.IsTuple a items
def objB (a : Addr) : Bool → Obj
  | true => { cls := .type "list_iterator", data := .fields #[.ref a, .int 0 0] }
  | false => { cls := .type "tuple_iterator", data := .fields #[.ref a, .int 0 0] }
theorem SqB.same {K : PySem.W.Frag} {H H' : Hp} {a : Addr} {xs : List V} {b : Bool} (h : SqB K H a xs b) (s : Same H H') : SqB K H' a xs b := by
  cases b with
  | true => exact s.seq h
  | false => exact Same.tup s h
theorem draws_b {prog : Program} {w : World} {A : Around} (hh : A.handled = none) (it a : Addr) (ne : a ≠ it) (items : Array Value) (b : Bool) :
    Draws prog w A it [it, a] items.size (fun i v => items[i]? = some v) (fun i h => ItB h it a i b ∧ IsB h a items b) := by
  cases b with
  | true => exact Draws.list hh it a ne items
  | false => exact Draws.tuple hh it a ne items
theorem begins_b (a : Addr) (items : Array Value) (b : Bool) : Begins (.ref a) (objB a b) fun h => IsB h a items b := by
  cases b with
  | true => exact begins_list a items
  | false => exact begins_tuple a items
theorem first_b {h : Heap} {it a : Addr} {b : Bool} (e : h.get? it = some (objB a b)) : ItB h it a 0 b := by
  cases b with
  | true => exact ⟨_, e, rfl, rfl⟩
  | false => exact ⟨_, e, rfl, rfl⟩
theorem ItB.obj {h : Heap} {it a : Addr} {i : Nat} {b : Bool} (t : ItB h it a i b) : ∃ o, h.get? it = some o ∧ ∀ v, o.data ≠ .cell v := by
  cases b with
  | true =>
    obtain ⟨o, e, _, d⟩ := t
    exact ⟨o, e, fun v q => by rw [d] at q; cases q⟩
  | false =>
    obtain ⟨o, e, _, d⟩ := t
    exact ⟨o, e, fun v q => by rw [d] at q; cases q⟩
theorem ItB.keep {h h' : Heap} {it a : Addr} {i : Nat} {b : Bool} (t : ItB h it a i b) (k : ∀ o, h.get? it = some o → h'.get? it = some o) : ItB h' it a i b := by
  cases b with
  | true =>
    obtain ⟨o, e, r⟩ := t
    exact ⟨o, k _ e, r⟩
  | false =>
    obtain ⟨o, e, r⟩ := t
    exact ⟨o, k _ e, r⟩
section
variable {X : Cx} {pins : List (Addr × Obj)} {σ : L2.St} {H : Hp} {s : Shared} {a : Addr} {xs ys : List V} {b : Bool}
theorem inv_b (I : Inv X pins σ H s) (h : SqB X.K H a xs b) : ∃ its : List Value, Vals xs its ∧ IsB s.heap a its.toArray b ∧ a < s.heap.objs.size := by
  cases b with
  | true =>
    obtain ⟨its, rv, p, _⟩ := I.list h
    exact ⟨its, rv, p.isList, p.lt⟩
  | false =>
    obtain ⟨its, rv, p, _⟩ := I.tuple h
    obtain ⟨o, e, _⟩ := id p
    exact ⟨its, rv, p, Heap.lt_size e⟩
theorem inj_b (I : Inv X pins σ H s) (h : SqB X.K H a xs b) (k : SqB X.K H a ys b) : xs = ys := by
  cases b with
  | true => exact I.list_inj h k
  | false => exact I.tuple_inj h k
end
/-- pairs of what two things hold -/
def ItzB (K : PySem.W.Frag) (a b : Addr) (p q : Bool) : It :=
  ⟨fun i H => ∃ (xs ys : List V) (x y : V), SqB K H a xs p ∧ SqB K H b ys q ∧ xs[i]? = some x ∧ ys[i]? = some y,
    fun i H v H' => ∃ T x y, v = .ref T ∧ H T = none ∧ H' = upd H T (.tup [x, y]) ∧ (∀ xs, SqB K H a xs p → xs[i]? = some x) ∧ ∀ ys, SqB K H b ys q → ys[i]? = some y,
    fun i H => ∃ xs ys : List V, SqB K H a xs p ∧ SqB K H b ys q ∧ xs.length = i ∧ ys.length = i⟩
theorem turn_zipB {P : Program} {w : World} {K : PySem.W.Frag} {elts : List Expr} {kk : Nat} {tpos : Pos} {a b : Addr} {p q : Bool} {N : Nat} (la : a < N) (lb : b < N) :
    Turn P w K (.Tuple elts kk tpos) (ItzB K a b p q) [N + 4, N + 2, N + 3, N, N + 1] (N + 4) (fun i h => IsZip h (N + 4) (N + 2) (N + 3) .none ∧ IsTupOf2 h (N + 2) (.ref N) (.ref (N + 1)) ∧ (∃ x y, IsTupOf2 h (N + 3) x y) ∧ ItB h N a i p ∧ ItB h (N + 1) b i q) where
  mem := List.mem_cons_self
  obj := fun i h st c hc => by
    obtain ⟨st1, st2, ⟨x, y, st3⟩, st4, st5⟩ := st
    have cs : c = N + 4 ∨ c = N + 2 ∨ c = N + 3 ∨ c = N ∨ c = N + 1 := by simpa using hc
    rcases cs with rfl | rfl | rfl | rfl | rfl
    · exact ⟨_, st1, nofun⟩
    · exact ⟨_, st2, nofun⟩
    · exact ⟨_, st3, nofun⟩
    · exact st4.obj
    · exact st5.obj
  keep := fun i h h' st k => by
    obtain ⟨st1, st2, ⟨x, y, st3⟩, st4, st5⟩ := st
    exact ⟨k _ (by simp) _ st1, k _ (by simp) _ st2, ⟨x, y, k _ (by simp) _ st3⟩, st4.keep (k _ (by simp)), st5.keep (k _ (by simp))⟩
  item := by
    intro X hP hw hK hc i pins s σ H E I hf st hg
    subst hP hw hK
    obtain ⟨st1, st2, ⟨x0, y0, st3⟩, st4, st5⟩ := st
    obtain ⟨xs, ys, x, y, sx, sy, gx, gy⟩ := hg
    obtain ⟨its, rv, ia, _⟩ := inv_b I sx
    obtain ⟨its2, rv2, ib, _⟩ := inv_b I sy
    obtain ⟨u, hu, ru⟩ := rv.get gx
    obtain ⟨u2, hu2, ru2⟩ := rv2.get gy
    have calm : X.A.in1.handled = none := I.ok.hd hc
    have S : ZipSep2 (N + 4) (N + 2) (N + 3) N (N + 1) [N, a] [N + 1, b] := zip_sep2 (fun c z => by rw [List.mem_singleton.mp z]; exact la) (fun c z => by rw [List.mem_singleton.mp z]; exact lb)
    have zlt : N + 4 < s.heap.objs.size := Heap.lt_size st1
    have i1 : i < its.toArray.size := by
      rw [List.size_toArray]
      exact (List.getElem?_eq_some_iff.mp hu).1
    have i2 : i < its2.toArray.size := by
      rw [List.size_toArray]
      exact (List.getElem?_eq_some_iff.mp hu2).1
    refine wpAny_pyNext_zipD2_item S (draws_b calm N a (Nat.ne_of_lt la) its.toArray p) (draws_b calm (N + 1) b (Nat.ne_of_lt (Nat.lt_succ_of_lt lb)) its2.toArray q) st1 st2 st3 ⟨st4, ia⟩ ⟨st5, ib⟩ i1 i2 fun v1 v2 h' tk p1 p2 z' TO' t1' t2' hT hsz hk => ?_
    have p1' : its.toArray[i]? = some v1 := p1
    have p2' : its2.toArray[i]? = some v2 := p2
    rw [List.getElem?_toArray, hu] at p1'
    rw [List.getElem?_toArray, hu2] at p2'
    obtain rfl := Option.some.inj p1'
    obtain rfl := Option.some.inj p2'
    refine ⟨_, rfl, wpAny_letOwnedTupleGo_zip (s := { s with heap := h', toks := tk }) z' fun h'' z'' sb => ?_⟩
    have hT2 : h''.get? s.heap.objs.size = some { cls := .type "tuple", data := .seq #[u, u2] } := (sb.2 _ (Nat.ne_of_gt zlt)).trans hT
    have new : ObjOk X.prog X.w (upd H s.heap.objs.size (.tup [x, y])) h'' s.heap.objs.size (.tup [x, y]) :=
      ⟨small (by show 2 ≤ 100000; decide), [u, u2], .cons ru (.cons ru2 .nil), ⟨_, hT2, rfl, _, rfl⟩⟩
    have out : ∀ {c : Nat}, c ∉ [N + 4, N + 2, N + 3, N, N + 1] → c ≠ N + 4 ∧ c ≠ N + 3 ∧ c ≠ N ∧ c ≠ N + 1 := fun {c} n => ⟨fun q => n (by simp [q]), fun q => n (by simp [q]), fun q => n (by simp [q]), fun q => n (by simp [q])⟩
    have I1 : Inv X pins σ (upd H s.heap.objs.size (.tup [x, y])) { s with heap := h'', toks := tk } :=
      I.turnedNew (t' := tk) (ch := [N + 4, N + 2, N + 3, N, N + 1]) (fun c o hb q => by
        obtain ⟨n1, n2, n3, n4⟩ := out hb
        exact (sb.2 c n1).trans (hk c o n1 n2 n3 n4 q)) hf (Nat.le_refl _) new
    have d1 : (N + 2 : Nat) ≠ N + 4 := by omega
    have d2 : (N + 3 : Nat) ≠ N + 4 := by omega
    have d3 : (N : Nat) ≠ N + 4 := by omega
    have d4 : (N + 1 : Nat) ≠ N + 4 := by omega
    have d5 : (N + 2 : Nat) ≠ N + 3 ∧ (N + 2 : Nat) ≠ N ∧ (N + 2 : Nat) ≠ N + 1 := by omega
    refine ⟨.ref s.heap.objs.size, _, I1, rfl, ⟨_, x, y, rfl, I.hok.fresh (Nat.le_refl _), rfl, fun l hl => by rw [inj_b I hl sx]; exact gx, fun l hl => by rw [inj_b I hl sy]; exact gy⟩, ⟨z'', ?_, ⟨u, u2, ?_⟩, ?_, ?_⟩, fun c hcm => ?_⟩
    · exact (sb.2 _ d1).trans (hk _ _ d1 d5.1 d5.2.1 d5.2.2 st2)
    · exact (sb.2 _ d2).trans TO'
    · exact t1'.1.keep fun o e => (sb.2 _ d3).trans e
    · exact t2'.1.keep fun o e => (sb.2 _ d4).trans e
    · have hlt : c < s.heap.objs.size := by
        have cs : c = N + 4 ∨ c = N + 2 ∨ c = N + 3 ∨ c = N ∨ c = N + 1 := by simpa using hcm
        have : (c : Nat) ≤ N + 4 := by
          rcases cs with q | q | q | q | q <;> rw [q]
          · exact Nat.le_refl _
          · exact Nat.add_le_add_left (by decide : 2 ≤ 4) N
          · exact Nat.add_le_add_left (by decide : 3 ≤ 4) N
          · exact Nat.le_add_right _ _
          · exact Nat.add_le_add_left (by decide : 1 ≤ 4) N
        exact Nat.lt_of_le_of_lt this zlt
      rw [upd_ne (Nat.ne_of_lt hlt)]
      exact (hf c hcm).1
  done := by
    intro X hP hw hK hc i pins s σ H E I hf st hg
    subst hP hw hK
    obtain ⟨st1, st2, ⟨x0, y0, st3⟩, st4, st5⟩ := st
    obtain ⟨xs, ys, sx, sy, l1, l2⟩ := hg
    obtain ⟨its, rv, ia, _⟩ := inv_b I sx
    obtain ⟨its2, rv2, ib, _⟩ := inv_b I sy
    have k1 := rv.length
    have k2 := rv2.length
    have calm : X.A.in1.handled = none := I.ok.hd hc
    have S : ZipSep2 (N + 4) (N + 2) (N + 3) N (N + 1) [N, a] [N + 1, b] := zip_sep2 (fun c z => by rw [List.mem_singleton.mp z]; exact la) (fun c z => by rw [List.mem_singleton.mp z]; exact lb)
    have i1 : its.toArray.size = i := by rw [List.size_toArray]; omega
    have i2 : its2.toArray.size = i := by rw [List.size_toArray]; omega
    refine wpAny_pyNext_zipD2_end S (draws_b calm N a (Nat.ne_of_lt la) its.toArray p) (draws_b calm (N + 1) b (Nat.ne_of_lt (Nat.lt_succ_of_lt lb)) its2.toArray q) st1 st2 st3 ⟨st4, ia⟩ ⟨st5, ib⟩ (by omega) (by omega) (by omega) fun h' tk hk => ⟨rfl, ?_⟩
    exact I.turnedL (t' := tk) (ch := [N + 4, N + 2, N + 3, N, N + 1]) (fun c o hb q => hk c o (fun z => hb (by simp [z])) (fun z => hb (by simp [z])) (fun z => hb (by simp [z])) (fun z => hb (by simp [z])) q) hf
  self := fun A i s Q E st h => wpAny_pyIter_zip st.1 h
def iZipB (K : PySem.W.Frag) (ta : TA) : TI := fun σ H R => ta σ H fun vs H1 => ∃ (a b : Addr) (xs ys : List V) (p q : Bool), vs = [.ref a, .ref b] ∧ SqB K H1 a xs p ∧ SqB K H1 b ys q ∧ R (ItzB K a b p q) H1
theorem pi_zipB {X : Cx} {K : PySem.W.Frag} {e e2 : Expr} {ta : TA} {p pos tpos : Pos} {elts : List Expr} {kk : Nat} (hK : X.K = K) (glob : Gl X "zip") (free : X.mg "zip" = none) (args : PA X [e, e2] ta)
    (st : starEach [e, e2] X.env = (false, eval e X.env) :: starEach [e2] X.env := by rfl) (bk : (backTo pos (starEach [e2] X.env)).any (·.1) = false := by rfl) : PI X (.Tuple elts kk tpos) (.Call (.Name "zip" p) [e, e2] [] pos) (iZipB K ta) := by
  subst hK
  constructor
  intro pins s σ H R I ask
  refine Call_ (ld_blt I glob free PyProof.Rows.boot_zip (PyProof.Rows.callWith_type1 (thn (args.run pos pins s σ H _ I ask) ?_) st bk))
  rintro us s1 ⟨vs, H1, I1, rel, a, b, xs, ys, p, q, ev, sx, sy, k⟩
  subst ev
  cases rel with
  | cons r rr =>
    cases rr with
    | cons r' rr =>
      cases rr
      cases r
      cases r'
      have fresh5 : ∀ c, c ∈ [s1.heap.objs.size + 4, s1.heap.objs.size + 2, s1.heap.objs.size + 3, s1.heap.objs.size, s1.heap.objs.size + 1] → FpOk X pins H1 c := fun c hcm => by
        have cs : c = s1.heap.objs.size + 4 ∨ c = s1.heap.objs.size + 2 ∨ c = s1.heap.objs.size + 3 ∨ c = s1.heap.objs.size ∨ c = s1.heap.objs.size + 1 := by simpa using hcm
        have low : s1.heap.objs.size ≤ c := by rcases cs with q | q | q | q | q <;> rw [q] <;> first | exact Nat.le_refl _ | exact Nat.le_add_right _ _
        exact I1.fpOk low (I1.hok.fresh low)
      obtain ⟨its, _, ia, la⟩ := inv_b I1 sx
      obtain ⟨its2, _, ib, lb⟩ := inv_b I1 sy
      refine zip_begins2 (begins_b a its.toArray p) (begins_b b its2.toArray q) ia ib fun h' hz hTI hTO h1 h2 hsz hk => wpAny_pyIter_zip hz ?_
      have I2 : Inv X pins σ H1 { s1 with heap := h' } := I1.kept (t' := s1.toks) hk
      exact ⟨s1.heap.objs.size + 4, [s1.heap.objs.size + 4, s1.heap.objs.size + 2, s1.heap.objs.size + 3, s1.heap.objs.size, s1.heap.objs.size + 1], _, _, H1, rfl, I2, turn_zipB la lb, ⟨hz, hTI, ⟨_, _, hTO⟩, first_b h1, first_b h2⟩, fresh5, k⟩
theorem walk_zipB {K : PySem.W.Frag} {a b : Addr} {xs ys : List V} {p q : Bool} {n : Nat} (hx : xs.length = n) (hy : ys.length = n) :
    Walk (ItzB K a b p q) n (fun H => SqB K H a xs p ∧ SqB K H b ys q) (YPair (fun i => xs[i]?) (fun i => ys[i]?)) where
  goes := fun i H hi g => ⟨xs, ys, xs[i]'(by omega), ys[i]'(by omega), g.1, g.2, List.getElem?_eq_getElem _, List.getElem?_eq_getElem _⟩
  stops := fun H g => ⟨xs, ys, g.1, g.2, hx, hy⟩
  yields := fun i H v H' hi g y => by
    obtain ⟨T, x, y, rfl, hT, e, f1, f2⟩ := y
    exact ⟨T, x, y, rfl, hT, e, f1 _ g.1, f2 _ g.2⟩
/-- what a thing holds, counted -/
def IteB (K : PySem.W.Frag) (a : Addr) (p : Bool) : It :=
  ⟨fun i H => ∃ (xs : List V) (x : V), SqB K H a xs p ∧ xs[i]? = some x, fun i H v H' => ∃ T x, v = .ref T ∧ H T = none ∧ H' = upd H T (.tup [.int (i : Nat), x]) ∧ ∀ xs, SqB K H a xs p → xs[i]? = some x, fun i H => ∃ xs : List V, SqB K H a xs p ∧ xs.length = i⟩
theorem turn_enumB {P : Program} {w : World} {K : PySem.W.Frag} {elts : List Expr} {kk : Nat} {tpos : Pos} {a : Addr} {p : Bool} {N : Nat} (la : a < N) :
    Turn P w K (.Tuple elts kk tpos) (IteB K a p) [N + 1, N] (N + 1) (fun i h => (∃ old, IsEnum h (N + 1) N ((i : Nat) : Int) old) ∧ ItB h N a i p) where
  mem := List.mem_cons_self
  obj := fun i h st c hc => by
    obtain ⟨⟨old, st1⟩, st2⟩ := st
    have cs : c = N + 1 ∨ c = N := by simpa using hc
    rcases cs with rfl | rfl
    · exact ⟨_, st1, nofun⟩
    · exact st2.obj
  keep := fun i h h' st k => by
    obtain ⟨⟨old, st1⟩, st2⟩ := st
    exact ⟨⟨old, k _ (by simp) _ st1⟩, st2.keep (k _ (by simp))⟩
  item := by
    intro X hP hw hK hc i pins s σ H E I hf st hg
    subst hP hw hK
    obtain ⟨⟨old, st1⟩, st2⟩ := st
    obtain ⟨xs, x, sx, gx⟩ := hg
    obtain ⟨its, rv, ia, _⟩ := inv_b I sx
    obtain ⟨u, hu, ru⟩ := rv.get gx
    have calm : X.A.in1.handled = none := I.ok.hd hc
    have elt : N + 1 < s.heap.objs.size := Heap.lt_size st1
    have i1 : i < its.toArray.size := by
      rw [List.size_toArray]
      exact (List.getElem?_eq_some_iff.mp hu).1
    refine wpAny_pyNext_enum_itemC (draws_b calm N a (Nat.ne_of_lt la) its.toArray p) st1 ⟨st2, ia⟩ i1 (Nat.succ_ne_self N) (by
      intro z
      have cs : N + 1 = N ∨ N + 1 = a := by simpa using z
      have : ¬ (N + 1 = N) := Nat.succ_ne_self N
      rcases cs with q | q
      · exact this q
      · have la' : (a : Nat) < N := la
        rw [← q] at la'
        exact Nat.lt_irrefl N (Nat.lt_trans (Nat.lt_succ_self N) la')) fun v h' tk p1 out t1 hT hsz hk => ?_
    have p1' : its.toArray[i]? = some v := p1
    rw [List.getElem?_toArray, hu] at p1'
    obtain rfl := Option.some.inj p1'
    refine ⟨_, rfl, wpAny_letOwnedTupleGo_enum (s := { s with heap := h', toks := tk + 1 }) out fun h'' he' sb => ?_⟩
    have hT2 : h''.get? s.heap.objs.size = some { cls := .type "tuple", data := .seq #[.int i tk, u] } := (sb.2 _ (Nat.ne_of_gt elt)).trans hT
    have new : ObjOk X.prog X.w (upd H s.heap.objs.size (.tup [.int (i : Nat), x])) h'' s.heap.objs.size (.tup [.int (i : Nat), x]) :=
      ⟨small (by show 2 ≤ 100000; decide), [.int i tk, u], .cons ⟨_, rfl⟩ (.cons ru .nil), ⟨_, hT2, rfl, _, rfl⟩⟩
    have I1 : Inv X pins σ (upd H s.heap.objs.size (.tup [.int (i : Nat), x])) { s with heap := h'', toks := tk + 1 } :=
      I.turnedNew (t' := tk + 1) (ch := [N + 1, N]) (fun c o hb q => (sb.2 c (fun z => hb (by simp [z]))).trans (hk c o (fun z => hb (by simp [z])) (fun z => hb (by simp [z])) q)) hf (Nat.le_refl _) new
    refine ⟨.ref s.heap.objs.size, _, I1, rfl, ⟨_, x, rfl, I.hok.fresh (Nat.le_refl _), rfl, fun l hl => by rw [inj_b I hl sx]; exact gx⟩, ⟨⟨u, ?_⟩, ?_⟩, fun c hcm => ?_⟩
    · have e1 : ((i + 1 : Nat) : Int) = (i : Int) + 1 := by omega
      rw [e1]
      exact he'
    · exact t1.1.keep fun o e => (sb.2 _ (Nat.ne_of_lt (Nat.lt_succ_self N))).trans e
    · have hlt : c < s.heap.objs.size := by
        have cs : c = N + 1 ∨ c = N := by simpa using hcm
        rcases cs with q | q <;> rw [q]
        · exact elt
        · exact Nat.lt_trans (Nat.lt_succ_self N) elt
      rw [upd_ne (Nat.ne_of_lt hlt)]
      exact (hf c hcm).1
  done := by
    intro X hP hw hK hc i pins s σ H E I hf st hg
    subst hP hw hK
    obtain ⟨⟨old, st1⟩, st2⟩ := st
    obtain ⟨xs, sx, l1⟩ := hg
    obtain ⟨its, rv, ia, _⟩ := inv_b I sx
    have k1 := rv.length
    have calm : X.A.in1.handled = none := I.ok.hd hc
    have i1 : its.toArray.size = i := by rw [List.size_toArray]; omega
    refine wpAny_pyNext_enum_endD (draws_b calm N a (Nat.ne_of_lt la) its.toArray p) st1 (by rw [i1]; exact ⟨st2, ia⟩) fun h' hx => ⟨rfl, ?_⟩
    exact I.turnedL (t' := s.toks) (ch := [N + 1, N]) (fun c o hb q => hx c o (fun z => hb (by simp [z])) q) hf
  self := fun A i s Q E st h => by
    obtain ⟨⟨old, st1⟩, _⟩ := st
    exact wpAny_pyIter_enum st1 h
theorem enum1_meets {v : Value} {o : Obj} {G : Heap → Prop} (B : Begins v o G) :
    Meets (Builtin.«enumerate.__new__» ⟨[.type "enumerate", v], []⟩) (fun _ R s => G s.heap ∧ R (.ok (.ret (.ref (s.heap.push o).objs.size))) { s with heap := (s.heap.push o).push { cls := .type "enumerate", data := .fields #[.none, .bool false, .ref s.heap.objs.size, rawInt 0, .none, .none] } }) :=
  .of_wp fun prog w A R s ask => by
    obtain ⟨hp, g, d, tk, os⟩ := s; obtain ⟨g1, ask⟩ := ask
    have hsub := sub_enumerate
    have way : ∀ {A' : Around} {E : Value → Shared → Prop} {Q : Value → Shared → Prop}, Q (.ref hp.objs.size) ⟨hp.push o, g, d, tk, os⟩ → wpAny (model prog w) A' (pyIter v) Q E ⟨hp, g, d, tk, os⟩ := fun k => B.iter prog w _ _ ⟨hp, g, d, tk, os⟩ _ g1 k
    wp_walk using way
    refine wpAny_stack_any fun st => wpAny_pure ?_
    split
    · rename_i c _ _ _ _ _
      cases (c == Value.type "enumerate") <;> (wp_walk using way; exact ⟨_, rfl, ask⟩)
    · wp_walk using way
      exact ⟨_, rfl, ask⟩
theorem enum1_begins {prog : Program} {w : World} {A : Around} {E : Value → Shared → Prop} {s : Shared} {v : Value} {o : Obj} {G : Heap → Prop} {Q : Value → Shared → Prop} (B : Begins v o G) (g1 : G s.heap)
    (ask : ∀ h', IsEnum h' (s.heap.objs.size + 1) s.heap.objs.size 0 .none → h'.get? s.heap.objs.size = some o → h'.objs.size = s.heap.objs.size + 2 → (∀ b o, s.heap.get? b = some o → h'.get? b = some o) → Q (.ref (s.heap.objs.size + 1)) { s with heap := h' }) :
    wpAny (model prog w) A (call (.type "enumerate") [v]) Q E s := by
  refine callType_new F.called_enumerate (by decide) (F.typeCall_enumerate_1 _) (F.newCall_enumerate_1 _) (fun obj => F.args_object_init_2 obj _) F.entry_enumerate_new (enum1_meets B) ⟨g1, ?_⟩
  have sz : (s.heap.push o).objs.size = s.heap.objs.size + 1 := Heap.size_push ..
  show _ ∧ _
  rw [sz]
  have he : IsEnum ((s.heap.push o).push { cls := .type "enumerate", data := .fields #[.none, .bool false, .ref s.heap.objs.size, rawInt 0, .none, .none] }) (s.heap.objs.size + 1) s.heap.objs.size 0 .none := by
    have k := Heap.get?_push_size (s.heap.push o) (o := { cls := .type "enumerate", data := .fields #[.none, .bool false, .ref s.heap.objs.size, rawInt 0, .none, .none] }) rfl
    rw [sz] at k; exact k
  exact ⟨⟨_, he, rfl⟩, ask _ he (Heap.get?_push_of_some _ (Heap.get?_push_size _ B.free)) (by rw [Heap.size_push, sz]) fun b o x => Heap.get?_push_of_some _ (Heap.get?_push_of_some _ x)⟩
def iEnumB (K : PySem.W.Frag) (ta : TA) : TI := fun σ H R => ta σ H fun vs H1 => ∃ (a : Addr) (xs : List V) (p : Bool), vs = [.ref a] ∧ SqB K H1 a xs p ∧ R (IteB K a p) H1
theorem pi_enumB {X : Cx} {K : PySem.W.Frag} {e : Expr} {ta : TA} {p pos tpos : Pos} {elts : List Expr} {kk : Nat} (hK : X.K = K) (glob : Gl X "enumerate") (free : X.mg "enumerate" = none) (args : PA X [e] ta) (st : starEach [e] X.env = [(false, eval e X.env)] := by rfl) :
    PI X (.Tuple elts kk tpos) (.Call (.Name "enumerate" p) [e] [] pos) (iEnumB K ta) := by
  subst hK
  constructor
  intro pins s σ H R I ask
  refine Call_ (ld_blt I glob free boot_enumerate (PyProof.Rows.callWith_type1 (thn (args.run pos pins s σ H _ I ask) ?_) st rfl))
  rintro us s1 ⟨vs, H1, I1, rel, a, xs, p, ev, sx, k⟩
  subst ev
  cases rel with
  | cons r rr =>
    cases rr
    cases r
    obtain ⟨its, _, ia, la⟩ := inv_b I1 sx
    refine enum1_begins (begins_b a its.toArray p) ia fun h' he h1 hsz hk => wpAny_pyIter_enum he ?_
    have I2 : Inv X pins σ H1 { s1 with heap := h' } := I1.kept (t' := s1.toks) hk
    refine ⟨s1.heap.objs.size + 1, [s1.heap.objs.size + 1, s1.heap.objs.size], _, _, H1, rfl, I2, turn_enumB la, ⟨⟨.none, he⟩, first_b h1⟩, fun c hcm => ?_, k⟩
    have cs : c = s1.heap.objs.size + 1 ∨ c = s1.heap.objs.size := by simpa using hcm
    have low : s1.heap.objs.size ≤ c := by rcases cs with q | q <;> rw [q] <;> first | exact Nat.le_refl _ | exact Nat.le_add_right _ _
    exact I1.fpOk low (I1.hok.fresh low)
theorem walk_enumB {K : PySem.W.Frag} {a : Addr} {xs : List V} {p : Bool} : Walk (IteB K a p) xs.length (fun H => SqB K H a xs p) (YPair (fun i => some (.int (i : Nat))) (fun i => xs[i]?)) where
  goes := fun i H hi g => ⟨xs, xs[i]'(by omega), g, List.getElem?_eq_getElem _⟩
  stops := fun H g => ⟨xs, g, rfl⟩
  yields := fun i H v H' hi g y => by
    obtain ⟨T, x, rfl, hT, e, f⟩ := y
    exact ⟨T, _, x, rfl, hT, e, rfl, f _ g⟩
/-- for over a list or a tuple -/
def iSeqB (K : PySem.W.Frag) (tl : TE) : TI := fun σ H R => tl σ H fun x H1 => ∃ a, x = .ref a ∧ (((∃ xs, SqL K H1 a xs) ∧ R (Itl K a) H1) ∨ ((∃ xs, SqT K H1 a xs) ∧ R (Itt K a) H1))
theorem pi_seqB {X : Cx} {K : PySem.W.Frag} {tg l : Expr} {tl : TE} (hK : X.K = K) (hl : PE X l tl) : PI X tg l (iSeqB K tl) := by
  subst hK
  constructor
  intro pins s σ H R I ask
  refine thn (hl.run pins s σ H _ I ask) fun v s1 ⟨x, H1, I1, r1, a, e, q⟩ => ?_
  subst e
  have e1 : v = Value.ref a := r1
  subst e1
  rcases q with ⟨⟨xs, sx⟩, k⟩ | ⟨⟨xs, sx⟩, k⟩
  · obtain ⟨its, _, ia, _⟩ := I1.list sx
    refine wpAny_pyIter_list ia.isList ⟨s1.heap.objs.size, [s1.heap.objs.size], _, _, H1, rfl, I1.kept (t' := s1.toks) (fun b o e => Heap.get?_push_of_some _ e), turn_list a _, ⟨_, Heap.get?_push_size _ rfl, rfl, rfl⟩, fun c hc => ?_, k⟩
    rw [List.mem_singleton.mp hc]; exact I1.fpOk (Nat.le_refl _) (I1.hok.fresh (Nat.le_refl _))
  · obtain ⟨its, _, ia, _⟩ := I1.tuple sx
    refine wpAny_pyIter_tuple (show s1.heap.IsTuple a its.toArray from ia) ⟨s1.heap.objs.size, [s1.heap.objs.size], _, _, H1, rfl, I1.kept (t' := s1.toks) (fun b o e => Heap.get?_push_of_some _ e), turn_tuple a _, ⟨_, Heap.get?_push_size _ rfl, rfl, rfl⟩, fun c hc => ?_, k⟩
    rw [List.mem_singleton.mp hc]; exact I1.fpOk (Nat.le_refl _) (I1.hok.fresh (Nat.le_refl _))
/-- one rule for a list and a tuple -/
def ItsB (K : PySem.W.Frag) (a : Addr) : Bool → It
  | true => Itl K a
  | false => Itt K a
def iSeqU (K : PySem.W.Frag) (tl : TE) : TI := fun σ H R => tl σ H fun x H1 => ∃ (a : Addr) (xs : List V) (p : Bool), x = .ref a ∧ SqB K H1 a xs p ∧ R (ItsB K a p) H1
theorem pi_seqU {X : Cx} {K : PySem.W.Frag} {tg l : Expr} {tl : TE} (hK : X.K = K) (hl : PE X l tl) : PI X tg l (iSeqU K tl) := by
  subst hK
  constructor
  intro pins s σ H R I ask
  refine thn (hl.run pins s σ H _ I ask) fun v s1 ⟨x, H1, I1, r1, a, xs, p, e, sx, k⟩ => ?_
  subst e
  have e1 : v = Value.ref a := r1
  subst e1
  cases p with
  | true =>
    obtain ⟨its, _, ia, _⟩ := I1.list sx
    refine wpAny_pyIter_list ia.isList ⟨s1.heap.objs.size, [s1.heap.objs.size], _, _, H1, rfl, I1.kept (t' := s1.toks) (fun b o e => Heap.get?_push_of_some _ e), turn_list a _, ⟨_, Heap.get?_push_size _ rfl, rfl, rfl⟩, fun c hc => ?_, k⟩
    rw [List.mem_singleton.mp hc]; exact I1.fpOk (Nat.le_refl _) (I1.hok.fresh (Nat.le_refl _))
  | false =>
    obtain ⟨its, _, ia, _⟩ := I1.tuple sx
    refine wpAny_pyIter_tuple (show s1.heap.IsTuple a its.toArray from ia) ⟨s1.heap.objs.size, [s1.heap.objs.size], _, _, H1, rfl, I1.kept (t' := s1.toks) (fun b o e => Heap.get?_push_of_some _ e), turn_tuple a _, ⟨_, Heap.get?_push_size _ rfl, rfl, rfl⟩, fun c hc => ?_, k⟩
    rw [List.mem_singleton.mp hc]; exact I1.fpOk (Nat.le_refl _) (I1.hok.fresh (Nat.le_refl _))
theorem walk_seqU {K : PySem.W.Frag} {a : Addr} {xs : List V} {p : Bool} : Walk (ItsB K a p) xs.length (fun H => SqB K H a xs p) (YAt xs) := by
  cases p with
  | true => exact walk_list
  | false => exact walk_tup
end KR
/-! ### days: ladles hour by hour, what each place has taken -/
namespace KR
open PySem PySem.Spec PyProof.Rows L2
theorem minLK {X : Cx} {K : PySem.W.Frag} (hK : X.K = K) (hc : X.calm = true) : CallR X (.builtin "min") (rMin K) := hK ▸ cr_min hc
theorem maxLK {X : Cx} {K : PySem.W.Frag} (hK : X.K = K) (hc : X.calm = true) : CallR X (.builtin "max") (rMax K) := hK ▸ cr_max hc
theorem nuMin3_int (i j k : Int) : nuMin3 (.int i) (.int j) (.int k) = some (.int (min (min i j) k)) := by
  have two : ∀ a b : Int, nuMin2 (.int a) (.int b) = some (.int (min a b)) := fun a b => by
    show some (if decide (b < a) = true then V.int b else V.int a) = _
    by_cases h : b < a
    · rw [decide_eq_true h, if_pos rfl, Int.min_def, if_neg (by omega)]
    · rw [decide_eq_false h, if_neg Bool.false_ne_true, Int.min_def, if_pos (by omega)]
  show (nuMin2 (.int i) (.int j)).bind (fun m => nuMin2 m (.int k)) = _
  rw [two i j]
  exact two _ k
/-! the sum of a list or a tuple of numbers; a part of a list or a tuple -/
theorem sum_intTuple {prog : Program} {w : World} {A : Around} {E : Value → Shared → Prop} {s : Shared} {l : Addr} {xs : Array (Int × Tok)} {Q : Value → Shared → Prop} (hh : A.handled = none) (hl : s.heap.IsTuple l (intItems xs))
    (h : ∀ h' tk t', (∀ b o, s.heap.get? b = some o → h'.get? b = some o) → Q (.int (preSum (numAt xs) xs.size) t') { s with heap := h', toks := tk }) :
    wpAny (model prog w) A (call (.builtin "sum") [.ref l]) Q E s := by
  have hlt : l < s.heap.objs.size := by obtain ⟨_, e, _⟩ := id hl; exact Heap.lt_size e
  refine call_sum_walkG (wpAny_pyIter_tuple hl ?_)
  refine ⟨_, [_, l], [_], _, _, _, numAt xs, rfl, Walks.tuple (A := A.in1) hh s.heap.objs.size l (Nat.ne_of_lt hlt) (intItems xs), ⟨⟨_, Heap.get?_push_size _ rfl, rfl, rfl⟩, hl.push _⟩, fun c hc => ?_, (fun _ _ => intItems_at), fun h' tk t' hk => ?_⟩
  · show c < (s.heap.push _).objs.size
    rw [Heap.size_push]
    rcases List.mem_cons.mp hc with rfl | hc
    · exact Nat.lt_succ_self _
    · rcases List.mem_cons.mp hc with rfl | hc
      · exact Nat.lt_succ_of_lt hlt
      · cases hc
  · have := h h' tk t' fun b o e => hk b o (fun hm => by
      rcases List.mem_cons.mp hm with e1 | hm
      · exact absurd (e1 ▸ Heap.lt_size e) (Nat.lt_irrefl _)
      · cases hm) (Heap.get?_push_of_some _ e)
    simpa [intItems] using this
theorem sum_rawT {prog : Program} {w : World} {A : Around} {E : Value → Shared → Prop} {s : Shared} {l : Addr} {its : List Value} {ns : List Int} {Q : Value → Shared → Prop} (hh : A.handled = none) (hl : s.heap.IsTuple l its.toArray) (hi : IntsAre its ns)
    (h : ∀ h' tk t', (∀ b o, s.heap.get? b = some o → h'.get? b = some o) → Q (.int ns.sum t') { s with heap := h', toks := tk }) : wpAny (model prog w) A (call (.builtin "sum") [.ref l]) Q E s := by
  obtain ⟨xs, e⟩ := hi.allInts.items
  have hn : numsOf (intItems xs).toList = ns := by rw [← e]; exact hi.numsOf
  rw [nums_intItems] at hn
  rw [e] at hl
  refine sum_intTuple hh hl fun h' tk t' hk => ?_
  have := h h' tk t' hk
  rw [preSum_eq, List.take_of_length_le (by simp), hn]; exact this
def rSumB (K : PySem.W.Frag) : List V → Hp → VK → Prop := fun vs H Q => ∃ (a : Addr) (ns : List Int) (p : Bool), vs = [V.ref a] ∧ SqB K H a (ns.map V.int) p ∧ Q (.int ns.sum) H
theorem sumBK {X : Cx} {K : PySem.W.Frag} (hK : X.K = K) (hc : X.calm = true) : CallR X (.builtin "sum") (rSumB K) := by
  subst hK
  intro pins s σ H vs us Q I r h
  obtain ⟨a, ns, p, rfl, hs, q⟩ := h
  cases p with
  | true => exact cr_sum hc pins s σ H _ us Q I r ⟨a, ns, rfl, hs, q⟩
  | false =>
    obtain ⟨its, rv, hl, _⟩ := I.tuple hs
    rw [Vals.ref1 r]
    exact sum_rawT (I.ok.hd hc) hl rv.ints fun h' tk t' hk => ⟨.int _, H, I.kept hk, ⟨_, rfl⟩, q⟩
def rSlB (K : PySem.W.Frag) : V → Option Int → Option Int → Hp → VK → Prop := fun x lo hi H Q => ∃ (a : Addr) (xs : List V) (p : Bool), x = .ref a ∧ SqB K H a xs p ∧ ∀ (c : Addr) (H' : Hp), Same H H' → SqB K H' c (cutV xs lo hi) p → Q (.ref c) H'
theorem cut_whole {xs : List V} {lo hi : Option Int} (h : HT.sIx xs.length 0 lo = 0 ∧ HT.sIx xs.length xs.length hi = xs.length) : cutV xs lo hi = xs := by
  unfold cutV
  rw [h.1, h.2, List.drop_zero, Nat.sub_zero, List.take_length]
theorem slBK {X : Cx} {K : PySem.W.Frag} (hK : X.K = K) : SlR X (rSlB K) := by
  subst hK
  intro pins s σ H x v vl vu lo hi sl Q I rx hs pl pu h
  obtain ⟨a, xs, p, rfl, hx, q⟩ := h
  cases p with
  | true => exact sl_list pins s σ H _ v vl vu lo hi sl Q I rx hs pl pu ⟨a, xs, rfl, hx, fun c hc => q c _ (same_new hc) (SqL.of upd_same)⟩
  | false =>
    refine sl_tupA pins s σ H _ v vl vu lo hi sl Q I rx hs pl pu ⟨a, xs, rfl, hx, fun w => ?_, fun _ c hc => q c _ (same_new hc) (SqT.of upd_same)⟩
    refine q a H (.refl _) ?_
    rw [cut_whole w]
    exact hx
theorem cut_to' {xs : List V} {n : Nat} (h : n ≤ xs.length) : cutV xs none (some (n : Int)) = xs.take n := by
  unfold cutV
  rw [HT.sIx_none, HT.sIx_nat, Nat.min_eq_left h, Nat.sub_zero, List.drop_zero]
theorem same_none' {H H' : Hp} {a : Addr} (s : Same H H') (n : H' a = none) : H a = none := by
  cases e : H a with
  | none => rfl
  | some o =>
    have k := s _ _ e
    rw [n] at k
    cases k
theorem fr_new' {p c : Addr} {H H' : Hp} (F : Fr p H H') (n : H' c = none) (ne : c ≠ p) : H c = none := by
  cases e : H c with
  | none => rfl
  | some o =>
    have k := F _ _ ne e
    rw [n] at k
    cases k
/-! what a day tells -/
structure Dy where
  cs : List Int
  ks : List (Int × List Int)
  ss : List Int
structure DyOk (D : Dy) : Prop where
  h1 : 1 ≤ D.cs.length
  h2 : D.cs.length ≤ 48
  k1 : 1 ≤ D.ks.length
  k2 : D.ks.length ≤ 8
  ts : ∀ k ∈ D.ks, k.2.length = D.cs.length
  sl : D.ss.length = D.cs.length
def csum (D : Dy) (t : Nat) : Int := (D.cs.take t).sum
def kt (D : Dy) (p : Nat) : Int × List Int := D.ks.getD p (0, [])
def tkQ (D : Dy) (t : Nat) (prev : Nat → Int) : Nat → Int
  | 0 => min (prev (D.ks.length - 1)) (prev D.ks.length + D.ss.getD t 0)
  | q + 1 => min (min (if D.ks.length - (q + 1) = 0 then csum D (t + 1) else prev (D.ks.length - (q + 1) - 1)) (prev (D.ks.length - (q + 1)) + (kt D (D.ks.length - (q + 1))).2.getD t 0)) (tkQ D t prev q + (kt D (D.ks.length - (q + 1))).1)
/-- what a place has taken by so many hours -/
def tk (D : Dy) : Nat → Nat → Int
  | 0, _ => 0
  | t + 1, p => tkQ D t (tk D t) (D.ks.length - p)
theorem tk_zero (D : Dy) (p : Nat) : tk D 0 p = 0 := rfl
theorem tk_last (D : Dy) (t : Nat) : tk D (t + 1) D.ks.length = min (tk D t (D.ks.length - 1)) (tk D t D.ks.length + D.ss.getD t 0) := by
  show tkQ D t (tk D t) (D.ks.length - D.ks.length) = _
  rw [Nat.sub_self] <;> rfl
theorem tk_at {D : Dy} {t p : Nat} (h : p < D.ks.length) : tk D (t + 1) p = min (min (if p = 0 then csum D (t + 1) else tk D t (p - 1)) (tk D t p + (kt D p).2.getD t 0)) (tk D (t + 1) (p + 1) + (kt D p).1) := by
  show tkQ D t (tk D t) (D.ks.length - p) = min (min _ _) (tkQ D t (tk D t) (D.ks.length - (p + 1)) + _)
  obtain ⟨q, e⟩ : ∃ q, D.ks.length - p = q + 1 := ⟨D.ks.length - p - 1, by omega⟩
  have e1 : D.ks.length - (q + 1) = p := by omega
  have e2 : D.ks.length - (p + 1) = q := by omega
  rw [e, e2]
  show min (min (if D.ks.length - (q + 1) = 0 then _ else tk D t (D.ks.length - (q + 1) - 1)) (tk D t (D.ks.length - (q + 1)) + (kt D (D.ks.length - (q + 1))).2.getD t 0)) (tkQ D t (tk D t) q + (kt D (D.ks.length - (q + 1))).1) = _
  rw [e1]
/-- what each hour takes at a place -/
def rowI (D : Dy) (p : Nat) : List Int := (List.range D.cs.length).map fun t => tk D (t + 1) p - tk D t p
theorem row_len (D : Dy) (p : Nat) : (rowI D p).length = D.cs.length := by
  unfold rowI
  rw [List.length_map, List.length_range]
theorem row_get {D : Dy} {p t : Nat} (h : t < D.cs.length) : (rowI D p)[t]? = some (tk D (t + 1) p - tk D t p) := by
  unfold rowI
  rw [List.getElem?_map, List.getElem?_range h] <;> rfl
theorem row_sum (D : Dy) (p : Nat) : ∀ t, t ≤ D.cs.length → ((rowI D p).take t).sum = tk D t p := fun t => by
  induction t with
  | zero => intro _; rw [List.take_zero, tk_zero] <;> rfl
  | succ t ih =>
    intro h
    rw [take_one (row_get (by omega)), List.sum_append, ih (by omega), List.sum_cons, List.sum_nil]
    omega
/-! where a day stands -/
def IsB' (K : PySem.W.Frag) (H : Hp) (p a : Addr) (ns : List Int) (b : Bool) : Prop := SqB K H a (ns.map V.int) b ∧ a ≠ p
structure KtAt (K : PySem.W.Frag) (H : Hp) (p a : Addr) (k : Int × List Int) : Prop where
  ex : ∃ t b, SqT K H a [.int k.1, .ref t] ∧ IsB' K H p t k.2 b
structure DyP where
  c : Addr
  k : Addr
  s : Addr
  pc : Bool
  pk : Bool
  ps : Bool
  as : List Addr
structure DayAt (K : PySem.W.Frag) (H : Hp) (p a : Addr) (x : DyP) (D : Dy) : Prop where
  at_ : SqT K H a [.ref x.c, .ref x.k, .ref x.s]
  cs : IsB' K H p x.c D.cs x.pc
  ks : SqB K H x.k (x.as.map V.ref) x.pk
  kp : x.k ≠ p
  ss : IsB' K H p x.s D.ss x.ps
  len : x.as.length = D.ks.length
  kt : ∀ (j : Nat) (a : Addr) (k : Int × List Int), x.as[j]? = some a → D.ks[j]? = some k → KtAt K H p a k
theorem IsB'.same {K : PySem.W.Frag} {H H' : Hp} {p a : Addr} {ns : List Int} {b : Bool} (h : IsB' K H p a ns b) (s : Same H H') : IsB' K H' p a ns b := ⟨h.1.same s, h.2⟩
theorem SqB.fr {K : PySem.W.Frag} {H H' : Hp} {p a : Addr} {xs : List V} {b : Bool} {n : Nat} (h : SqB K H a xs b) (ne : a ≠ p) (B : BoxAt H p n) (f : Fr p H H') : SqB K H' a xs b := by
  cases b with
  | true =>
    rcases h with (h | ⟨o, h⟩) | h
    · exact .inl (.inl (f _ _ ne h))
    · exact .inl (.inr ⟨o, f _ _ ne h⟩)
    · exact .inr h
  | false => exact sqT_fr h B f
theorem IsB'.fr {K : PySem.W.Frag} {H H' : Hp} {p a : Addr} {ns : List Int} {b : Bool} {n : Nat} (h : IsB' K H p a ns b) (B : BoxAt H p n) (f : Fr p H H') : IsB' K H' p a ns b := ⟨SqB.fr h.1 h.2 B f, h.2⟩
theorem KtAt.same {K : PySem.W.Frag} {H H' : Hp} {p a : Addr} {k : Int × List Int} (h : KtAt K H p a k) (s : Same H H') : KtAt K H' p a k := by
  obtain ⟨t, b, h1, h2⟩ := h.ex
  exact ⟨t, b, Same.tup s h1, h2.same s⟩
theorem KtAt.fr {K : PySem.W.Frag} {H H' : Hp} {p a : Addr} {k : Int × List Int} {n : Nat} (h : KtAt K H p a k) (B : BoxAt H p n) (f : Fr p H H') : KtAt K H' p a k := by
  obtain ⟨t, b, h1, h2⟩ := h.ex
  exact ⟨t, b, sqT_fr h1 B f, h2.fr B f⟩
theorem DayAt.same {K : PySem.W.Frag} {H H' : Hp} {p a : Addr} {x : DyP} {D : Dy} (h : DayAt K H p a x D) (s : Same H H') : DayAt K H' p a x D :=
  ⟨Same.tup s h.at_, h.cs.same s, h.ks.same s, h.kp, h.ss.same s, h.len, fun j a k e1 e2 => (h.kt j a k e1 e2).same s⟩
theorem DayAt.fr {K : PySem.W.Frag} {H H' : Hp} {p a : Addr} {x : DyP} {D : Dy} {n : Nat} (h : DayAt K H p a x D) (B : BoxAt H p n) (f : Fr p H H') : DayAt K H' p a x D :=
  ⟨sqT_fr h.at_ B f, h.cs.fr B f, SqB.fr h.ks h.kp B f, h.kp, h.ss.fr B f, h.len, fun j a k e1 e2 => (h.kt j a k e1 e2).fr B f⟩
theorem DayAt.pot {K : PySem.W.Frag} {H : Hp} {p a : Addr} {x : DyP} {D : Dy} (h : DayAt K H p a x D) {j : Nat} (lt : j < D.ks.length) : ∃ ka t b, (x.as.map V.ref)[j]? = some (.ref ka) ∧ SqT K H ka [.int (KR.kt D j).1, .ref t] ∧ IsB' K H p t (KR.kt D j).2 b := by
  have e1 : x.as[j]? = some (x.as[j]'(by rw [h.len]; exact lt)) := List.getElem?_eq_getElem _
  have e2 : D.ks[j]? = some D.ks[j] := List.getElem?_eq_getElem lt
  obtain ⟨t, b, h1, h2⟩ := (h.kt j _ _ e1 e2).ex
  have e3 : KR.kt D j = D.ks[j] := by
    unfold KR.kt
    rw [List.getD_eq_getElem?_getD, e2] <;> rfl
  rw [e3]
  exact ⟨_, t, b, by rw [List.getElem?_map, e1] <;> rfl, h1, h2⟩
theorem ints_get {ns : List Int} {t : Nat} (h : t < ns.length) : (ns.map V.int)[t]? = some (.int (ns.getD t 0)) := by
  rw [List.getElem?_map, List.getD_eq_getElem?_getD, List.getElem?_eq_getElem h] <;> rfl
theorem kt_len {D : Dy} (O : DyOk D) {p : Nat} (h : p < D.ks.length) : (kt D p).2.length = D.cs.length := by
  refine O.ts _ ?_
  unfold kt
  rw [List.getD_eq_getElem?_getD, List.getElem?_eq_getElem h]
  exact List.getElem_mem h
theorem lenV_b {K : PySem.W.Frag} {H : Hp} {a : Addr} {xs : List V} {p : Bool} (h : SqB K H a xs p) : LenV K (.ref a) H xs.length := by
  cases p with
  | true => exact .inl ⟨xs, h, rfl⟩
  | false => exact .inr ⟨xs, h, rfl⟩
theorem ix_b {K : PySem.W.Frag} {H : Hp} {a : Addr} {xs : List V} {p : Bool} {i : Nat} {j : Int} {v : V} {Q : VK} (h : SqB K H a xs p) (e : j = (i : Int)) (g : xs[i]? = some v) (q : Q v H) : rIx K (.ref a) (.int j) H Q := by
  subst e
  cases p with
  | true => exact .inl ⟨a, xs, _, v, rfl, rfl, h, at_of rfl g, q⟩
  | false => exact .inr (.inl ⟨a, xs, _, v, rfl, rfl, h, at_of rfl g, q⟩)
/-! bounds -/
structure Bd where
  word : Str
  lead : Option (Int × Int)
  more : Int
def leadV (H : Hp) (l : V) : Option (Int × Int) → Prop
  | none => l = .non
  | some (p, h) => ∃ q, l = .ref q ∧ H q = some (.tup [.int p, .int h])
def BdAt (H : Hp) (kv : Key × V) (b : Bd) : Prop := kv.1 = .inr b.word ∧ ∃ t l, kv.2 = .ref t ∧ H t = some (.tup [l, .int b.more]) ∧ leadV H l b.lead
theorem leadV.same {H H' : Hp} {l : V} {o : Option (Int × Int)} (h : leadV H l o) (s : Same H H') : leadV H' l o := by
  cases o with
  | none => exact h
  | some x =>
    obtain ⟨q, e, h1⟩ := h
    exact ⟨q, e, s _ _ h1⟩
theorem BdAt.same {H H' : Hp} {kv : Key × V} {b : Bd} (h : BdAt H kv b) (s : Same H H') : BdAt H' kv b := by
  obtain ⟨h1, t, l, h2, h3, h4⟩ := h
  exact ⟨h1, t, l, h2, s _ _ h3, h4.same s⟩
/-- what bounds a place at an hour, that one behind so many hours -/
def firstB (D : Dy) (p t : Nat) : Bd := if p = 0 then ⟨"comes", none, csum D (t + 1)⟩ else ⟨"ahead", some ((p : Int) - 1, (t : Int) - 1), 0⟩
def bnds (D : Dy) (p : Nat) : Nat → List Bd
  | 0 => [⟨"begin", none, 0⟩]
  | t + 1 => if p = D.ks.length then [firstB D p t, ⟨"takes", some ((p : Int), (t : Int) - 1), D.ss.getD t 0⟩]
    else [firstB D p t, ⟨"takes", some ((p : Int), (t : Int) - 1), (kt D p).2.getD t 0⟩, ⟨"room", some ((p : Int) + 1, (t : Int)), (kt D p).1⟩]
def AllBd (H : Hp) (kvs : List (Key × V)) (bs : List Bd) : Prop := Paired (BdAt H) kvs bs
theorem AllBd.same {H H' : Hp} {kvs : List (Key × V)} {bs : List Bd} (h : AllBd H kvs bs) (s : Same H H') : AllBd H' kvs bs := by
  induction h with
  | nil => exact .nil
  | cons a _ ih => exact .cons (a.same s) ih
theorem AllBd.get {H : Hp} : ∀ {kvs : List (Key × V)} {bs : List Bd}, AllBd H kvs bs → ∀ {i : Nat} {kv : Key × V}, kvs[i]? = some kv → ∃ b, bs[i]? = some b ∧ BdAt H kv b
  | [], _, _, i, _, e => by simp at e
  | _ :: _, _, .cons a h, 0, _, e => by cases e; exact ⟨_, rfl, a⟩
  | _ :: _, _, .cons _ h, i + 1, _, e => AllBd.get h (i := i) e
theorem AllBd.len {H : Hp} {kvs : List (Key × V)} {bs : List Bd} (h : AllBd H kvs bs) : kvs.length = bs.length := Paired.length h
/-- a place and an hour as a key -/
def kk (p t : Nat) : List Key := [.inl (p : Int), .inl ((t : Int) - 1)]
theorem kk_inj {p t p' t' : Nat} (h : kk p t = kk p' t') : p = p' ∧ t = t' := by
  unfold kk at h
  injection h with h1 h2
  injection h2 with h3 h4
  injection h1 with h1
  injection h3 with h3
  omega
/-- what is told of places and hours -/
def Told (D : Dy) (kvs : List (List Key × V)) (d : Nat → Nat → Prop) : Prop := ∀ p t, d p t → valV kvs (kk p t) = some (.int (tk D t p))
theorem Told.put {D : Dy} {kvs : List (List Key × V)} {d d' : Nat → Nat → Prop} (h : Told D kvs d) (p t : Nat) (hd : ∀ p' t', d' p' t' → d p' t' ∨ (p' = p ∧ t' = t)) : Told D (putK kvs (kk p t) (.int (tk D t p))) d' := fun p' t' h' => by
  rw [valV_put]
  by_cases c : kk p' t' = kk p t
  · rw [if_pos c]
    obtain ⟨e1, e2⟩ := kk_inj c
    rw [e1, e2]
  · rw [if_neg c]
    rcases hd p' t' h' with g | ⟨e1, e2⟩
    · exact h p' t' g
    · exact absurd (by rw [e1, e2]) c
/-- what a bound comes to -/
def valB (D : Dy) (b : Bd) : Int := match b.lead with
  | none => b.more
  | some (p, h) => tk D (h + 1).toNat p.toNat + b.more
theorem min_mem {ns : List Int} {m a : Int} (h : m ∈ ns) (le : ∀ y ∈ ns, m ≤ y) (ha : a ∈ ns) (la : ∀ y ∈ ns, a ≤ y) : m = a := Int.le_antisymm (le a ha) (la m h)
/-- the least that the bounds come to is what has been taken -/
theorem bnds_min {D : Dy} {p t : Nat} (k1 : 1 ≤ D.ks.length) (hp : p ≤ D.ks.length) : tk D t p ∈ (bnds D p t).map (valB D) ∧ ∀ y ∈ (bnds D p t).map (valB D), tk D t p ≤ y := by
  cases t with
  | zero =>
    show (0 : Int) ∈ [(0 : Int)] ∧ ∀ y ∈ [(0 : Int)], 0 ≤ y
    exact ⟨List.mem_cons_self, fun y hy => by rw [List.mem_singleton.mp hy]; decide⟩
  | succ t =>
    have e1 : valB D (firstB D p t) = if p = 0 then csum D (t + 1) else tk D t (p - 1) := by
      unfold firstB
      by_cases c : p = 0
      · rw [if_pos c, if_pos c] <;> rfl
      · rw [if_neg c, if_neg c]
        show tk D ((t : Int) - 1 + 1).toNat ((p : Int) - 1).toNat + 0 = _
        rw [show ((t : Int) - 1 + 1).toNat = t by omega, show ((p : Int) - 1).toNat = p - 1 by omega, Int.add_zero]
    have e2 : ∀ m, valB D ⟨"takes", some ((p : Int), (t : Int) - 1), m⟩ = tk D t p + m := fun m => by
      show tk D ((t : Int) - 1 + 1).toNat ((p : Int)).toNat + m = _
      rw [show ((t : Int) - 1 + 1).toNat = t by omega, Int.toNat_natCast]
    have e3 : ∀ m, valB D ⟨"room", some ((p : Int) + 1, (t : Int)), m⟩ = tk D (t + 1) (p + 1) + m := fun m => by
      show tk D ((t : Int) + 1).toNat ((p : Int) + 1).toNat + m = _
      rw [show ((t : Int) + 1).toNat = t + 1 by omega, show ((p : Int) + 1).toNat = p + 1 by omega]
    by_cases c : p = D.ks.length
    · have eb : bnds D p (t + 1) = [firstB D p t, ⟨"takes", some ((p : Int), (t : Int) - 1), D.ss.getD t 0⟩] := if_pos c
      rw [eb, List.map_cons, List.map_cons, List.map_nil, e1, e2]
      have et := tk_last D t
      rw [← c] at et
      rw [et, if_neg (show ¬ p = 0 by omega)]
      refine ⟨?_, fun y hy => ?_⟩
      · simp only [List.mem_cons, List.not_mem_nil, or_false]
        omega
      · simp only [List.mem_cons, List.not_mem_nil, or_false] at hy
        omega
    · have eb : bnds D p (t + 1) = [firstB D p t, ⟨"takes", some ((p : Int), (t : Int) - 1), (kt D p).2.getD t 0⟩, ⟨"room", some ((p : Int) + 1, (t : Int)), (kt D p).1⟩] := if_neg c
      have et := tk_at (D := D) (t := t) (p := p) (by omega)
      rw [eb, List.map_cons, List.map_cons, List.map_cons, List.map_nil, e1, e2, e3]
      generalize (if p = 0 then csum D (t + 1) else tk D t (p - 1)) = fb at *
      refine ⟨?_, fun y hy => ?_⟩
      · simp only [List.mem_cons, List.not_mem_nil, or_false]
        omega
      · simp only [List.mem_cons, List.not_mem_nil, or_false] at hy
        omega
theorem same_frb {H0 H1 H2 : Hp} {b : Addr} (s : Same H0 H1) (n : H0 b = none) (f : Fr b H1 H2) : Same H0 H2 := fun c o e => f c o (ne_of_none e n) (s c o e)
/-- the lists of ints in a row, one upon another -/
def RowsAt (H : Hp) (rs : List Addr) (f : Nat → List Int) : Prop := ∀ (j : Nat) (r : Addr), rs[j]? = some r → H r = some (.lst ((f j).map V.int))
theorem leadV.frb {H H' : Hp} {b : Addr} {kb : List (Key × V)} {l : V} {o : Option (Int × Int)} (h : leadV H l o) (hb : H b = some (.dK kb)) (F : Fr b H H') : leadV H' l o := by
  cases o with
  | none => exact h
  | some y =>
    obtain ⟨q, e, h1⟩ := h
    exact ⟨q, e, F _ _ (ne_of h1 hb (by intro z; cases z)) h1⟩
theorem bnds_lead {D : Dy} {p t : Nat} {b : Bd} {p' h' : Int} (hp : p ≤ D.ks.length) (m : b ∈ bnds D p t) (e : b.lead = some (p', h')) : ∃ pn tn : Nat, p' = (pn : Int) ∧ h' = (tn : Int) - 1 ∧ pn ≤ D.ks.length ∧ (tn < t ∨ (tn = t ∧ p < pn)) := by
  cases t with
  | zero =>
    have e1 : b = ⟨"begin", none, 0⟩ := List.mem_singleton.mp m
    rw [e1] at e
    cases e
  | succ t =>
    have f1 : b = firstB D p t → ∃ pn tn : Nat, p' = (pn : Int) ∧ h' = (tn : Int) - 1 ∧ pn ≤ D.ks.length ∧ (tn < t + 1 ∨ (tn = t + 1 ∧ p < pn)) := fun z => by
      rw [z] at e
      unfold firstB at e
      by_cases c : p = 0
      · rw [if_pos c] at e
        cases e
      · rw [if_neg c] at e
        obtain ⟨rfl, rfl⟩ := Prod.mk.inj (Option.some.inj e)
        exact ⟨p - 1, t, by omega, rfl, by omega, .inl (by omega)⟩
    have f2 : ∀ x, b = ⟨"takes", some ((p : Int), (t : Int) - 1), x⟩ → ∃ pn tn : Nat, p' = (pn : Int) ∧ h' = (tn : Int) - 1 ∧ pn ≤ D.ks.length ∧ (tn < t + 1 ∨ (tn = t + 1 ∧ p < pn)) := fun x z => by
      rw [z] at e
      obtain ⟨rfl, rfl⟩ := Prod.mk.inj (Option.some.inj e)
      exact ⟨p, t, rfl, rfl, hp, .inl (by omega)⟩
    by_cases c : p = D.ks.length
    · rw [show bnds D p (t + 1) = [firstB D p t, ⟨"takes", some ((p : Int), (t : Int) - 1), D.ss.getD t 0⟩] from if_pos c] at m
      rcases List.mem_cons.mp m with z | z
      · exact f1 z
      · exact f2 _ (List.mem_singleton.mp z)
    · rw [show bnds D p (t + 1) = [firstB D p t, ⟨"takes", some ((p : Int), (t : Int) - 1), (kt D p).2.getD t 0⟩, ⟨"room", some ((p : Int) + 1, (t : Int)), (kt D p).1⟩] from if_neg c] at m
      rcases List.mem_cons.mp m with z | z
      · exact f1 z
      · rcases List.mem_cons.mp z with z | z
        · exact f2 _ z
        · rw [List.mem_singleton.mp z] at e
          obtain ⟨rfl, rfl⟩ := Prod.mk.inj (Option.some.inj e)
          exact ⟨p + 1, t + 1, by omega, by omega, by omega, .inr ⟨rfl, by omega⟩⟩
theorem bnds_len (D : Dy) (p t : Nat) : 0 < (bnds D p t).length := by
  cases t with
  | zero => exact Nat.zero_lt_succ _
  | succ t =>
    show 0 < (if p = D.ks.length then _ else _ : List Bd).length
    split <;> exact Nat.zero_lt_succ _
theorem bnds_len3 (D : Dy) (p t : Nat) : (bnds D p t).length ≤ 3 := by
  cases t with
  | zero => show 1 ≤ 3; decide
  | succ t =>
    show (if p = D.ks.length then _ else _ : List Bd).length ≤ 3
    split
    · show 2 ≤ 3
      decide
    · show 3 ≤ 3
      decide
/-- the first hour by which so many are struck -/
def FirstV (D : Dy) (m : Int) (v : V) : Prop := (∃ t : Nat, t < D.cs.length ∧ (∀ j, j < t → tk D (j + 1) D.ks.length < m) ∧ m ≤ tk D (t + 1) D.ks.length ∧ v = .int (t : Int)) ∨ ((∀ j, j < D.cs.length → tk D (j + 1) D.ks.length < m) ∧ v = .non)
/-- ladles that a day may have -/
def Ldl (ns : List Int) : Prop := ∀ z ∈ ns, 0 ≤ z ∧ z ≤ 1000000
structure DyNn (D : Dy) : Prop where
  cs : Ldl D.cs
  ks : ∀ k ∈ D.ks, 1 ≤ k.1 ∧ k.1 ≤ 1000000 ∧ Ldl k.2
  ss : Ldl D.ss
/-- kettles beside their lists -/
def KtF (K : PySem.W.Frag) (H : Hp) (p f : Addr) (a : Addr) (k : Int × List Int) : Prop := ∃ t, SqT K H a [.int k.1, .ref t] ∧ H t = some (.lst (k.2.map V.int)) ∧ t ≠ p ∧ t ≠ f
def PotsF (K : PySem.W.Frag) (H : Hp) (p f : Addr) (as : List Addr) (ks : List (Int × List Int)) : Prop := Paired (KtF K H p f) as ks
theorem KtF.same {K : PySem.W.Frag} {H H' : Hp} {p f a : Addr} {k : Int × List Int} (h : KtF K H p f a k) (s : Same H H') : KtF K H' p f a k := by
  obtain ⟨t, h1, h2, h3, h4⟩ := h
  exact ⟨t, Same.tup s h1, s _ _ h2, h3, h4⟩
theorem KtF.fr {K : PySem.W.Frag} {H H' : Hp} {p f a : Addr} {k : Int × List Int} {n : Nat} (h : KtF K H p f a k) (B : BoxAt H p n) (F : Fr p H H') : KtF K H' p f a k := by
  obtain ⟨t, h1, h2, h3, h4⟩ := h
  exact ⟨t, sqT_fr h1 B F, F _ _ h3 h2, h3, h4⟩
theorem KtF.put {K : PySem.W.Frag} {H : Hp} {p f a : Addr} {k : Int × List Int} {xs ys : List V} (h : KtF K H p f a k) (hf : H f = some (.lst xs)) : KtF K (upd H f (.lst ys)) p f a k := by
  obtain ⟨t, h1, h2, h3, h4⟩ := h
  exact ⟨t, sqT_frL h1 hf fr_upd, by rw [upd_ne h4]; exact h2, h3, h4⟩
theorem KtF.to {K : PySem.W.Frag} {H : Hp} {p f g a : Addr} {k : Int × List Int} (h : KtF K H p f a k) (n : H g = none) : KtF K H p g a k := by
  obtain ⟨t, h1, h2, h3, h4⟩ := h
  exact ⟨t, h1, h2, h3, ne_of_none h2 n⟩
theorem PotsF.map {K : PySem.W.Frag} {H H' : Hp} {p f g : Addr} {as : List Addr} {ks : List (Int × List Int)} (h : PotsF K H p f as ks) (m : ∀ a k, KtF K H p f a k → KtF K H' p g a k) : PotsF K H' p g as ks := by
  induction h with
  | nil => exact .nil
  | cons a _ ih => exact .cons (m _ _ a) ih
theorem PotsF.snoc {K : PySem.W.Frag} {H : Hp} {p f : Addr} {as : List Addr} {ks : List (Int × List Int)} {a : Addr} {k : Int × List Int} (h : PotsF K H p f as ks) (ha : KtF K H p f a k) : PotsF K H p f (as ++ [a]) (ks ++ [k]) := by
  induction h with
  | nil => exact .cons ha .nil
  | cons b _ ih => exact .cons b ih
theorem PotsF.get {K : PySem.W.Frag} {H : Hp} {p f : Addr} : ∀ {as : List Addr} {ks : List (Int × List Int)}, PotsF K H p f as ks → ∀ {j : Nat} {a : Addr}, as[j]? = some a → ∃ k, ks[j]? = some k ∧ KtF K H p f a k
  | [], _, _, j, _, e => by simp at e
  | _ :: _, _, .cons h _, 0, _, e => by cases e; exact ⟨_, rfl, h⟩
  | _ :: _, _, .cons _ h, j + 1, _, e => PotsF.get h (j := j) e
theorem PotsF.at_ {K : PySem.W.Frag} {H : Hp} {p f : Addr} {as : List Addr} {ks : List (Int × List Int)} (h : PotsF K H p f as ks) : ∀ (j : Nat) (a : Addr) (k : Int × List Int), as[j]? = some a → ks[j]? = some k → KtAt K H p a k := fun j a k e1 e2 => by
  obtain ⟨k', e3, t, h1, h2, h3, _⟩ := h.get e1
  rw [e2] at e3
  obtain rfl := Option.some.inj e3
  exact ⟨t, true, h1, SqL.of h2, h3⟩
theorem rep_ints (k : Nat) (z : Int) : (List.replicate ((k : Int)).toNat [V.int z]).flatten = (List.replicate k z).map V.int := by
  rw [Int.toNat_natCast, List.map_replicate]
  induction k with
  | zero => rfl
  | succ k ih => rw [List.replicate_succ, List.flatten_cons, ih, List.replicate_succ] <;> rfl
/-! tuple(x) of a list or a tuple -/
def rTupJ (K : PySem.W.Frag) : List V → Hp → VK → Prop := fun xs H Q => ∃ p ys, xs = [.ref p] ∧ ((SqL K H p ys ∧ ∀ l H', Same H H' → H l = none → H' l = some (.tup ys) → Q (.ref l) H') ∨ (SqT K H p ys ∧ Q (.ref p) H))
theorem tupJ {X : Cx} {K : PySem.W.Frag} (h : X.K = K) : CallR X (.type "tuple") (rTupJ K) := fun pins s σ H xs us Q I r ⟨p, ys, e, q⟩ =>
  call_tuple_of pins s σ H xs us Q I r ⟨p, ys, e, h ▸ q.imp (fun z => ⟨z.1, fun l hl => z.2 l _ (same_new hl) hl upd_same⟩) id⟩
/-! rows of numbers as data -/
theorem eqv_nums : ∀ (a b : List Int), PyData.eqvAll (a.map PyData.int) (b.map PyData.int) = decide (a = b)
  | [], [] => rfl
  | [], _ :: _ => rfl
  | _ :: _, [] => rfl
  | x :: a, y :: b => by
    show (PyData.eqv (.int x) (.int y) && PyData.eqvAll (a.map PyData.int) (b.map PyData.int)) = _
    rw [eqv_nums a b]
    show (decide (x = y) && _) = _
    by_cases c : x = y
    · subst c
      by_cases d : a = b
      · subst d
        simp
      · simp [d]
    · simp [c]
def din (ns : List Int) : PyData := .list (ns.map PyData.int)
theorem din_eqv (a b : List Int) : PyData.eqv (din a) (din b) = decide (a = b) := eqv_nums a b
theorem nums_dps {K : PySem.W.Frag} {H : Hp} : ∀ (ns : List Int), DpAll K H (ns.map V.int) (ns.map PyData.int)
  | [] => .nil
  | _ :: r => .cons (.int _) (nums_dps r)
theorem din_at {K : PySem.W.Frag} {H : Hp} {a : Addr} {ns : List Int} (h : H a = some (.lst (ns.map V.int))) : Dp K H (.ref a) (din ns) := .lst (SqL.of h) (nums_dps ns)
theorem nums_flat : ∀ (ns : List Int), PyData.canLayAll0 (ns.map PyData.int) = true ∧ PyData.depthAll (ns.map PyData.int) = 0
  | [] => ⟨rfl, rfl⟩
  | z :: r => by
    obtain ⟨h1, h2⟩ := nums_flat r
    refine ⟨?_, ?_⟩
    · show (PyData.canLay0 (.int z) && PyData.canLayAll0 (r.map PyData.int)) = true
      rw [h1] <;> rfl
    · show max (PyData.depth (.int z)) (PyData.depthAll (r.map PyData.int)) = 0
      rw [h2] <;> rfl
theorem din_shaped (ns : List Int) : SeqAt.shaped (din ns) = true := by
  obtain ⟨h1, h2⟩ := nums_flat ns
  show (PyData.canLayAll0 (ns.map PyData.int) && decide (PyData.depthAll (ns.map PyData.int) + 1 ≤ 64)) = true
  rw [h1, h2] <;> rfl
/-! the hours by which so many are struck -/
theorem filter_head {P : Nat → Bool} : ∀ (n t : Nat), t < n → P t = true → (∀ j, j < t → P j = false) → ∃ r, (List.range n).filter P = t :: r := fun n t lt pt no => by
  induction n with
  | zero => omega
  | succ n ih =>
    rw [List.range_succ, List.filter_append]
    by_cases c : t < n
    · obtain ⟨r, e⟩ := ih c
      rw [e]
      exact ⟨_, rfl⟩
    · have e : t = n := by omega
      subst e
      have e0 : (List.range t).filter P = [] := List.filter_eq_nil_iff.mpr fun j hj => by
        rw [no j (List.mem_range.mp hj)]
        exact Bool.false_ne_true
      rw [e0, List.nil_append, List.filter_cons, if_pos pt]
      exact ⟨_, rfl⟩
def hoursBy (D : Dy) (m : Int) : List Nat := (List.range D.cs.length).filter fun t => decide (m ≤ tk D (t + 1) D.ks.length)
theorem FirstV.hours {D : Dy} {m : Int} {v : V} (h : FirstV D m v) : (hoursBy D m = [] ∧ v = .non) ∨ ∃ t r, hoursBy D m = t :: r ∧ v = .int ((t : Nat) : Int) := by
  rcases h with ⟨t, lt, below, ge, rfl⟩ | ⟨below, rfl⟩
  · obtain ⟨r, e⟩ := filter_head (P := fun t => decide (m ≤ tk D (t + 1) D.ks.length)) D.cs.length t lt (decide_eq_true ge) fun j hj => decide_eq_false (by have := below j hj; omega)
    exact .inr ⟨t, r, e, rfl⟩
  · refine .inl ⟨List.filter_eq_nil_iff.mpr fun j hj => ?_, rfl⟩
    have := below j (List.mem_range.mp hj)
    rw [decide_eq_false (by omega)]
    exact Bool.false_ne_true
/-- what has been taken is neither below nought nor great -/
theorem csum_nn {D : Dy} (N : DyNn D) : ∀ t, 0 ≤ csum D t := fun t => by
  unfold csum
  have all : ∀ l : List Int, (∀ z ∈ l, 0 ≤ z) → 0 ≤ l.sum := fun l => by
    induction l with
    | nil => exact fun _ => Int.le_refl _
    | cons a r ih =>
      intro h
      have h1 := h a List.mem_cons_self
      have h2 := ih fun z hz => h z (List.mem_cons_of_mem _ hz)
      rw [List.sum_cons]
      omega
  exact all _ fun z hz => (N.cs z (List.mem_of_mem_take hz)).1
theorem ldl_at {ns : List Int} (h : Ldl ns) (t : Nat) : 0 ≤ ns.getD t 0 ∧ ns.getD t 0 ≤ 1000000 := by
  rw [List.getD_eq_getElem?_getD]
  cases e : ns[t]? with
  | none => exact ⟨by decide, by decide⟩
  | some z => exact h z (List.mem_of_getElem? e)
theorem kt_nn {D : Dy} (N : DyNn D) (p : Nat) : 0 ≤ (kt D p).1 ∧ Ldl (kt D p).2 := by
  unfold kt
  rw [List.getD_eq_getElem?_getD]
  cases e : D.ks[p]? with
  | none => exact ⟨by decide, fun z hz => absurd hz List.not_mem_nil⟩
  | some k =>
    have h := N.ks k (List.mem_of_getElem? e)
    exact ⟨by show 0 ≤ k.1; omega, h.2.2⟩
theorem tk_nn {D : Dy} (N : DyNn D) : ∀ t q p, p + q = D.ks.length → 0 ≤ tk D t p ∧ tk D t p ≤ 1000000 * t := fun t => by
  induction t with
  | zero =>
    intro q p _
    rw [tk_zero]
    omega
  | succ t ih =>
    intro q
    induction q with
    | zero =>
      intro p hp
      have e : p = D.ks.length := by omega
      subst e
      rw [tk_last]
      have h1 := ih 1 (D.ks.length - 1)
      have h0 := ih 0 D.ks.length rfl
      have s := ldl_at N.ss t
      by_cases c : D.ks.length = 0
      · rw [c] at h0 ⊢
        have e : tk D t (0 - 1) = tk D t 0 := rfl
        omega
      · have := h1 (by omega)
        omega
    | succ q ihq =>
      intro p hp
      rw [tk_at (by omega)]
      have h0 := ih (q + 1) p hp
      have h1 := ihq (p + 1) (by omega)
      have kn := kt_nn N p
      have s := ldl_at kn.2 t
      have c0 := csum_nn N (t + 1)
      by_cases c : p = 0
      · rw [if_pos c]
        omega
      · rw [if_neg c]
        have h2 := ih (q + 2) (p - 1) (by omega)
        omega
/-- a part of a row of numbers -/
theorem cut_nums (ns : List Int) (lo hi : Option Int) : ∃ ms : List Int, cutV (ns.map V.int) lo hi = ms.map V.int ∧ (∀ z ∈ ms, z ∈ ns) ∧ ms.length ≤ ns.length := by
  unfold cutV
  refine ⟨(ns.drop _).take _, by rw [List.map_take, List.map_drop], fun z hz => List.mem_of_mem_drop (List.mem_of_mem_take hz), ?_⟩
  rw [List.length_take, List.length_drop]
  omega
theorem rg_nums (a b : Int) : ∃ ms : List Int, rgV a b = ms.map V.int ∧ ms.length = (b - a).toNat := by
  refine ⟨(List.range (b - a).toNat).map fun i => a + (i : Nat), ?_, by rw [List.length_map, List.length_range]⟩
  unfold rgV
  rw [List.map_map] <;> rfl
/-- a day of tuples stands beside a list that is written -/
theorem DayAt.frT {K : PySem.W.Frag} {H H' : Hp} {p a q : Addr} {c k s : Addr} {as : List Addr} {D : Dy} {xs : List V} (h : DayAt K H p a ⟨c, k, s, false, false, false, as⟩ D) (F : Fr q H H') (hq : H q = some (.lst xs)) (tt : ∀ (j : Nat) (b : Addr) (k : Int × List Int), as[j]? = some b → D.ks[j]? = some k → ∃ t, SqT K H b [.int k.1, .ref t] ∧ SqT K H t (k.2.map V.int) ∧ t ≠ p) : DayAt K H' p a ⟨c, k, s, false, false, false, as⟩ D :=
  ⟨sqT_frL h.at_ hq F, ⟨sqT_frL h.cs.1 hq F, h.cs.2⟩, sqT_frL h.ks hq F, h.kp, ⟨sqT_frL h.ss.1 hq F, h.ss.2⟩, h.len, fun j b k e1 e2 => by
    obtain ⟨t, a1, a2, a3⟩ := tt j b k e1 e2
    exact ⟨t, false, sqT_frL a1 hq F, sqT_frL a2 hq F, a3⟩⟩
theorem same_new_fr {H0 H1 H2 : Hp} {p : Addr} (s : Same H0 H1) (n : H0 p = none) (f : Fr p H1 H2) : Same H0 H2 := fun c o e => f c o (ne_of_none e n) (s c o e)
end KR
/-! ### data of tuples, texts, numbers; repr of any of it -/
namespace KR
open PySem PySem.Spec PyProof.Rows L2
inductive Dg (K : PySem.W.Frag) (H : Hp) : Nat → V → PyData → Prop
  | non (n : Nat) : Dg K H n .non .none
  | int (n : Nat) (i : Int) : Dg K H n (.int i) (.int i)
  | str (n : Nat) (x : Str) : Dg K H n (.str x) (.str x)
  | tup {n : Nat} {a : Addr} {xs : List V} {ds : List PyData} : SqT K H a xs → xs.length = ds.length → (∀ (i : Nat) (x : V) (d : PyData), xs[i]? = some x → ds[i]? = some d → Dg K H n x d) → Dg K H (n + 1) (.ref a) (.tuple ds)
theorem Dg.on {K : PySem.W.Frag} {H H' : Hp} (k : ∀ a xs, SqT K H a xs → SqT K H' a xs) : ∀ {n : Nat} {v : V} {d : PyData}, Dg K H n v d → Dg K H' n v d := by
  intro n v d h
  induction h with
  | non n => exact .non n
  | int n i => exact .int n i
  | str n x => exact .str n x
  | tup h1 h2 _ ih => exact .tup (k _ _ h1) h2 ih
theorem Dg.same {K : PySem.W.Frag} {H H' : Hp} (s : Same H H') {n : Nat} {v : V} {d : PyData} (h : Dg K H n v d) : Dg K H' n v d := h.on fun _ _ q => Same.tup s q
theorem Dg.fr {K : PySem.W.Frag} {H H' : Hp} {p : Addr} {m n : Nat} {v : V} {d : PyData} (h : Dg K H n v d) (B : BoxAt H p m) (f : Fr p H H') : Dg K H' n v d := h.on fun _ _ q => sqT_fr q B f
theorem dps_of {K : PySem.W.Frag} {H : Hp} : ∀ {xs : List V} {ds : List PyData}, xs.length = ds.length → (∀ (i : Nat) (x : V) (d : PyData), xs[i]? = some x → ds[i]? = some d → Dp K H x d) → DpAll K H xs ds
  | [], [], _, _ => .nil
  | x :: xs, d :: ds, hl, h => .cons (h 0 x d rfl rfl) (dps_of (by rw [List.length_cons, List.length_cons] at hl; omega) fun i y e a b => h (i + 1) y e a b)
theorem Dg.dp {K : PySem.W.Frag} {H : Hp} {n : Nat} {v : V} {d : PyData} (h : Dg K H n v d) : Dp K H v d := by
  induction h with
  | non n => exact .non
  | int n i => exact .int i
  | str n x => exact .str x
  | tup h1 h2 _ ih => exact .tup h1 (dps_of h2 ih)
def DgAll (K : PySem.W.Frag) (H : Hp) (n : Nat) (xs : List V) (ds : List PyData) : Prop := xs.length = ds.length ∧ ∀ (i : Nat) (x : V) (d : PyData), xs[i]? = some x → ds[i]? = some d → Dg K H n x d
theorem DgAll.nil {K : PySem.W.Frag} {H : Hp} {n : Nat} : DgAll K H n [] [] := ⟨rfl, fun i x d h => by simp at h⟩
theorem DgAll.cons {K : PySem.W.Frag} {H : Hp} {n : Nat} {x : V} {d : PyData} {xs : List V} {ds : List PyData} (h : Dg K H n x d) (t : DgAll K H n xs ds) : DgAll K H n (x :: xs) (d :: ds) :=
  ⟨by rw [List.length_cons, List.length_cons, t.1], fun i u v hu hv => match i, hu, hv with
    | 0, hu, hv => by cases hu; cases hv; exact h
    | i + 1, hu, hv => t.2 i u v hu hv⟩
theorem DgAll.tup {K : PySem.W.Frag} {H : Hp} {n : Nat} {xs : List V} {ds : List PyData} {a : Addr} (t : DgAll K H n xs ds) (h : SqT K H a xs) : Dg K H (n + 1) (.ref a) (.tuple ds) := .tup h t.1 t.2
/-- data that can be shown -/
structure Fine (k w : Nat) (d : PyData) : Prop where
  lay : PyData.canLay0 d = true
  dep : PyData.depth d ≤ k
  wt : PyData.weight d ≤ w
  ish : PyData.intsShort 13 d = true
  sh : PyData.showable d = true
  nd : PyData.hasDict d = false
structure FineAll (k w : Nat) (ds : List PyData) : Prop where
  lay : PyData.canLayAll0 ds = true
  dep : PyData.depthAll ds ≤ k
  wt : PyData.weightAll ds ≤ w
  ish : PyData.intsShortAll 13 ds = true
  sh : PyData.showableAll ds = true
  nd : PyData.hasDictAll ds = false
theorem FineAll.nil (k : Nat) : FineAll k 0 [] := ⟨rfl, Nat.zero_le _, Nat.le_refl _, rfl, rfl, rfl⟩
theorem FineAll.cons {k a b : Nat} {d : PyData} {ds : List PyData} (h : Fine k a d) (t : FineAll k b ds) : FineAll k (a + 1 + b) (d :: ds) := by
  refine ⟨?_, ?_, ?_, ?_, ?_, ?_⟩
  · show (PyData.canLay0 d && PyData.canLayAll0 ds) = true
    rw [h.lay, t.lay] <;> rfl
  · show max (PyData.depth d) (PyData.depthAll ds) ≤ k
    have := h.dep
    have := t.dep
    omega
  · show PyData.weight d + 1 + PyData.weightAll ds ≤ a + 1 + b
    have := h.wt
    have := t.wt
    omega
  · show (PyData.intsShort 13 d && PyData.intsShortAll 13 ds) = true
    rw [h.ish, t.ish] <;> rfl
  · show (PyData.showable d && PyData.showableAll ds) = true
    rw [h.sh, t.sh] <;> rfl
  · show (PyData.hasDict d || PyData.hasDictAll ds) = false
    rw [h.nd, t.nd] <;> rfl
theorem FineAll.tup {k w : Nat} {ds : List PyData} (t : FineAll k w ds) : Fine (k + 1) w (.tuple ds) := ⟨t.lay, Nat.succ_le_succ t.dep, t.wt, t.ish, t.sh, t.nd⟩
theorem Fine.up {k k' w w' : Nat} {d : PyData} (h : Fine k w d) (h1 : k ≤ k') (h2 : w ≤ w') : Fine k' w' d := ⟨h.lay, Nat.le_trans h.dep h1, Nat.le_trans h.wt h2, h.ish, h.sh, h.nd⟩
theorem Fine.non (k : Nat) : Fine k 0 .none := ⟨rfl, Nat.zero_le _, Nat.le_refl _, rfl, rfl, rfl⟩
theorem nat_short : ∀ n < 1001, (PyData.shown (.int ((n : Nat) : Int))).length ≤ 13 ∧ PyData.weight (.int ((n : Nat) : Int)) ≤ 12 ∧ ((n : Nat) : Int).natAbs.log2 < 1920 := by decide +kernel
theorem Fine.int {i : Int} (k : Nat) (h0 : 0 ≤ i) (h1 : i ≤ 1000) : Fine k 12 (.int i) := by
  obtain ⟨n, rfl⟩ : ∃ n : Nat, i = (n : Int) := ⟨i.toNat, by omega⟩
  obtain ⟨e1, e2, e3⟩ := nat_short n (by omega)
  exact ⟨rfl, Nat.zero_le _, e2, decide_eq_true e1, decide_eq_true e3, rfl⟩
theorem Fine.minus (k : Nat) : Fine k 12 (.int (-1)) := ⟨rfl, Nat.zero_le _, by decide +kernel, by decide +kernel, by decide +kernel, rfl⟩
theorem Fine.str {x : Str} {n : Nat} (k : Nat) (h : x.length ≤ n) (c : ∀ c ∈ TL.tl x, c < 128) : Fine k n (.str x) := by
  refine ⟨?_, Nat.zero_le _, h, rfl, rfl, rfl⟩
  show PyData.strOk x = true
  unfold PyData.strOk
  rw [← Array.all_toList, List.all_eq_true]
  exact fun d hd => decide_eq_true (Nat.lt_trans (c d hd) (by decide))
theorem Fine.line {k w : Nat} {d : PyData} (h : Fine k w d) (hk : k ≤ 60) (hw : w ≤ 100000) : d.shown.length ≤ sizeLine := by
  have dep := h.dep
  have wt := h.wt
  have l : PyData.layable0 d = true := by
    show (PyData.canLay0 d && decide (PyData.depth d ≤ 64) && decide (PyData.weight d ≤ 2 ^ 20)) = true
    rw [h.lay, decide_eq_true (by omega), decide_eq_true (show PyData.weight d ≤ 2 ^ 20 by omega)] <;> rfl
  exact Nat.le_trans (shown_le13 l h.ish) (by decide)
/-- repr of any such data -/
def rReprV (K : PySem.W.Frag) : List V → Hp → VK → Prop := fun xs H Q => ∃ (v : V) (d : PyData) (k w : Nat), xs = [v] ∧ Dp K H v d ∧ Fine k w d ∧ k ≤ 60 ∧ w ≤ 100000 ∧ Q (.str d.shown) H
theorem cr_reprV {X : Cx} {K : PySem.W.Frag} (hK : X.K = K) (hg : X.A.guards = some []) (hu : X.A.units + 64 < cLine) : CallR X (.builtin "repr") (rReprV K) := by
  subst hK
  intro pn s σ H xs us Q I r want
  obtain ⟨v, d, k, w, rfl, dp, f, hk, hw, q⟩ := want
  have len := f.line hk hw
  have dep := f.dep
  cases r with
  | cons r1 r2 =>
    cases r2
    cases dp with
    | non =>
      cases r1
      exact PySem.P.repr_of_none ⟨.str _, H, I.tok _, ⟨_, rfl⟩, q⟩
    | bl b =>
      cases r1
      exact PySem.P.repr_of_bool ⟨.str _, H, I.tok _, ⟨_, rfl⟩, q⟩
    | int i =>
      obtain ⟨t, rfl⟩ := r1
      exact PySem.P.repr_of_int (of_decide_eq_true f.sh) ⟨.str _, H, I.tok _, ⟨_, rfl⟩, q⟩
    | str x =>
      obtain ⟨t, rfl⟩ := r1
      exact PySem.P.repr_of_str ⟨.str _, H, I.tok _, ⟨_, rfl⟩, q⟩ len
    | lst a1 a2 =>
      obtain ⟨as, rd⟩ := Dp.reads I _ _ _ (Dp.lst a1 a2) r1
      cases r1
      exact repr_of_reads' rd f.sh (PyData.noDict_hsm f.nd) hg (by omega) (fun _ _ e => e) (fun h' u tk hkk => ⟨.str _, H, I.kept (fun b o e => hkk b o e), ⟨_, rfl⟩, q⟩) len
    | tup a1 a2 =>
      obtain ⟨as, rd⟩ := Dp.reads I _ _ _ (Dp.tup a1 a2) r1
      cases r1
      exact repr_of_reads' rd f.sh (PyData.noDict_hsm f.nd) hg (by omega) (fun _ _ e => e) (fun h' u tk hkk => ⟨.str _, H, I.kept (fun b o e => hkk b o e), ⟨_, rfl⟩, q⟩) len
end KR
/-! ### plans of a day: a range that is kept; data of days -/
namespace KR
open PySem PySem.Spec PyProof.Rows L2
/-- a comprehension in a comprehension -/
theorem blkOk_in {N : List Str} {outer scope sc : Scope} {own : List (Str × Nat)} {cl : List (Str × Addr)} {C : Addr} {env : Env} (hs : env.scope = sc) (h : blkC N (relS outer sc) scope own = true) : BlkOk N (compEnvC outer cl C env).scope scope own := by
  subst hs
  exact blkOk_by h
/-- range(n) as a value -/
def tRngV (ta : TE) : TE := fun σ H Q => ta σ H fun x H1 => ∃ j : Int, x = .int j ∧ ∀ a, H1 a = none → Q (.ref a) (upd H1 a (.rng 0 j))
theorem pe_rngV {X : Cx} {a : Expr} {ta : TE} {p pos : Pos} (hg : Gl X "range") (hm : X.mg "range" = none) (ha : PE X a ta) (na : starEach [a] X.env = (false, eval a X.env) :: starEach [] X.env := by rfl) : PE X (.Call (.Name "range" p) [a] [] pos) (tRngV ta) := by
  refine ⟨fun pins s σ H Q I h => ?_⟩
  refine Call_ (ld_blt I hg hm boot_range (PyProof.Rows.callWith_type1 (one_arg ha I h (fun v s2 x H2 I2 r q => ?_) na) na))
  obtain ⟨n, rfl, q⟩ := q
  obtain ⟨t, rfl⟩ := r
  exact call_range_1 ⟨.ref s2.heap.objs.size, upd H2 s2.heap.objs.size (.rng 0 n), I2.laid (fun b u e => Heap.get?_push_of_some _ e) (Nat.le_refl _) ⟨_, _, _, Heap.get?_push_size _ rfl⟩, rfl, q _ (I2.hok.fresh (Nat.le_refl _))⟩
/-- a kept range, walked -/
def iRngV (te : TE) : TI := fun σ H R => te σ H fun x H1 => ∃ (a : Addr) (lo hi : Int), x = .ref a ∧ H1 a = some (.rng lo hi) ∧ (-(2 ^ 62) ≤ lo ∧ lo < 2 ^ 62 ∧ -(2 ^ 62) ≤ hi ∧ hi < 2 ^ 62) ∧ R (Itr lo (hi - lo).toNat) H1
theorem pi_rngV {X : Cx} {tg e : Expr} {te : TE} (he : PE X e te) : PI X tg e (iRngV te) := by
  refine ⟨fun pins s σ H R I h => ?_⟩
  refine thn (he.run pins s σ H _ I h) fun v s1 ⟨x, H1, I1, r1, q1⟩ => ?_
  obtain ⟨a, lo, hi, e, ha, ⟨h1, h2, h3, h4⟩, q⟩ := q1
  subst e
  cases r1
  obtain ⟨t, u, w, g⟩ := I1.hok a _ ha
  refine wpAny_pyIter_range (show IsRange s1.heap a lo hi 1 t u w from g) (small_one h1 h2 h3 h4) ?_
  refine pi_one (tk := s1.toks) I1 _ (turn_range _ lo (hi - lo).toNat) ?_ q
  have e1 : lo + ((0 : Nat) : Int) * 1 = lo := by simp
  have e2 : (((hi - lo).toNat : Nat) : Int) - ((0 : Nat) : Int) = Builtin.Range.rangeSize lo hi 1 := by rw [rangeSize_one]; split <;> omega
  show IsRangeIter _ _ (lo + ((0 : Nat) : Int) * 1) ((((hi - lo).toNat : Nat) : Int) - ((0 : Nat) : Int)) 1
  rw [e1, e2]
  exact Heap.get?_push_size _ rfl
/-! days as data that can be shown -/
theorem Fine.ldl {i : Int} (k : Nat) (h0 : 0 ≤ i) (h1 : i ≤ 1000000) : Fine k 20 (.int i) := by
  have n : i.natAbs < 2 ^ 20 := by omega
  have l : i.natAbs ≠ 0 → i.natAbs.log2 < 20 := fun z => (Nat.log2_lt z).mpr n
  refine ⟨rfl, Nat.zero_le _, ?_, decide_eq_true (PyData.shown_int_le (by omega)), decide_eq_true ?_, rfl⟩
  · show (if i == 0 then 0 else i.natAbs.log2 + 1) ≤ 20
    by_cases c : i = 0
    · rw [c]
      decide
    · rw [if_neg (by simpa using c)]
      have := l (by omega)
      omega
  · by_cases c : i.natAbs = 0
    · rw [c]
      decide
    · have := l c
      omega
theorem FineAll.ldl (k : Nat) : ∀ {ns : List Int}, Ldl ns → FineAll k (21 * ns.length) (ns.map PyData.int)
  | [], _ => FineAll.nil k
  | z :: r, h => by
    have a := Fine.ldl k (h z List.mem_cons_self).1 (h z List.mem_cons_self).2
    have b := FineAll.cons a (FineAll.ldl k (ns := r) fun y hy => h y (List.mem_cons_of_mem _ hy))
    have e : 20 + 1 + 21 * r.length = 21 * (z :: r).length := by rw [List.length_cons]; omega
    rw [e] at b
    exact b
theorem FineAll.lst {k w : Nat} {ds : List PyData} (t : FineAll k w ds) : Fine (k + 1) w (.list ds) := ⟨t.lay, Nat.succ_le_succ t.dep, t.wt, t.ish, t.sh, t.nd⟩
theorem ldl_dp {K : PySem.W.Frag} {H : Hp} {p t : Addr} {ns : List Int} {b : Bool} (h : IsB' K H p t ns b) (L : Ldl ns) (l : ns.length ≤ 48) : ∃ d, Fine 1 1008 d ∧ ∀ H', Same H H' → Dp K H' (.ref t) d := by
  have f := FineAll.ldl 0 L
  cases b with
  | true => exact ⟨.list (ns.map PyData.int), (FineAll.lst f).up (Nat.le_refl _) (by omega), fun H' s => .lst (h.same s).1 (nums_dps ns)⟩
  | false => exact ⟨.tuple (ns.map PyData.int), (FineAll.tup f).up (Nat.le_refl _) (by omega), fun H' s => .tup (h.same s).1 (nums_dps ns)⟩
theorem kts_dp {K : PySem.W.Frag} {H : Hp} {p : Addr} : ∀ (as : List Addr) (ks : List (Int × List Int)), as.length = ks.length → (∀ (j : Nat) (a : Addr) (k : Int × List Int), as[j]? = some a → ks[j]? = some k → KtAt K H p a k) → (∀ k ∈ ks, 0 ≤ k.1 ∧ k.1 ≤ 1000000 ∧ Ldl k.2 ∧ k.2.length ≤ 48) → ∃ ds, FineAll 2 (1100 * ks.length) ds ∧ ∀ H', Same H H' → DpAll K H' (as.map V.ref) ds
  | [], [], _, _, _ => ⟨[], FineAll.nil 2, fun _ _ => .nil⟩
  | a :: as, k :: ks, l, at_, ok => by
    obtain ⟨ds, f, dp⟩ := kts_dp as ks (by rw [List.length_cons, List.length_cons] at l; omega) (fun j a k e1 e2 => at_ (j + 1) a k e1 e2) fun k hk => ok k (List.mem_cons_of_mem _ hk)
    obtain ⟨t, b, h1, h2⟩ := (at_ 0 a k rfl rfl).ex
    obtain ⟨o1, o2, o3, o4⟩ := ok k List.mem_cons_self
    obtain ⟨dt, ft, dpt⟩ := ldl_dp h2 o3 o4
    have fk := FineAll.tup (FineAll.cons (Fine.ldl 1 o1 o2) (FineAll.cons ft (FineAll.nil 1)))
    have fa := FineAll.cons (fk.up (w' := 1099) (Nat.le_refl _) (by omega)) f
    refine ⟨.tuple [.int k.1, dt] :: ds, ?_, fun H' s => .cons (.tup (Same.tup s h1) (.cons (.int _) (.cons (dpt H' s) .nil))) (dp H' s)⟩
    have e : 1099 + 1 + 1100 * ks.length = 1100 * (k :: ks).length := by rw [List.length_cons]; omega
    rw [e] at fa
    exact fa
theorem DayAt.shows {K : PySem.W.Frag} {H : Hp} {p a : Addr} {x : DyP} {D : Dy} (h : DayAt K H p a x D) (O : DyOk D) (N : DyNn D) : ∃ d, Fine 4 20000 d ∧ ∀ H', Same H H' → Dp K H' (.ref a) d := by
  have h2 := O.h2
  have k2 := O.k2
  obtain ⟨dc, fc, dpc⟩ := ldl_dp h.cs N.cs h2
  obtain ⟨dss, fs, dps⟩ := ldl_dp h.ss N.ss (by rw [O.sl]; exact h2)
  obtain ⟨dk, fk, dpk⟩ := kts_dp x.as D.ks h.len h.kt fun k hk => ⟨by have := (N.ks k hk).1; omega, (N.ks k hk).2.1, (N.ks k hk).2.2, by rw [O.ts k hk]; exact h2⟩
  have mid : ∃ d2, Fine 3 (1100 * D.ks.length) d2 ∧ PyData.depth d2 ≤ 3 ∧ ∀ H', Same H H' → Dp K H' (.ref x.k) d2 := by
    have hk := h.ks
    cases e : x.pk with
    | true =>
      rw [e] at hk
      exact ⟨.list dk, FineAll.lst fk, (FineAll.lst fk).dep, fun H' s => .lst (Same.seq s hk) (dpk H' s)⟩
    | false =>
      rw [e] at hk
      exact ⟨.tuple dk, FineAll.tup fk, (FineAll.tup fk).dep, fun H' s => .tup (Same.tup s hk) (dpk H' s)⟩
  obtain ⟨d2, f2, _, dp2⟩ := mid
  refine ⟨.tuple [dc, d2, dss], ?_, fun H' s => .tup (Same.tup s h.at_) (.cons (dpc H' s) (.cons (dp2 H' s) (.cons (dps H' s) .nil)))⟩
  have f := FineAll.tup (FineAll.cons (fc.up (k' := 3) (by decide) (Nat.le_refl _)) (FineAll.cons f2 (FineAll.cons (fs.up (k' := 3) (by decide) (Nat.le_refl _)) (FineAll.nil 3))))
  exact f.up (Nat.le_refl _) (by omega)
/-- a plan as data -/
def planD (D : Dy) : PyData := .list ((List.range (D.ks.length + 1)).map fun j => din (rowI D j))
theorem nums_dk {K : PySem.W.Frag} {H : Hp} {r : Addr} {ns : List Int} (n : Nat) (h : H r = some (.lst (ns.map V.int))) (l : ns.length ≤ 100000) : Dk K H (n + 2) (.ref r) (din ns) :=
  .lst h (by rw [List.length_map, List.length_map]) (by rw [List.length_map]; exact l) fun i x d e1 e2 => by
    rw [List.getElem?_map] at e1 e2
    obtain ⟨z, ez, rfl⟩ := Option.map_eq_some_iff.mp e1
    rw [ez] at e2
    cases e2
    exact .int n z
theorem plan_dk {K : PySem.W.Frag} {H : Hp} {f : Addr} {rs : List Addr} {D : Dy} (O : DyOk D) (hf : H f = some (.lst (rs.map V.ref))) (lr : rs.length = D.ks.length + 1) (rows : ∀ (j : Nat) (r : Addr), rs[j]? = some r → H r = some (.lst ((rowI D j).map V.int))) : Dk K H 5 (.ref f) (planD D) := by
  have k2 := O.k2
  have h2 := O.h2
  refine .lst hf (by rw [List.length_map, List.length_map, List.length_range, lr]) (by rw [List.length_map]; omega) fun i x d e1 e2 => ?_
  rw [List.getElem?_map] at e1 e2
  obtain ⟨r, er, rfl⟩ := Option.map_eq_some_iff.mp e1
  obtain ⟨j, ej, rfl⟩ := Option.map_eq_some_iff.mp e2
  obtain ⟨hi, rfl⟩ := List.getElem?_eq_some_iff.mp ej
  rw [List.getElem_range]
  exact nums_dk 2 (rows i r er) (by rw [row_len]; omega)
end KR
/-! ### things of any make, and xs[a:c] = ys -/
namespace KR
open PySem PySem.Spec PyProof.Rows L2
/-- xs[a:c] = ys, ys another list -/
def gSlS (to tl th : TE) : TG := fun v σ H Q => to σ H fun x H1 => tl σ H1 fun a H2 => th σ H2 fun c H3 => ∃ (l b : Addr) (xs ys : List V) (i j : Int), x = .ref l ∧ v = .ref b ∧ a = .int i ∧ c = .int j ∧ H3 l = some (.lst xs) ∧ H3 b = some (.lst ys) ∧ l ≠ b ∧ 0 ≤ i ∧ i ≤ j ∧ j ≤ xs.length ∧ xs.length + ys.length ≤ sizeLine ∧ Q σ (upd H3 l (.lst (xs.take i.toNat ++ ys ++ xs.drop j.toNat)))
theorem pg_slS {X : Cx} {o lo hi : Expr} {to tl th : TE} {p2 pos : Pos} (ho : PE X o to) (hl : PE X lo tl) (hh : PE X hi th)
    (ha : ∀ v, assign (.Subscript o (.Slice (some lo) (some hi) none p2) pos) X.env v = (do
      let ov ← holding [v] (eval o X.env)
      let iv ← holding [v, ov] (eval (.Slice (some lo) (some hi) none p2) X.env)
      standAt pos
      holding [v, ov, iv] (setItem ov iv v)
      release [iv, v, ov] []) := by intro _; rfl) : PG X (.Subscript o (.Slice (some lo) (some hi) none p2) pos) (gSlS to tl th) := by
  refine ⟨fun pins s σ H v u Q I r h => ?_⟩
  rw [ha]
  refine wpAny_bind (wpAny_holding (thn (ho.run pins s σ H _ I h) fun ov s1 ⟨x, H1, I1, r1, q1⟩ => ?_))
  refine wpAny_bind (wpAny_holding ?_)
  refine wpAny_Slice ?_
  rw [evalPart_some]
  refine thn (hl.run pins s1 σ H1 _ I1 q1) fun vl s2 ⟨a, H2, I2, ra, q2⟩ => ?_
  rw [evalPart_some]
  refine thn (hh.run pins s2 σ H2 _ I2 q2) fun vu s3 ⟨c, H3, I3, rc, q3⟩ => ?_
  rw [evalPart_none]
  refine wpAny_pure ?_
  obtain ⟨l, b, xs, ys, i, j, rfl, rfl, rfl, rfl, hx, hb, ne, i0, ij, jl, z, q⟩ := q3
  have I4 : Inv X pins σ H3 { s3 with heap := s3.heap.push { cls := .type "slice", data := .fields #[vl, vu, .none] } } := I3.kept (t' := s3.toks) fun b ob q => Heap.get?_push_of_some _ q
  obtain rfl : ov = .ref l := r1
  obtain rfl : u = .ref b := r
  refine wpAny_bind (wpAny_standAt (wpAny_bind (wpAny_holding ?_)))
  refine set_slice I4 hx hb ne (Heap.IsSliceOf.new ..) ra rc i0 ij jl z fun s5 I5 => ?_
  exact wpAny_release ⟨σ, _, I5, q⟩
/-- things whose lists are none of ours to write: ints to a bound, truths, None, texts, rows of such -/
inductive Tg (K : PySem.W.Frag) (p : Addr → Prop) (H : Hp) (B : Nat) : Nat → V → PyData → Prop
  | non (n : Nat) : Tg K p H B n .non .none
  | bl (n : Nat) (b : Bool) : Tg K p H B n (.bl b) (.bool b)
  | int (n : Nat) (i : Int) (h : i.natAbs ≤ B) : Tg K p H B n (.int i) (.int i)
  | str (n : Nat) (x : Str) (w : Nat) (l : x.length ≤ 10) (c : ∀ c ∈ TL.tl x, c < 128) : Tg K p H B n (.str x) (.str x)
  | lst {n : Nat} {a : Addr} {xs : List V} {ds : List PyData} : H a = some (.lst xs) → ¬ p a → xs.length = ds.length → (∀ (i : Nat) (x : V) (d : PyData), xs[i]? = some x → ds[i]? = some d → Tg K p H B n x d) → Tg K p H B (n + 1) (.ref a) (.list ds)
  | tup {n : Nat} {a : Addr} {xs : List V} {ds : List PyData} : SqT K H a xs → xs.length = ds.length → (∀ (i : Nat) (x : V) (d : PyData), xs[i]? = some x → ds[i]? = some d → Tg K p H B n x d) → Tg K p H B (n + 1) (.ref a) (.tuple ds)
theorem Tg.same {K : PySem.W.Frag} {p : Addr → Prop} {B : Nat} {H H' : Hp} (s : Same H H') : ∀ {n : Nat} {v : V} {d : PyData}, Tg K p H B n v d → Tg K p H' B n v d := by
  intro n v d h
  induction h with
  | non n => exact .non n
  | bl n b => exact .bl n b
  | int n i h => exact .int n i h
  | str n x w l c => exact .str n x w l c
  | lst h1 h2 h3 _ ih => exact .lst (s _ _ h1) h2 h3 ih
  | tup h1 h2 _ ih => exact .tup (Same.tup s h1) h2 ih
theorem Tg.fr {K : PySem.W.Frag} {p : Addr → Prop} {q : Addr} (hq : p q) {B m : Nat} {H H' : Hp} (b : BoxAt H q m) (F : Fr q H H') : ∀ {n : Nat} {v : V} {d : PyData}, Tg K p H B n v d → Tg K p H' B n v d := by
  intro n v d h
  induction h with
  | non n => exact .non n
  | bl n b => exact .bl n b
  | int n i h => exact .int n i h
  | str n x w l c => exact .str n x w l c
  | lst h1 h2 h3 _ ih => exact .lst (F _ _ (fun z => h2 (z ▸ hq)) h1) h2 h3 ih
  | tup h1 h2 _ ih => exact .tup (sqT_fr h1 b F) h2 ih
theorem Tg.up {K : PySem.W.Frag} {p : Addr → Prop} {B B' : Nat} {H : Hp} (hB : B ≤ B') : ∀ {n : Nat} {v : V} {d : PyData}, Tg K p H B n v d → ∀ {m : Nat}, n ≤ m → Tg K p H B' m v d := by
  intro n v d h
  induction h with
  | non n => exact fun _ => .non _
  | bl n b => exact fun _ => .bl _ b
  | int n i h => exact fun _ => .int _ i (Nat.le_trans h hB)
  | str n x w l c => exact fun _ => .str _ x w l c
  | lst h1 h2 h3 _ ih =>
    intro m le
    obtain ⟨k, rfl⟩ : ∃ k, m = k + 1 := ⟨m - 1, by omega⟩
    exact .lst h1 h2 h3 fun i x d a b => ih i x d a b (by omega)
  | tup h1 h2 _ ih =>
    intro m le
    obtain ⟨k, rfl⟩ : ∃ k, m = k + 1 := ⟨m - 1, by omega⟩
    exact .tup h1 h2 fun i x d a b => ih i x d a b (by omega)
theorem Tg.dp {K : PySem.W.Frag} {p : Addr → Prop} {B : Nat} {H : Hp} {n : Nat} {v : V} {d : PyData} (h : Tg K p H B n v d) : Dp K H v d := by
  induction h with
  | non n => exact .non
  | bl n b => exact .bl b
  | int n i h => exact .int i
  | str n x w l c => exact .str x
  | lst h1 h2 h3 _ ih => exact .lst (SqL.of h1) (dps_of h3 ih)
  | tup h1 h2 _ ih => exact .tup h1 (dps_of h2 ih)
/-- how much there is to a thing -/
theorem Tg.fine {K : PySem.W.Frag} {p : Addr → Prop} {B : Nat} {H : Hp} (b12 : B < 10 ^ 12) {n : Nat} {v : V} {d : PyData} (h : Tg K p H B n v d) : ∃ w, Fine n w d := by
  have many : ∀ {n : Nat} {xs : List V} {ds : List PyData}, xs.length = ds.length → (∀ (i : Nat) (x : V) (d : PyData), xs[i]? = some x → ds[i]? = some d → ∃ w, Fine n w d) → ∃ w, FineAll n w ds := fun {n} => by
    intro xs
    induction xs with
    | nil =>
      intro ds l _
      cases ds with
      | nil => exact ⟨0, FineAll.nil n⟩
      | cons d ds => cases l
    | cons x xs ih =>
      intro ds l at_
      cases ds with
      | nil => cases l
      | cons d ds =>
        obtain ⟨w1, f1⟩ := at_ 0 x d rfl rfl
        obtain ⟨w2, f2⟩ := ih (by rw [List.length_cons, List.length_cons] at l; omega) fun i x d e1 e2 => at_ (i + 1) x d e1 e2
        exact ⟨_, FineAll.cons f1 f2⟩
  induction h with
  | non n => exact ⟨0, Fine.non n⟩
  | bl n b => exact ⟨0, ⟨rfl, Nat.zero_le _, Nat.le_refl _, rfl, rfl, rfl⟩⟩
  | int n i h =>
    have z : i.natAbs < 10 ^ 12 := by omega
    have e : (10 : Nat) ^ 12 < 2 ^ 40 := by decide
    refine ⟨PyData.weight (.int i), ⟨rfl, Nat.zero_le _, Nat.le_refl _, decide_eq_true (PyData.shown_int_le z), decide_eq_true ?_, rfl⟩⟩
    by_cases c : i.natAbs = 0
    · rw [c]
      decide
    · have := (Nat.log2_lt c).mpr (Nat.lt_trans z e)
      omega
  | str n x w l c => exact ⟨10, Fine.str n l c⟩
  | lst h1 h2 h3 _ ih =>
    obtain ⟨w, f⟩ := many h3 ih
    exact ⟨w, FineAll.lst f⟩
  | tup h1 h2 _ ih =>
    obtain ⟨w, f⟩ := many h2 ih
    exact ⟨w, FineAll.tup f⟩
/-- rows of things -/
def TgAll (K : PySem.W.Frag) (p : Addr → Prop) (H : Hp) (B n : Nat) (xs : List V) (ds : List PyData) : Prop := xs.length = ds.length ∧ ∀ (i : Nat) (x : V) (d : PyData), xs[i]? = some x → ds[i]? = some d → Tg K p H B n x d
theorem TgAll.nil {K : PySem.W.Frag} {p : Addr → Prop} {H : Hp} {B n : Nat} : TgAll K p H B n [] [] := ⟨rfl, fun i x d h => by simp at h⟩
theorem TgAll.cons {K : PySem.W.Frag} {p : Addr → Prop} {H : Hp} {B n : Nat} {x : V} {d : PyData} {xs : List V} {ds : List PyData} (h : Tg K p H B n x d) (t : TgAll K p H B n xs ds) : TgAll K p H B n (x :: xs) (d :: ds) :=
  ⟨by rw [List.length_cons, List.length_cons, t.1], fun i u v hu hv => match i, hu, hv with
    | 0, hu, hv => by cases hu; cases hv; exact h
    | i + 1, hu, hv => t.2 i u v hu hv⟩
theorem TgAll.tail {K : PySem.W.Frag} {p : Addr → Prop} {H : Hp} {B n : Nat} {x : V} {d : PyData} {xs : List V} {ds : List PyData} (t : TgAll K p H B n (x :: xs) (d :: ds)) : Tg K p H B n x d ∧ TgAll K p H B n xs ds :=
  ⟨t.2 0 x d rfl rfl, by have := t.1; rw [List.length_cons, List.length_cons] at this; omega, fun i u v hu hv => t.2 (i + 1) u v hu hv⟩
theorem TgAll.app {K : PySem.W.Frag} {p : Addr → Prop} {H : Hp} {B n : Nat} : ∀ {xs : List V} {ds : List PyData} {ys : List V} {es : List PyData}, TgAll K p H B n xs ds → TgAll K p H B n ys es → TgAll K p H B n (xs ++ ys) (ds ++ es)
  | [], [], _, _, _, h => h
  | [], _ :: _, _, _, h, _ => by have := h.1; cases this
  | _ :: _, [], _, _, h, _ => by have := h.1; cases this
  | _ :: _, _ :: _, _, _, h, h' => .cons h.tail.1 (TgAll.app h.tail.2 h')
theorem TgAll.take {K : PySem.W.Frag} {p : Addr → Prop} {H : Hp} {B n : Nat} {xs : List V} {ds : List PyData} (h : TgAll K p H B n xs ds) (k : Nat) : TgAll K p H B n (xs.take k) (ds.take k) :=
  ⟨by rw [List.length_take, List.length_take, h.1], fun i x d e1 e2 => by
    rw [List.getElem?_take] at e1 e2
    split at e1
    · rename_i c
      rw [if_pos c] at e2
      exact h.2 i x d e1 e2
    · cases e1⟩
theorem TgAll.drop {K : PySem.W.Frag} {p : Addr → Prop} {H : Hp} {B n : Nat} {xs : List V} {ds : List PyData} (h : TgAll K p H B n xs ds) (k : Nat) : TgAll K p H B n (xs.drop k) (ds.drop k) :=
  ⟨by rw [List.length_drop, List.length_drop, h.1], fun i x d e1 e2 => by
    rw [List.getElem?_drop] at e1 e2
    exact h.2 _ x d e1 e2⟩
theorem TgAll.rev {K : PySem.W.Frag} {p : Addr → Prop} {H : Hp} {B n : Nat} : ∀ {xs : List V} {ds : List PyData}, TgAll K p H B n xs ds → TgAll K p H B n xs.reverse ds.reverse
  | [], [], _ => .nil
  | [], _ :: _, h => by have := h.1; cases this
  | _ :: _, [], h => by have := h.1; cases this
  | _ :: _, _ :: _, h => by
    rw [List.reverse_cons, List.reverse_cons]
    exact TgAll.app (TgAll.rev h.tail.2) (.cons h.tail.1 .nil)
theorem TgAll.same {K : PySem.W.Frag} {p : Addr → Prop} {H H' : Hp} {B n : Nat} {xs : List V} {ds : List PyData} (h : TgAll K p H B n xs ds) (s : Same H H') : TgAll K p H' B n xs ds := ⟨h.1, fun i x d e1 e2 => (h.2 i x d e1 e2).same s⟩
theorem TgAll.fr {K : PySem.W.Frag} {p : Addr → Prop} {H H' : Hp} {B n m : Nat} {xs : List V} {ds : List PyData} {q : Addr} (hq : p q) (h : TgAll K p H B n xs ds) (b : BoxAt H q m) (F : Fr q H H') : TgAll K p H' B n xs ds := ⟨h.1, fun i x d e1 e2 => (h.2 i x d e1 e2).fr hq b F⟩
theorem TgAll.up {K : PySem.W.Frag} {p : Addr → Prop} {H : Hp} {B B' n m : Nat} {xs : List V} {ds : List PyData} (h : TgAll K p H B n xs ds) (hB : B ≤ B') (le : n ≤ m) : TgAll K p H B' m xs ds := ⟨h.1, fun i x d e1 e2 => (h.2 i x d e1 e2).up hB le⟩
/-- numbers and truths as numbers -/
def numOf : V → Option Int
  | .int i => some i
  | .bl b => some (if b = true then 1 else 0)
  | _ => none
def rNb (f : Int → Int → Int) : R2 := fun x y H Q => ∃ i j, numOf x = some i ∧ y = .int j ∧ Q (.int (f i j)) H
theorem op_addNb {X : Cx} : OpR X (binaryOp .Add) (rNb fun i j => i + j) := by
  intro pins s σ H x y v u Q I rx ry ⟨i, j, e, e2, q⟩
  cases x <;> try (cases e; done)
  case bl b =>
    cases e
    subst e2
    obtain ⟨t, rfl⟩ := ry
    cases rx
    exact PySem.IntBool.add_bool_int ⟨.int _, H, I.tok _, ⟨_, rfl⟩, q⟩
  case int i => cases e; exact op_add pins s σ H _ y v u Q I rx ry ⟨_, j, rfl, e2, q⟩
theorem op_subNb {X : Cx} : OpR X (binaryOp .Sub) (rNb fun i j => i - j) := by
  intro pins s σ H x y v u Q I rx ry ⟨i, j, e, e2, q⟩
  cases x <;> try (cases e; done)
  case bl b =>
    cases e
    subst e2
    obtain ⟨t, rfl⟩ := ry
    cases rx
    exact PySem.IntBool.sub_bool_int ⟨.int _, H, I.tok _, ⟨_, rfl⟩, q⟩
  case int i => cases e; exact op_sub pins s σ H _ y v u Q I rx ry ⟨_, j, rfl, e2, q⟩
/-- how a thing looks: a leaf, or a row -/
theorem Tg.look {K : PySem.W.Frag} {p : Addr → Prop} {q : Addr} (hq : p q) {B : Nat} {H : Hp} {n : Nat} {v : V} {d : PyData} (hB : 1 ≤ B) (h : Tg K p H B n v d) :
    (∃ (t : String) (bi : Bool), (∀ H2, TyX K H2 v (.type t)) ∧ kitB t "list" = some false ∧ kitB t "tuple" = some false ∧ kitB t "int" = some bi ∧ (bi = true → (∃ i, numOf v = some i ∧ i.natAbs ≤ B) ∧ SeqAt.shaped d = true)) ∨
    (∃ (t : String) (bl bt : Bool) (a : Addr) (xs : List V) (ds : List PyData) (m : Nat), v = .ref a ∧ n = m + 1 ∧ (∀ (H' : Hp) (mm : Nat), BoxAt H q mm → Fr q H H' → TyX K H' v (.type t)) ∧ kitB t "list" = some bl ∧ kitB t "tuple" = some bt ∧ (bl = false → bt = true) ∧ (SqL K H a xs ∨ SqT K H a xs) ∧ TgAll K p H B m xs ds ∧ PyData.weight d = PyData.weightAll ds) := by
  cases h with
  | non n => exact .inl ⟨"NoneType", false, fun _ => .base .non, by decide +kernel, by decide +kernel, by decide +kernel, fun z => nomatch z⟩
  | bl n b => exact .inl ⟨"bool", true, fun _ => .base (.bl b), by decide +kernel, by decide +kernel, by decide +kernel, fun _ => ⟨⟨_, rfl, by cases b <;> simp <;> omega⟩, rfl⟩⟩
  | int n i h => exact .inl ⟨"int", true, fun _ => .base (.int i), by decide +kernel, by decide +kernel, by decide +kernel, fun _ => ⟨⟨_, rfl, h⟩, rfl⟩⟩
  | str n x w l c => exact .inl ⟨"str", false, fun _ => .base (.str x), by decide +kernel, by decide +kernel, by decide +kernel, fun z => nomatch z⟩
  | lst h1 h2 h3 h4 => exact .inr ⟨"list", true, false, _, _, _, _, rfl, rfl, fun H' mm b F => .base (.lst (F _ _ (fun z => h2 (z ▸ hq)) h1)), by decide +kernel, by decide +kernel, (fun z => nomatch z), .inl (SqL.of h1), ⟨h3, h4⟩, rfl⟩
  | tup h1 h2 h3 => exact .inr ⟨"tuple", false, true, _, _, _, _, rfl, rfl, fun H' mm b F => sqT_ty (sqT_fr h1 b F), by decide +kernel, by decide +kernel, fun _ => rfl, .inr h1, ⟨h2, h3⟩, rfl⟩
theorem wt_int {i : Int} (h : i.natAbs < 2 ^ 21) : PyData.weight (.int i) ≤ 21 := by
  show (if i == 0 then 0 else i.natAbs.log2 + 1) ≤ 21
  by_cases c : i = 0
  · rw [c]
    decide
  · rw [if_neg (by simpa using c)]
    have := (Nat.log2_lt (show i.natAbs ≠ 0 by omega)).mpr h
    omega
theorem TgAll.at_ {K : PySem.W.Frag} {p : Addr → Prop} {H : Hp} {B n : Nat} {xs : List V} {ds : List PyData} (h : TgAll K p H B n xs ds) {i : Nat} (lt : i < xs.length) : ∃ x d, xs[i]? = some x ∧ ds[i]? = some d ∧ Tg K p H B n x d := by
  have l2 : i < ds.length := by rw [← h.1]; exact lt
  exact ⟨xs[i], ds[i], List.getElem?_eq_getElem lt, List.getElem?_eq_getElem l2, h.2 i _ _ (List.getElem?_eq_getElem lt) (List.getElem?_eq_getElem l2)⟩
theorem wa_app : ∀ (a b : List PyData), PyData.weightAll (a ++ b) = PyData.weightAll a + PyData.weightAll b
  | [], b => by rw [List.nil_append]; show _ = 0 + _; omega
  | x :: a, b => by
    show PyData.weight x + 1 + PyData.weightAll (a ++ b) = (PyData.weight x + 1 + PyData.weightAll a) + _
    rw [wa_app a b]
    omega
theorem wa_cut (a : List PyData) (k : Nat) : PyData.weightAll (a.take k) + PyData.weightAll (a.drop k) = PyData.weightAll a := by
  rw [← wa_app, List.take_append_drop]
theorem wa_rev : ∀ (a : List PyData), PyData.weightAll a.reverse = PyData.weightAll a
  | [] => rfl
  | x :: a => by
    rw [List.reverse_cons, wa_app, wa_rev a]
    show _ + (PyData.weight x + 1 + 0) = PyData.weight x + 1 + _
    omega
theorem wa_at {a : List PyData} {k : Nat} {d : PyData} (h : a[k]? = some d) : PyData.weightAll (a.take k) + (PyData.weight d + 1) + PyData.weightAll (a.drop (k + 1)) = PyData.weightAll a := by
  obtain ⟨lt, e⟩ := List.getElem?_eq_some_iff.mp h
  have h1 := wa_cut a k
  rw [List.drop_eq_getElem_cons lt, e] at h1
  have h2 : PyData.weightAll (d :: a.drop (k + 1)) = PyData.weight d + 1 + PyData.weightAll (a.drop (k + 1)) := rfl
  rw [h2] at h1
  omega
theorem TgAll.set {K : PySem.W.Frag} {p : Addr → Prop} {H : Hp} {B n : Nat} {xs : List V} {ds : List PyData} (h : TgAll K p H B n xs ds) {k : Nat} {x : V} {d : PyData} (hx : Tg K p H B n x d) : TgAll K p H B n (xs.set k x) (ds.set k d) := by
  refine ⟨by rw [List.length_set, List.length_set]; exact h.1, fun i y e e1 e2 => ?_⟩
  rw [List.getElem?_set] at e1 e2
  by_cases c : k = i
  · subst c
    rw [if_pos rfl] at e1 e2
    split at e1
    · cases e1
      split at e2
      · cases e2
        exact hx
      · cases e2
    · cases e1
  · rw [if_neg c] at e1 e2
    exact h.2 i y e e1 e2
theorem wa_set {a : List PyData} {k : Nat} {d e : PyData} (h : a[k]? = some d) : PyData.weightAll (a.set k e) + PyData.weight d = PyData.weightAll a + PyData.weight e := by
  obtain ⟨lt, _⟩ := List.getElem?_eq_some_iff.mp h
  have h1 := wa_at h
  rw [List.set_eq_take_append_cons_drop, if_pos lt, wa_app]
  have h2 : PyData.weightAll (e :: a.drop (k + 1)) = PyData.weight e + 1 + PyData.weightAll (a.drop (k + 1)) := rfl
  rw [h2]
  omega
/-- a row of things whose list is written anew -/
theorem TgAll.put {K : PySem.W.Frag} {p : Addr → Prop} {H0 H : Hp} {B n : Nat} {xs ys : List V} {ds : List PyData} {r : Addr} (h : TgAll K p H0 B n xs ds) (s : Same H0 H) (nr : H0 r = none) : TgAll K p (upd H r (.lst ys)) B n xs ds := h.same (Same.put s nr)
/-- a part of a row of things -/
theorem TgAll.cut {K : PySem.W.Frag} {p : Addr → Prop} {H : Hp} {B n : Nat} {xs : List V} {ds : List PyData} (h : TgAll K p H B n xs ds) (lo hi : Option Int) : ∃ es, TgAll K p H B n (cutV xs lo hi) es ∧ PyData.weightAll es ≤ PyData.weightAll ds := by
  unfold cutV
  refine ⟨_, (h.drop _).take _, ?_⟩
  have h1 := wa_cut (ds.drop (HT.sIx xs.length 0 lo)) (HT.sIx xs.length xs.length hi - HT.sIx xs.length 0 lo)
  have h2 := wa_cut ds (HT.sIx xs.length 0 lo)
  omega
theorem wa_len : ∀ l : List PyData, l.length ≤ PyData.weightAll l
  | [] => Nat.le_refl _
  | y :: l => by
    have := wa_len l
    show l.length + 1 ≤ PyData.weight y + 1 + PyData.weightAll l
    omega
/-- things that avoid more -/
theorem Tg.avoid {K : PySem.W.Frag} {p : Addr → Prop} {r : Addr} {B : Nat} {H0 : Hp} (s : H0 r = none) : ∀ {n : Nat} {v : V} {d : PyData}, Tg K p H0 B n v d → Tg K (fun a => p a ∨ a = r) H0 B n v d := by
  intro n v d h
  induction h with
  | non n => exact .non n
  | bl n b => exact .bl n b
  | int n i h => exact .int n i h
  | str n x w l c => exact .str n x w l c
  | lst h1 h2 h3 _ ih => exact .lst h1 (fun z => z.elim h2 (ne_of_none h1 s)) h3 ih
  | tup h1 h2 _ ih => exact .tup h1 h2 ih
theorem Tg.less {K : PySem.W.Frag} {p p' : Addr → Prop} (le : ∀ a, p' a → p a) {B : Nat} {H : Hp} : ∀ {n : Nat} {v : V} {d : PyData}, Tg K p H B n v d → Tg K p' H B n v d := by
  intro n v d h
  induction h with
  | non n => exact .non n
  | bl n b => exact .bl n b
  | int n i h => exact .int n i h
  | str n x w l c => exact .str n x w l c
  | lst h1 h2 h3 _ ih => exact .lst h1 (fun z => h2 (le _ z)) h3 ih
  | tup h1 h2 _ ih => exact .tup h1 h2 ih
/-- a list that things avoid is written -/
theorem Tg.wr {K : PySem.W.Frag} {p : Addr → Prop} {r : Addr} (hr : p r) {B : Nat} {H : Hp} {xs ys : List V} (h0 : H r = some (.lst xs)) : ∀ {n : Nat} {v : V} {d : PyData}, Tg K p H B n v d → Tg K p (upd H r (.lst ys)) B n v d := by
  intro n v d h
  induction h with
  | non n => exact .non n
  | bl n b => exact .bl n b
  | int n i h => exact .int n i h
  | str n x w l c => exact .str n x w l c
  | lst h1 h2 h3 _ ih => exact .lst ((upd_ne (fun z => h2 (by rw [z]; exact hr))).trans h1) h2 h3 ih
  | tup h1 h2 _ ih => exact .tup (sqT_frL h1 h0 fr_upd) h2 ih
theorem TgAll.wr {K : PySem.W.Frag} {p : Addr → Prop} {r : Addr} (hr : p r) {B n : Nat} {H : Hp} {xs ys : List V} (h0 : H r = some (.lst xs)) {zs : List V} {ds : List PyData} (h : TgAll K p H B n zs ds) : TgAll K p (upd H r (.lst ys)) B n zs ds := ⟨h.1, fun i x d e1 e2 => (h.2 i x d e1 e2).wr hr h0⟩
theorem TgAll.less {K : PySem.W.Frag} {p p' : Addr → Prop} (le : ∀ a, p' a → p a) {B n : Nat} {H : Hp} {zs : List V} {ds : List PyData} (h : TgAll K p H B n zs ds) : TgAll K p' H B n zs ds := ⟨h.1, fun i x d e1 e2 => (h.2 i x d e1 e2).less le⟩
end KR
/-! ### what a thing of any make is -/
namespace KR
open PySem PySem.Spec PyProof.Rows L2
def isL : PyData → Bool
  | .list _ => true
  | _ => false
def isT : PyData → Bool
  | .tuple _ => true
  | _ => false
def isS : PyData → Bool
  | .str _ => true
  | _ => false
def isI : PyData → Bool
  | .int _ => true
  | _ => false
def isBo : PyData → Bool
  | .bool _ => true
  | _ => false
theorem Tg.ty {K : PySem.W.Frag} {p : Addr → Prop} {H : Hp} {B n : Nat} {v : V} {d : PyData} (h : Tg K p H B n v d) : ∃ t : String, TyX K H v (.type t) ∧ kitB t "list" = some (isL d) ∧ kitB t "tuple" = some (isT d) ∧ kitB t "int" = some (isI d || isBo d) ∧ kitB t "bool" = some (isBo d) ∧ kitB t "str" = some (isS d) := by
  cases h with
  | non n => exact ⟨"NoneType", .base .non, by show kitB "NoneType" "list" = some false; decide +kernel, by show kitB "NoneType" "tuple" = some false; decide +kernel, by show kitB "NoneType" "int" = some false; decide +kernel, by show kitB "NoneType" "bool" = some false; decide +kernel, by show kitB "NoneType" "str" = some false; decide +kernel⟩
  | bl n b => exact ⟨"bool", .base (.bl b), by show kitB "bool" "list" = some false; decide +kernel, by show kitB "bool" "tuple" = some false; decide +kernel, by show kitB "bool" "int" = some true; decide +kernel, by show kitB "bool" "bool" = some true; decide +kernel, by show kitB "bool" "str" = some false; decide +kernel⟩
  | int n i h => exact ⟨"int", .base (.int i), by show kitB "int" "list" = some false; decide +kernel, by show kitB "int" "tuple" = some false; decide +kernel, by show kitB "int" "int" = some true; decide +kernel, by show kitB "int" "bool" = some false; decide +kernel, by show kitB "int" "str" = some false; decide +kernel⟩
  | str n x w l c => exact ⟨"str", .base (.str x), by show kitB "str" "list" = some false; decide +kernel, by show kitB "str" "tuple" = some false; decide +kernel, by show kitB "str" "int" = some false; decide +kernel, by show kitB "str" "bool" = some false; decide +kernel, by show kitB "str" "str" = some true; decide +kernel⟩
  | lst h1 h2 h3 h4 => exact ⟨"list", .base (.lst h1), by show kitB "list" "list" = some true; decide +kernel, by show kitB "list" "tuple" = some false; decide +kernel, by show kitB "list" "int" = some false; decide +kernel, by show kitB "list" "bool" = some false; decide +kernel, by show kitB "list" "str" = some false; decide +kernel⟩
  | tup h1 h2 h3 => exact ⟨"tuple", sqT_ty h1, by show kitB "tuple" "list" = some false; decide +kernel, by show kitB "tuple" "tuple" = some true; decide +kernel, by show kitB "tuple" "int" = some false; decide +kernel, by show kitB "tuple" "bool" = some false; decide +kernel, by show kitB "tuple" "str" = some false; decide +kernel⟩
theorem Tg.tupI {K : PySem.W.Frag} {p : Addr → Prop} {H : Hp} {B n : Nat} {v : V} {d : PyData} (h : Tg K p H B n v d) (e : isT d = true) : ∃ (a : Addr) (xs : List V) (ds : List PyData) (m : Nat), v = .ref a ∧ d = .tuple ds ∧ n = m + 1 ∧ SqT K H a xs ∧ TgAll K p H B m xs ds := by
  cases h <;> try (cases e; done)
  case tup h1 h2 h3 => exact ⟨_, _, _, _, rfl, rfl, rfl, h1, h2, h3⟩
theorem Tg.lstI {K : PySem.W.Frag} {p : Addr → Prop} {H : Hp} {B n : Nat} {v : V} {d : PyData} (h : Tg K p H B n v d) (e : isL d = true) : ∃ (a : Addr) (xs : List V) (ds : List PyData) (m : Nat), v = .ref a ∧ d = .list ds ∧ n = m + 1 ∧ H a = some (.lst xs) ∧ TgAll K p H B m xs ds := by
  cases h <;> try (cases e; done)
  case lst h1 h2 h3 h4 => exact ⟨_, _, _, _, rfl, rfl, rfl, h1, h3, h4⟩
theorem Tg.intI {K : PySem.W.Frag} {p : Addr → Prop} {H : Hp} {B n : Nat} {v : V} {d : PyData} (h : Tg K p H B n v d) (e : isI d = true) : ∃ i : Int, v = .int i ∧ d = .int i ∧ i.natAbs ≤ B := by
  cases h <;> try (cases e; done)
  case int i h => exact ⟨i, rfl, rfl, h⟩
theorem Tg.strI {K : PySem.W.Frag} {p : Addr → Prop} {H : Hp} {B n : Nat} {v : V} {d : PyData} (h : Tg K p H B n v d) (e : isS d = true) : ∃ x : Str, v = .str x ∧ d = .str x := by
  cases h <;> try (cases e; done)
  case str x _ l c => exact ⟨x, rfl, rfl⟩
theorem boI {d : PyData} (h : isBo d = true) : isI d = false := by
  cases d <;> first | rfl | exact nomatch h
theorem TgAll.l {K : PySem.W.Frag} {p : Addr → Prop} {H : Hp} {B n : Nat} {a : Addr} {xs : List V} {ds : List PyData} (t : TgAll K p H B n xs ds) (h : H a = some (.lst xs)) (na : ¬ p a) : Tg K p H B (n + 1) (.ref a) (.list ds) := .lst h na t.1 t.2
theorem TgAll.t {K : PySem.W.Frag} {p : Addr → Prop} {H : Hp} {B n : Nat} {a : Addr} {xs : List V} {ds : List PyData} (t : TgAll K p H B n xs ds) (h : SqT K H a xs) : Tg K p H B (n + 1) (.ref a) (.tuple ds) := .tup h t.1 t.2
theorem Tg.show_ {K : PySem.W.Frag} {p : Addr → Prop} {H : Hp} {B n w : Nat} (b12 : B < 10 ^ 12) {v : V} {d : PyData} (h : Tg K p H B n v d) (le : PyData.weight d ≤ w) : Fine n w d := by
  obtain ⟨w', f⟩ := h.fine b12
  exact ⟨f.lay, f.dep, le, f.ish, f.sh, f.nd⟩
end KR
/-! ### whether a thing is a day -/
namespace KR
open PySem PySem.Spec PyProof.Rows L2
theorem Tg.sm {K : PySem.W.Frag} {p : Addr → Prop} {B : Nat} {H H' : Hp} (s : Sm H H') : ∀ {n : Nat} {v : V} {d : PyData}, Tg K p H B n v d → Tg K p H' B n v d := by
  intro n v d h
  induction h with
  | non n => exact .non n
  | bl n b => exact .bl n b
  | int n i h => exact .int n i h
  | str n x w l c => exact .str n x w l c
  | lst h1 h2 h3 _ ih => exact .lst (s.lst h1) h2 h3 ih
  | tup h1 h2 _ ih => exact .tup (s.tup h1) h2 ih
theorem TgAll.sm {K : PySem.W.Frag} {p : Addr → Prop} {B n : Nat} {H H' : Hp} {xs : List V} {ds : List PyData} (h : TgAll K p H B n xs ds) (s : Sm H H') : TgAll K p H' B n xs ds := ⟨h.1, fun i x d e1 e2 => (h.2 i x d e1 e2).sm s⟩
def numIn (lo hi : Int) : PyData → Bool
  | .int i => decide (lo ≤ i) && decide (i ≤ hi)
  | _ => false
def ladB (h : Int) : PyData → Bool
  | .list xs => decide ((xs.length : Int) = h) && xs.all (numIn 0 1000000)
  | _ => false
def potB (h : Int) : PyData → Bool
  | .tuple [r, t] => numIn 1 1000000 r && ladB h t
  | _ => false
def isDayD : PyData → Bool
  | .tuple [.list cs, .list ks, s] => (decide (1 ≤ cs.length) && decide (cs.length ≤ 48)) && (decide (1 ≤ ks.length) && decide (ks.length ≤ 8)) && (ladB (cs.length : Int) (.list cs) && ladB (cs.length : Int) s) && ks.all (potB (cs.length : Int))
  | _ => false
theorem numIn_no {lo hi : Int} {d : PyData} (h : isI d = false) : numIn lo hi d = false := by
  cases d <;> first | rfl | exact nomatch h
theorem ladB_no {h : Int} {d : PyData} (n : isL d = false) : ladB h d = false := by
  cases d <;> first | rfl | exact nomatch n
theorem potB_no {h : Int} {d : PyData} (n : isT d = false) : potB h d = false := by
  cases d <;> first | rfl | exact nomatch n
theorem potB_len {h : Int} {ds : List PyData} (n : ds.length ≠ 2) : potB h (.tuple ds) = false := by
  match ds, n with
  | [], _ => rfl
  | [_], _ => rfl
  | [_, _], n => exact absurd rfl n
  | _ :: _ :: _ :: _, _ => rfl
theorem isDayD_no {d : PyData} (n : isT d = false) : isDayD d = false := by
  cases d <;> first | rfl | exact nomatch n
theorem isDayD_len {ds : List PyData} (n : ds.length ≠ 3) : isDayD (.tuple ds) = false := by
  match ds, n with
  | [], _ => rfl
  | [a], _ => cases a <;> rfl
  | [a, b], _ => cases a <;> first | rfl | (cases b <;> rfl)
  | [_, _, _], n => exact absurd rfl n
  | a :: b :: c :: e :: r, _ => cases a <;> first | rfl | (cases b <;> first | rfl | (cases c <;> rfl))
theorem isDayD_c {a b c : PyData} (n : isL a = false ∨ isL b = false) : isDayD (.tuple [a, b, c]) = false := by
  rcases n with n | n
  · cases a <;> first | rfl | exact nomatch n
  · cases a <;> first | rfl | (cases b <;> first | rfl | exact nomatch n)
theorem all_at {α : Type} {f : α → Bool} {l : List α} {i : Nat} {x : α} (h : l[i]? = some x) (n : f x = false) : l.all f = false := by
  rw [List.all_eq_false]
  exact ⟨x, List.mem_of_getElem? h, by rw [n]; exact Bool.false_ne_true⟩
theorem all_up {α : Type} {f : α → Bool} {l : List α} {i : Nat} {x : α} (t : (l.take i).all f = true) (h : l[i]? = some x) (y : f x = true) : (l.take (i + 1)).all f = true := by
  rw [take_one h, List.all_append, t]
  show (true && (f x && true)) = true
  rw [y] <;> rfl
theorem two {K : PySem.W.Frag} {Av : Addr → Prop} {H : Hp} {B n : Nat} {xs : List V} {ds : List PyData} (t : TgAll K Av H B n xs ds) (l : xs.length = 2) : ∃ x1 x2 d1 d2, xs = [x1, x2] ∧ ds = [d1, d2] ∧ Tg K Av H B n x1 d1 ∧ Tg K Av H B n x2 d2 := by
  match xs, ds, t, l with
  | [a, b], [d, e], t, _ => exact ⟨a, b, d, e, rfl, rfl, t.tail.1, t.tail.2.tail.1⟩
  | [a, b], [], t, _ => exact nomatch t.1
  | [a, b], [d], t, _ => exact nomatch t.1
  | [a, b], d :: e :: f :: r, t, _ => exact nomatch t.1
theorem threeT {K : PySem.W.Frag} {Av : Addr → Prop} {H : Hp} {B n : Nat} {xs : List V} {ds : List PyData} (t : TgAll K Av H B n xs ds) (l : xs.length = 3) : ∃ x1 x2 x3 d1 d2 d3, xs = [x1, x2, x3] ∧ ds = [d1, d2, d3] ∧ Tg K Av H B n x1 d1 ∧ Tg K Av H B n x2 d2 ∧ Tg K Av H B n x3 d3 := by
  match xs, ds, t, l with
  | [a, b, c], [d, e, f], t, _ => exact ⟨a, b, c, d, e, f, rfl, rfl, t.tail.1, t.tail.2.tail.1, t.tail.2.tail.2.tail.1⟩
  | [a, b, c], [], t, _ => exact nomatch t.1
  | [a, b, c], [d], t, _ => exact nomatch t.1
  | [a, b, c], [d, e], t, _ => exact nomatch t.1
  | [a, b, c], d :: e :: f :: g :: r, t, _ => exact nomatch t.1
/-- days as things -/
def potE (k : Int × List Int) : PyData := .tuple [.int k.1, din k.2]
def dayE (D : Dy) : PyData := .tuple [din D.cs, .list (D.ks.map potE), din D.ss]
theorem ldl_tg {K : PySem.W.Frag} {Av : Addr → Prop} {H : Hp} {n : Nat} {ns : List Int} (L : Ldl ns) : TgAll K Av H 1000000 n (ns.map V.int) (ns.map PyData.int) := by
  refine ⟨by rw [List.length_map, List.length_map], fun i x d e1 e2 => ?_⟩
  rw [List.getElem?_map] at e1 e2
  obtain ⟨z, ez, rfl⟩ := Option.map_eq_some_iff.mp e1
  rw [ez] at e2
  cases e2
  have := L z (List.mem_of_getElem? ez)
  exact .int _ _ (by omega)
theorem ldlL_tg {K : PySem.W.Frag} {Av : Addr → Prop} {H : Hp} {n : Nat} {a : Addr} {ns : List Int} (L : Ldl ns) (h : H a = some (.lst (ns.map V.int))) (na : ¬ Av a) : Tg K Av H 1000000 (n + 1) (.ref a) (din ns) := (ldl_tg L).l h na
theorem pots_tg {K : PySem.W.Frag} {H : Hp} {p f : Addr} {as : List Addr} {ks : List (Int × List Int)} (h : PotsF K H p f as ks) (ok : ∀ k ∈ ks, 1 ≤ k.1 ∧ k.1 ≤ 1000000 ∧ Ldl k.2) : TgAll K (fun a => a = p) H 1000000 2 (as.map V.ref) (ks.map potE) := by
  refine ⟨by rw [List.length_map, List.length_map, Paired.length h], fun i x d e1 e2 => ?_⟩
  rw [List.getElem?_map] at e1 e2
  obtain ⟨a, ea, rfl⟩ := Option.map_eq_some_iff.mp e1
  obtain ⟨k, ek, rfl⟩ := Option.map_eq_some_iff.mp e2
  obtain ⟨k', ek', t, h1, h2, h3, _⟩ := h.get ea
  rw [ek] at ek'
  cases ek'
  obtain ⟨o1, o2, o3⟩ := ok k (List.mem_of_getElem? ek)
  exact (TgAll.cons (.int _ _ (by omega)) (.cons (ldlL_tg (n := 0) o3 h2 h3) .nil)).t h1
theorem nums_in {ns : List Int} (L : Ldl ns) : (ns.map PyData.int).all (numIn 0 1000000) = true := by
  rw [List.all_eq_true]
  intro d hd
  obtain ⟨z, hz, rfl⟩ := List.mem_map.mp hd
  have := L z hz
  show (decide (0 ≤ z) && decide (z ≤ 1000000)) = true
  rw [decide_eq_true this.1, decide_eq_true this.2] <;> rfl
theorem ladB_din {h : Int} {ns : List Int} (L : Ldl ns) (l : (ns.length : Int) = h) : ladB h (din ns) = true := by
  show (decide (((ns.map PyData.int).length : Int) = h) && (ns.map PyData.int).all (numIn 0 1000000)) = true
  rw [nums_in L, decide_eq_true (by rw [List.length_map]; exact l)] <;> rfl
theorem dayE_is {D : Dy} (O : DyOk D) (N : DyNn D) : isDayD (dayE D) = true := by
  have h1 := O.h1
  have h2 := O.h2
  have k1 := O.k1
  have k2 := O.k2
  have e : ((D.cs.map PyData.int).length : Int) = (D.cs.length : Int) := by rw [List.length_map]
  show ((decide (1 ≤ (D.cs.map PyData.int).length) && decide ((D.cs.map PyData.int).length ≤ 48)) && (decide (1 ≤ (D.ks.map potE).length) && decide ((D.ks.map potE).length ≤ 8)) && (ladB ((D.cs.map PyData.int).length : Int) (din D.cs) && ladB ((D.cs.map PyData.int).length : Int) (din D.ss)) && (D.ks.map potE).all (potB ((D.cs.map PyData.int).length : Int))) = true
  rw [e, ladB_din N.cs rfl, ladB_din N.ss (by rw [O.sl]), List.length_map, List.length_map, decide_eq_true h1, decide_eq_true h2, decide_eq_true k1, decide_eq_true k2]
  show (D.ks.map potE).all (potB (D.cs.length : Int)) = true
  rw [List.all_eq_true]
  intro d hd
  obtain ⟨k, hk, rfl⟩ := List.mem_map.mp hd
  obtain ⟨o1, o2, o3⟩ := N.ks k hk
  show ((decide (1 ≤ k.1) && decide (k.1 ≤ 1000000)) && ladB (D.cs.length : Int) (din k.2)) = true
  rw [ladB_din o3 (by rw [O.ts k hk]), decide_eq_true o1, decide_eq_true o2] <;> rfl
theorem wa_ldl : ∀ {ns : List Int}, Ldl ns → PyData.weightAll (ns.map PyData.int) ≤ 21 * ns.length
  | [], _ => Nat.zero_le _
  | z :: r, L => by
    have a := (Fine.ldl 0 (L z List.mem_cons_self).1 (L z List.mem_cons_self).2).wt
    have b := wa_ldl (ns := r) fun y hy => L y (List.mem_cons_of_mem _ hy)
    rw [List.map_cons, List.length_cons]
    show PyData.weight (.int z) + 1 + PyData.weightAll (r.map PyData.int) ≤ _
    omega
theorem wa_pots : ∀ {ks : List (Int × List Int)}, (∀ k ∈ ks, 1 ≤ k.1 ∧ k.1 ≤ 1000000 ∧ Ldl k.2) → (∀ k ∈ ks, k.2.length ≤ 48) → PyData.weightAll (ks.map potE) ≤ 1031 * ks.length
  | [], _, _ => Nat.zero_le _
  | k :: r, ok, l => by
    obtain ⟨o1, o2, o3⟩ := ok k List.mem_cons_self
    have a := (Fine.ldl 0 (i := k.1) (by omega) o2).wt
    have b := wa_pots (ks := r) (fun y hy => ok y (List.mem_cons_of_mem _ hy)) fun y hy => l y (List.mem_cons_of_mem _ hy)
    have c := wa_ldl o3
    have e := l k List.mem_cons_self
    rw [List.map_cons, List.length_cons]
    show (PyData.weight (.int k.1) + 1 + (PyData.weightAll (k.2.map PyData.int) + 1 + 0)) + 1 + PyData.weightAll (r.map potE) ≤ _
    omega
theorem dayE_wt {D : Dy} (O : DyOk D) (N : DyNn D) : PyData.weight (dayE D) ≤ 10300 := by
  have h2 := O.h2
  have k2 := O.k2
  have sl := O.sl
  have a := wa_ldl N.cs
  have b := wa_ldl N.ss
  have c := wa_pots N.ks fun k hk => by rw [O.ts k hk]; exact h2
  show PyData.weightAll (D.cs.map PyData.int) + 1 + (PyData.weightAll (D.ks.map potE) + 1 + (PyData.weightAll (D.ss.map PyData.int) + 1 + 0)) ≤ _
  omega
theorem sqT_fs {K : PySem.W.Frag} {H H' : Hp} {a p : Addr} {n : Nat} {xs : List V} (h : SqT K H a xs) (B : BoxAt H p n) (F : Fs p H H') : SqT K H' a xs := by
  obtain ⟨x, y, z, hb, _⟩ := B
  have ne : ∀ {o : HO}, H a = some o → (∀ l, o ≠ .lst l) → a ≠ p := fun {o} e n z => by
    rw [z, hb] at e
    exact n _ (Option.some.inj e).symm
  rcases h with (h | ⟨o, h⟩) | h
  · exact .inl (.inl (F.keep _ _ (ne h nofun) h nofun))
  · exact .inl (.inr ⟨o, F.keep _ _ (ne h nofun) h nofun⟩)
  · exact .inr h
theorem Tg.fs {K : PySem.W.Frag} {p : Addr → Prop} {q : Addr} (hq : p q) {B m : Nat} {H H' : Hp} (b : BoxAt H q m) (F : Fs q H H') : ∀ {n : Nat} {v : V} {d : PyData}, Tg K p H B n v d → Tg K p H' B n v d := by
  intro n v d h
  induction h with
  | non n => exact .non n
  | bl n b => exact .bl n b
  | int n i h => exact .int n i h
  | str n x w l c => exact .str n x w l c
  | lst h1 h2 h3 _ ih => exact .lst (F.keep _ _ (fun z => h2 (z ▸ hq)) h1 nofun) h2 h3 ih
  | tup h1 h2 _ ih => exact .tup (sqT_fs h1 b F) h2 ih
theorem sm_new_fs {H0 H1 H2 : Hp} {p : Addr} (s : Same H0 H1) (n : H0 p = none) (F : Fs p H1 H2) : Sm H0 H2 := by
  refine ⟨fun b o h no => F.keep b o (ne_of_none h n) (s _ _ h) no, fun b t => ?_⟩
  obtain ⟨q, e⟩ := tab_at t
  exact F.tab b (ne_of_none e n) ((Sm.of s).tab b t)
theorem rep_one (k : Nat) (v : V) : (List.replicate ((k : Int)).toNat [v]).flatten = List.replicate k v := by
  rw [Int.toNat_natCast]
  induction k with
  | zero => rfl
  | succ k ih =>
    rw [List.replicate_succ, List.replicate_succ, List.flatten_cons, ih] <;> rfl
theorem rep_tg {K : PySem.W.Frag} {p : Addr → Prop} {B n k : Nat} {H : Hp} {v : V} {d : PyData} (h : Tg K p H B n v d) : TgAll K p H B n (List.replicate k v) (List.replicate k d) := by
  refine ⟨by rw [List.length_replicate, List.length_replicate], fun i x e e1 e2 => ?_⟩
  have a := List.mem_of_getElem? e1
  have b := List.mem_of_getElem? e2
  rw [List.eq_of_mem_replicate a, List.eq_of_mem_replicate b]
  exact h
theorem day_tgL {K : PySem.W.Frag} {p : Addr → Prop} {H : Hp} {t1 g t2 d : Addr} {cs ss : List Int} {ks : List (Int × List Int)} {xs : List V} (L1 : Ldl cs) (L2 : Ldl ss) (h1 : H t1 = some (.lst (cs.map V.int))) (n1 : ¬ p t1) (hg : H g = some (.lst xs)) (ng : ¬ p g) (hk : TgAll K p H 1000000 2 xs (ks.map potE)) (h2 : H t2 = some (.lst (ss.map V.int))) (n2 : ¬ p t2)
    (hd : SqT K H d [.ref t1, .ref g, .ref t2]) : Tg K p H 1000000 4 (.ref d) (dayE ⟨cs, ks, ss⟩) :=
  (TgAll.cons ((ldlL_tg (n := 0) L1 h1 n1).up (Nat.le_refl _) (by decide)) (.cons (hk.l hg ng) (.cons ((ldlL_tg (n := 0) L2 h2 n2).up (Nat.le_refl _) (by decide)) .nil))).t hd
theorem pot_tg {K : PySem.W.Frag} {p : Addr → Prop} {H : Hp} {u t : Addr} {r : Int} {ns : List Int} (r0 : 1 ≤ r) (r1 : r ≤ 1000000) (L : Ldl ns) (ht : H t = some (.lst (ns.map V.int))) (nt : ¬ p t) (hu : SqT K H u [.int r, .ref t]) : Tg K p H 1000000 2 (.ref u) (potE (r, ns)) :=
  (TgAll.cons (.int _ _ (by omega)) (.cons (ldlL_tg (n := 0) L ht nt) .nil)).t hu
theorem ldl_rep {k : Nat} {z : Int} (h0 : 0 ≤ z) (h1 : z ≤ 1000000) : Ldl (List.replicate k z) := fun y hy => by
  rw [List.eq_of_mem_replicate hy]
  exact ⟨h0, h1⟩
theorem dayE_wt2 {D : Dy} (L1 : Ldl D.cs) (L2 : Ldl D.ss) (N : ∀ k ∈ D.ks, 1 ≤ k.1 ∧ k.1 ≤ 1000000 ∧ Ldl k.2) (h : ∀ k ∈ D.ks, k.2.length ≤ 49) : PyData.weight (dayE D) ≤ 21 * D.cs.length + 1052 * D.ks.length + 21 * D.ss.length + 3 := by
  have a := wa_ldl L1
  have b := wa_ldl L2
  have c : ∀ {ks : List (Int × List Int)}, (∀ k ∈ ks, 1 ≤ k.1 ∧ k.1 ≤ 1000000 ∧ Ldl k.2) → (∀ k ∈ ks, k.2.length ≤ 49) → PyData.weightAll (ks.map potE) ≤ 1052 * ks.length := fun {ks} => by
    induction ks with
    | nil => exact fun _ _ => Nat.zero_le _
    | cons k r ih =>
      intro ok l
      obtain ⟨o1, o2, o3⟩ := ok k List.mem_cons_self
      have a := (Fine.ldl 0 (i := k.1) (by omega) o2).wt
      have b := ih (fun y hy => ok y (List.mem_cons_of_mem _ hy)) fun y hy => l y (List.mem_cons_of_mem _ hy)
      have c := wa_ldl o3
      have e := l k List.mem_cons_self
      rw [List.map_cons, List.length_cons]
      show (PyData.weight (.int k.1) + 1 + (PyData.weightAll (k.2.map PyData.int) + 1 + 0)) + 1 + PyData.weightAll (r.map potE) ≤ _
      omega
  have c := c N h
  show PyData.weightAll (D.cs.map PyData.int) + 1 + (PyData.weightAll (D.ks.map potE) + 1 + (PyData.weightAll (D.ss.map PyData.int) + 1 + 0)) ≤ _
  omega
end KR
/-! ### any plan of a day: what each place takes, whether it can be done -/
namespace KR
open PySem PySem.Spec PyProof.Rows L2
/-- a thing that is made within an expression is not written any more -/
def tFrz (t : TE) : TE := fun σ H Q => t σ H fun x H1 => ∃ d u, x = .ref d ∧ H1 d = some u ∧ Mut (some u) ∧ ∀ od, Q (.ref d) (upd H1 d (.frz od u))
theorem pe_frz {X : Cx} {e : Expr} {t : TE} (h : PE X e t) : PE X e (tFrz t) := by
  refine ⟨fun pins s σ H Q I hw => ?_⟩
  refine thn (h.run pins s σ H _ I hw) fun v s1 ⟨x, H1, I1, r, d, u, e, hd, mu, q⟩ => ?_
  subst e
  obtain ⟨od, I2⟩ := I1.lock hd mu
  exact ⟨_, _, I2, r, q od⟩
def PX (f : Nat → List Int) (p t : Nat) : Int := (f p).getD t 0
def PS (f : Nat → List Int) (p t : Nat) : Int := ((f p).take t).sum
theorem PS_zero (f : Nat → List Int) (p : Nat) : PS f p 0 = 0 := by
  unfold PS
  rw [List.take_zero, List.sum_nil]
theorem PS_succ {f : Nat → List Int} {p t : Nat} (h : t < (f p).length) : PS f p (t + 1) = PS f p t + PX f p t := by
  unfold PS PX
  rw [take_one (List.getElem?_eq_getElem h), List.sum_append, List.getD_eq_getElem?_getD, List.getElem?_eq_getElem h, List.sum_cons, List.sum_nil]
  show _ + ((f p)[t] + 0) = _ + (f p)[t]
  omega
def PlAt (D : Dy) (f : Nat → List Int) (p t : Nat) : Prop := PS f p (t + 1) ≤ (if p = 0 then csum D (t + 1) else PS f (p - 1) t) ∧ PX f p t ≤ (if p = D.ks.length then D.ss.getD t 0 else (kt D p).2.getD t 0) ∧ (p < D.ks.length → PS f p (t + 1) ≤ PS f (p + 1) (t + 1) + (kt D p).1)
def valX (f : Nat → List Int) (b : Bd) : Int := match b.lead with
  | none => b.more
  | some (p, h) => PS f p.toNat (h + 1).toNat + b.more
theorem plAt_bnds {D : Dy} {f : Nat → List Int} {p t : Nat} (hp : p ≤ D.ks.length) (len : t < (f p).length) : PlAt D f p t ↔ ∀ b ∈ bnds D p (t + 1), PS f p (t + 1) ≤ valX f b := by
  have e1 : valX f (firstB D p t) = if p = 0 then csum D (t + 1) else PS f (p - 1) t := by
    unfold firstB
    by_cases c : p = 0
    · rw [if_pos c, if_pos c] <;> rfl
    · rw [if_neg c, if_neg c]
      show PS f ((p : Int) - 1).toNat ((t : Int) - 1 + 1).toNat + 0 = _
      rw [show ((t : Int) - 1 + 1).toNat = t by omega, show ((p : Int) - 1).toNat = p - 1 by omega, Int.add_zero]
  have e2 : ∀ m, valX f ⟨"takes", some ((p : Int), (t : Int) - 1), m⟩ = PS f p t + m := fun m => by
    show PS f ((p : Int)).toNat ((t : Int) - 1 + 1).toNat + m = _
    rw [show ((t : Int) - 1 + 1).toNat = t by omega, Int.toNat_natCast]
  have e3 : ∀ m, valX f ⟨"room", some ((p : Int) + 1, (t : Int)), m⟩ = PS f (p + 1) (t + 1) + m := fun m => by
    show PS f ((p : Int) + 1).toNat ((t : Int) + 1).toNat + m = _
    rw [show ((t : Int) + 1).toNat = t + 1 by omega, show ((p : Int) + 1).toNat = p + 1 by omega]
  have es := PS_succ len
  unfold PlAt
  by_cases c : p = D.ks.length
  · rw [show bnds D p (t + 1) = [firstB D p t, ⟨"takes", some ((p : Int), (t : Int) - 1), D.ss.getD t 0⟩] from if_pos c, if_pos c]
    constructor
    · intro ⟨h1, h2, _⟩ b hb
      rcases List.mem_cons.mp hb with z | z
      · rw [z, e1]; exact h1
      · rw [List.mem_singleton.mp z, e2]; omega
    · intro h
      have a := h _ List.mem_cons_self
      have b := h _ (List.mem_cons_of_mem _ List.mem_cons_self)
      rw [e1] at a
      rw [e2] at b
      exact ⟨a, by omega, fun z => absurd z (by omega)⟩
  · rw [show bnds D p (t + 1) = [firstB D p t, ⟨"takes", some ((p : Int), (t : Int) - 1), (kt D p).2.getD t 0⟩, ⟨"room", some ((p : Int) + 1, (t : Int)), (kt D p).1⟩] from if_neg c, if_neg c]
    constructor
    · intro ⟨h1, h2, h3⟩ b hb
      rcases List.mem_cons.mp hb with z | z
      · rw [z, e1]; exact h1
      · rcases List.mem_cons.mp z with z | z
        · rw [z, e2]; omega
        · rw [List.mem_singleton.mp z, e3]; exact h3 (by omega)
    · intro h
      have a := h _ List.mem_cons_self
      have b := h _ (List.mem_cons_of_mem _ List.mem_cons_self)
      have d := h _ (List.mem_cons_of_mem _ (List.mem_cons_of_mem _ List.mem_cons_self))
      rw [e1] at a
      rw [e2] at b
      rw [e3] at d
      exact ⟨a, by omega, fun _ => d⟩
def planX (Xs : List (List Int)) : PyData := .list (Xs.map din)
def rowF (Xs : List (List Int)) (p : Nat) : List Int := Xs.getD p []
theorem rowF_at {Xs : List (List Int)} {p : Nat} {xs : List Int} (h : Xs[p]? = some xs) : rowF Xs p = xs := by
  unfold rowF
  rw [List.getD_eq_getElem?_getD, h] <;> rfl
structure PlanOk (D : Dy) (Xs : List (List Int)) : Prop where
  len : Xs.length = D.ks.length + 1
  row : ∀ r ∈ Xs, r.length = D.cs.length ∧ ∀ z ∈ r, 0 ≤ z
theorem PlanOk.at_ {D : Dy} {Xs : List (List Int)} (h : PlanOk D Xs) {p : Nat} (hp : p ≤ D.ks.length) : ∃ xs, Xs[p]? = some xs ∧ rowF Xs p = xs ∧ xs.length = D.cs.length ∧ ∀ z ∈ xs, 0 ≤ z := by
  have lt : p < Xs.length := by rw [h.len]; omega
  have e := List.getElem?_eq_getElem lt
  have r := h.row _ (List.mem_of_getElem? e)
  exact ⟨_, e, rowF_at e, r.1, r.2⟩
theorem PlanOk.lenF {D : Dy} {Xs : List (List Int)} (h : PlanOk D Xs) {p : Nat} (hp : p ≤ D.ks.length) : (rowF Xs p).length = D.cs.length := by
  obtain ⟨xs, _, e, l, _⟩ := h.at_ hp
  rw [e, l]
def PlanDo (D : Dy) (Xs : List (List Int)) : Prop := ∀ p t, p ≤ D.ks.length → t < D.cs.length → PlAt D (rowF Xs) p t
def IsPlan (D : Dy) (e : PyData) : Prop := ∃ Xs, e = planX Xs ∧ PlanOk D Xs ∧ PlanDo D Xs
theorem din_inj {a b : List Int} (h : din a = din b) : a = b := by
  unfold din at h
  injection h with h
  exact (List.map_inj_right (fun x y e => by injection e)).mp h
theorem planX_inj {a b : List (List Int)} (h : planX a = planX b) : a = b := by
  unfold planX at h
  injection h with h
  exact (List.map_inj_right (fun x y e => din_inj e)).mp h
theorem isPlan_iff {D : Dy} {Xs : List (List Int)} (O : PlanOk D Xs) : IsPlan D (planX Xs) ↔ PlanDo D Xs :=
  ⟨fun ⟨Ys, e, _, d⟩ => by rw [planX_inj e]; exact d, fun d => ⟨Xs, rfl, O, d⟩⟩
theorem isPlan_ok {D : Dy} {Xs : List (List Int)} (h : IsPlan D (planX Xs)) : PlanOk D Xs := by
  obtain ⟨Ys, e, o, _⟩ := h
  rw [planX_inj e]
  exact o
/-- what a row of a plan is -/
def nnB : PyData → Bool
  | .int i => decide (0 ≤ i)
  | _ => false
def placeB (h : Int) : PyData → Bool
  | .list xs => decide ((xs.length : Int) = h) && xs.all nnB
  | _ => false
theorem nnB_no {d : PyData} (n : isI d = false) : nnB d = false := by
  cases d <;> first | rfl | exact nomatch n
theorem placeB_no {h : Int} {d : PyData} (n : isL d = false) : placeB h d = false := by
  cases d <;> first | rfl | exact nomatch n
theorem nums_of : ∀ {ds : List PyData}, ds.all nnB = true → ∃ xs : List Int, ds = xs.map PyData.int ∧ ∀ z ∈ xs, 0 ≤ z
  | [], _ => ⟨[], rfl, fun z hz => absurd hz List.not_mem_nil⟩
  | d :: ds, h => by
    rw [List.all_cons] at h
    obtain ⟨h1, h2⟩ := Bool.and_eq_true_iff.mp h
    obtain ⟨xs, e, nn⟩ := nums_of h2
    cases d <;> try (cases h1; done)
    case int i =>
      refine ⟨i :: xs, by rw [e] <;> rfl, fun z hz => ?_⟩
      rcases List.mem_cons.mp hz with q | q
      · rw [q]
        exact of_decide_eq_true h1
      · exact nn z q
theorem rows_of {h : Nat} : ∀ {ds : List PyData}, ds.all (placeB (h : Int)) = true → ∃ Xs : List (List Int), ds = Xs.map din ∧ ∀ r ∈ Xs, r.length = h ∧ ∀ z ∈ r, 0 ≤ z
  | [], _ => ⟨[], rfl, fun z hz => absurd hz List.not_mem_nil⟩
  | d :: ds, hh => by
    rw [List.all_cons] at hh
    obtain ⟨h1, h2⟩ := Bool.and_eq_true_iff.mp hh
    obtain ⟨Xs, e, ok⟩ := rows_of h2
    cases d <;> try (cases h1; done)
    case list es =>
      obtain ⟨g1, g2⟩ := Bool.and_eq_true_iff.mp (show (decide ((es.length : Int) = (h : Int)) && es.all nnB) = true from h1)
      obtain ⟨xs, ex, nn⟩ := nums_of g2
      have gl := of_decide_eq_true g1
      refine ⟨xs :: Xs, by rw [e, ex] <;> rfl, fun r hr => ?_⟩
      rcases List.mem_cons.mp hr with q | q
      · rw [q]
        refine ⟨?_, nn⟩
        rw [ex, List.length_map] at gl
        omega
      · exact ok r q
theorem place_row {h : Nat} {r : List Int} (l : r.length = h) (nn : ∀ z ∈ r, 0 ≤ z) : placeB (h : Int) (din r) = true := by
  show (decide (((r.map PyData.int).length : Int) = (h : Int)) && (r.map PyData.int).all nnB) = true
  rw [decide_eq_true (by rw [List.length_map, l])]
  show (r.map PyData.int).all nnB = true
  rw [List.all_eq_true]
  intro d hd
  obtain ⟨z, hz, rfl⟩ := List.mem_map.mp hd
  exact decide_eq_true (nn z hz)
theorem isPlan_rows {D : Dy} {ds : List PyData} (h : IsPlan D (.list ds)) : ds.length = D.ks.length + 1 ∧ ds.all (placeB (D.cs.length : Int)) = true := by
  obtain ⟨Xs, e, O, _⟩ := h
  have e' : ds = Xs.map din := by
    unfold planX at e
    injection e
  rw [e', List.length_map, O.len]
  refine ⟨rfl, ?_⟩
  rw [List.all_eq_true]
  intro d hd
  obtain ⟨r, hr, rfl⟩ := List.mem_map.mp hd
  exact place_row (O.row r hr).1 (O.row r hr).2
theorem isPlan_L {D : Dy} {e : PyData} (n : isL e = false) : ¬ IsPlan D e := fun ⟨Xs, z, _⟩ => by
  rw [z] at n
  exact nomatch n
/-- the rows of a plan as they lie -/
def RowsP (H : Hp) (Av : Addr → Prop) (rs : List Addr) (Xs : List (List Int)) : Prop := rs.length = Xs.length ∧ ∀ (j : Nat) (r : Addr) (xs : List Int), rs[j]? = some r → Xs[j]? = some xs → H r = some (.lst (xs.map V.int)) ∧ ¬ Av r
theorem nums_tg {K : PySem.W.Frag} {Av : Addr → Prop} {H : Hp} {B n : Nat} : ∀ {ys : List V} {xs : List Int}, TgAll K Av H B n ys (xs.map PyData.int) → ys = xs.map V.int
  | [], [], _ => rfl
  | [], _ :: _, h => nomatch h.1
  | _ :: _, [], h => nomatch h.1
  | y :: ys, x :: xs, h => by
    obtain ⟨i, e1, e2, _⟩ := h.tail.1.intI rfl
    injection e2 with e2
    rw [nums_tg h.tail.2, e1, ← e2] <;> rfl
theorem rows_tg {K : PySem.W.Frag} {Av : Addr → Prop} {H : Hp} {B n : Nat} : ∀ {ys : List V} {Xs : List (List Int)}, TgAll K Av H B n ys (Xs.map din) → ∃ rs : List Addr, ys = rs.map V.ref ∧ RowsP H Av rs Xs
  | [], [], _ => ⟨[], rfl, rfl, fun j r xs h => by simp at h⟩
  | [], _ :: _, h => nomatch h.1
  | _ :: _, [], h => nomatch h.1
  | y :: ys, X :: Xs, h => by
    obtain ⟨rs, e, l, at_⟩ := rows_tg h.tail.2
    have hd : Tg K Av H B n y (.list (X.map PyData.int)) := h.tail.1
    cases hd with
    | lst h1 h2 h3 h4 =>
      rename_i m a zs
      have ez := nums_tg (K := K) (Av := Av) (H := H) (B := B) (n := m) ⟨h3, h4⟩
      refine ⟨a :: rs, by rw [e] <;> rfl, by rw [List.length_cons, List.length_cons, l], fun j r xs e1 e2 => ?_⟩
      cases j with
      | zero =>
        cases e1
        cases e2
        exact ⟨by rw [← ez]; exact h1, h2⟩
      | succ j => exact at_ j r xs e1 e2
theorem plan_tg {K : PySem.W.Frag} {Av : Addr → Prop} {H : Hp} {B n : Nat} {v : V} {Xs : List (List Int)} (h : Tg K Av H B n v (planX Xs)) : ∃ (f : Addr) (rs : List Addr), v = .ref f ∧ H f = some (.lst (rs.map V.ref)) ∧ ¬ Av f ∧ RowsP H Av rs Xs := by
  have hd : Tg K Av H B n v (.list (Xs.map din)) := h
  cases hd with
  | lst h1 h2 h3 h4 =>
    rename_i m a zs
    obtain ⟨rs, e, R⟩ := rows_tg (K := K) (Av := Av) (H := H) (B := B) (n := m) ⟨h3, h4⟩
    exact ⟨a, rs, rfl, by rw [← e]; exact h1, h2, R⟩
/-- and the other way -/
theorem ints_tg {K : PySem.W.Frag} {Av : Addr → Prop} {H : Hp} {B n : Nat} {xs : List Int} (L : ∀ z ∈ xs, z.natAbs ≤ B) : TgAll K Av H B n (xs.map V.int) (xs.map PyData.int) := by
  refine ⟨by rw [List.length_map, List.length_map], fun i x d e1 e2 => ?_⟩
  rw [List.getElem?_map] at e1 e2
  obtain ⟨z, ez, rfl⟩ := Option.map_eq_some_iff.mp e1
  rw [ez] at e2
  cases e2
  exact .int _ _ (L z (List.mem_of_getElem? ez))
theorem tg_plan {K : PySem.W.Frag} {Av : Addr → Prop} {H : Hp} {B : Nat} {f : Addr} {rs : List Addr} {Xs : List (List Int)} (hf : H f = some (.lst (rs.map V.ref))) (nf : ¬ Av f) (R : RowsP H Av rs Xs) (L : ∀ xs ∈ Xs, ∀ z ∈ xs, z.natAbs ≤ B) : Tg K Av H B 2 (.ref f) (planX Xs) := by
  refine TgAll.l (n := 1) ⟨by rw [List.length_map, List.length_map, R.1], fun i x d e1 e2 => ?_⟩ hf nf
  rw [List.getElem?_map] at e1 e2
  obtain ⟨r, er, rfl⟩ := Option.map_eq_some_iff.mp e1
  obtain ⟨xs, ex, rfl⟩ := Option.map_eq_some_iff.mp e2
  obtain ⟨h1, h2⟩ := R.2 i r xs er ex
  exact (ints_tg (n := 0) (L xs (List.mem_of_getElem? ex))).l h1 h2
/-- what is told of what the places of a plan have taken -/
structure TakenX (f : Nat → List Int) (kvs : List (List Key × V)) (d : Nat → Nat → Prop) : Prop where
  all : ∀ kv ∈ kvs, ∃ p t, kv.1 = kk p t ∧ d p t ∧ kv.2 = .int (PS f p t)
  at_ : ∀ p t, d p t → valV kvs (kk p t) = some (.int (PS f p t))
theorem TakenX.put {f : Nat → List Int} {kvs : List (List Key × V)} {d d' : Nat → Nat → Prop} (h : TakenX f kvs d) (p t : Nat) (new : ¬ d p t) (hd : ∀ p' t', d' p' t' ↔ d p' t' ∨ (p' = p ∧ t' = t)) : TakenX f (putK kvs (kk p t) (.int (PS f p t))) d' := by
  have nv : valV kvs (kk p t) = none := by
    cases e : valV kvs (kk p t) with
    | none => rfl
    | some v =>
      unfold valV at e
      obtain ⟨kv, e1, e2⟩ := Option.map_eq_some_iff.mp e
      have m := List.mem_of_find?_eq_some e1
      have k : kv.1 = kk p t := by simpa using List.find?_some e1
      obtain ⟨p', t', k', hd', _⟩ := h.all kv m
      rw [k] at k'
      obtain ⟨rfl, rfl⟩ := kk_inj k'
      exact absurd hd' new
  refine ⟨fun kv m => ?_, fun p' t' h' => ?_⟩
  · rw [putK_new _ nv] at m
    rcases List.mem_append.mp m with m | m
    · obtain ⟨p', t', e1, e2, e3⟩ := h.all kv m
      exact ⟨p', t', e1, (hd p' t').mpr (.inl e2), e3⟩
    · rw [List.mem_singleton.mp m]
      exact ⟨p, t, rfl, (hd p t).mpr (.inr ⟨rfl, rfl⟩), rfl⟩
  · rw [valV_put]
    by_cases c : kk p' t' = kk p t
    · rw [if_pos c]
      obtain ⟨e1, e2⟩ := kk_inj c
      rw [e1, e2]
    · rw [if_neg c]
      rcases (hd p' t').mp h' with g | ⟨e1, e2⟩
      · exact h.at_ p' t' g
      · exact absurd (by rw [e1, e2]) c
theorem TakenX.mem {f : Nat → List Int} {kvs : List (List Key × V)} {d : Nat → Nat → Prop} (h : TakenX f kvs d) {p t : Nat} (hd : d p t) : ∃ i : Nat, ∃ v, kvs[i]? = some (kk p t, v) := by
  have e := h.at_ p t hd
  unfold valV at e
  obtain ⟨kv, e1, e2⟩ := Option.map_eq_some_iff.mp e
  have m := List.mem_of_find?_eq_some e1
  have k : kv.1 = kk p t := by simpa using List.find?_some e1
  obtain ⟨i, hi⟩ := List.mem_iff_getElem?.mp m
  exact ⟨i, kv.2, by rw [hi, ← k]⟩
end KR
/-! ### plans that grow number by number -/
namespace KR
open PySem PySem.Spec PyProof.Rows L2
def appF (g : Nat → List Int) (pl : Nat) (v : Int) : Nat → List Int := fun q => if q = pl then g q ++ [v] else g q
theorem appF_ne {g : Nat → List Int} {pl q : Nat} {v : Int} (h : q ≠ pl) : appF g pl v q = g q := if_neg h
theorem appF_eq {g : Nat → List Int} {pl : Nat} {v : Int} : appF g pl v pl = g pl ++ [v] := if_pos rfl
theorem PS_ne {g : Nat → List Int} {pl q u : Nat} {v : Int} (h : q ≠ pl) : PS (appF g pl v) q u = PS g q u := by
  unfold PS
  rw [appF_ne h]
theorem PS_le {g : Nat → List Int} {pl q u : Nat} {v : Int} (h : u ≤ (g q).length) : PS (appF g pl v) q u = PS g q u := by
  by_cases c : q = pl
  · subst c
    unfold PS
    rw [appF_eq, List.take_append_of_le_length h]
  · exact PS_ne c
theorem PX_ne {g : Nat → List Int} {pl q u : Nat} {v : Int} (h : q ≠ pl) : PX (appF g pl v) q u = PX g q u := by
  unfold PX
  rw [appF_ne h]
theorem PX_lt {g : Nat → List Int} {pl q u : Nat} {v : Int} (h : u < (g q).length) : PX (appF g pl v) q u = PX g q u := by
  by_cases c : q = pl
  · subst c
    unfold PX
    rw [appF_eq, List.getD_eq_getElem?_getD, List.getElem?_append_left h, ← List.getD_eq_getElem?_getD]
  · exact PX_ne c
theorem PX_new {g : Nat → List Int} {pl t : Nat} {v : Int} (h : (g pl).length = t) : PX (appF g pl v) pl t = v := by
  unfold PX
  rw [appF_eq, List.getD_eq_getElem?_getD, List.getElem?_append_right (by omega), h, Nat.sub_self] <;> rfl
theorem PS_new {g : Nat → List Int} {pl t : Nat} {v : Int} (h : (g pl).length = t) : PS (appF g pl v) pl (t + 1) = PS g pl t + v := by
  rw [PS_succ (by rw [appF_eq, List.length_append]; show t < (g pl).length + 1; omega), PX_new h, PS_le (by omega)]
/-- what was so stays so -/
theorem PlAt.app {D : Dy} {g : Nat → List Int} {pl p t : Nat} {v : Int} (hp : p ≤ D.ks.length) (h : PlAt D g p t) (l1 : t + 1 ≤ (g p).length) (l2 : ∀ q, q ≤ D.ks.length → t ≤ (g q).length) (l3 : p < D.ks.length → t + 1 ≤ (g (p + 1)).length) : PlAt D (appF g pl v) p t := by
  obtain ⟨h1, h2, h3⟩ := h
  refine ⟨?_, ?_, fun lt => ?_⟩
  · rw [PS_le l1]
    by_cases c : p = 0
    · rw [if_pos c] at h1 ⊢
      exact h1
    · rw [if_neg c] at h1 ⊢
      rw [PS_le (l2 (p - 1) (by omega))]
      exact h1
  · rw [PX_lt (by omega)]
    exact h2
  · rw [PS_le l1, PS_le (l3 lt)]
    exact h3 lt
/-- no place has more than the one ahead of it, each has room for what it holds -/
theorem PS_mono {g : Nat → List Int} {q t : Nat} (nn : ∀ z ∈ g q, 0 ≤ z) : PS g q t ≤ PS g q (t + 1) := by
  by_cases c : t < (g q).length
  · rw [PS_succ c]
    have : 0 ≤ PX g q t := by
      unfold PX
      rw [List.getD_eq_getElem?_getD, List.getElem?_eq_getElem c]
      exact nn _ (List.getElem_mem c)
    omega
  · unfold PS
    rw [List.take_of_length_le (by omega), List.take_of_length_le (by omega)]
    exact Int.le_refl _
theorem held_nn {D : Dy} {g : Nat → List Int} {p t : Nat} (nn : ∀ q, q ≤ D.ks.length → ∀ z ∈ g q, 0 ≤ z) (hp : p < D.ks.length) (done : ∀ pl t', pl ≤ D.ks.length → t' < t → PlAt D g pl t') : PS g (p + 1) t ≤ PS g p t := by
  cases t with
  | zero => rw [PS_zero, PS_zero]; exact Int.le_refl _
  | succ t =>
    have h := (done (p + 1) t (by omega) (Nat.lt_succ_self _)).1
    rw [if_neg (by omega), show p + 1 - 1 = p by omega] at h
    have := PS_mono (t := t) (nn p (by omega))
    omega
theorem held_room {D : Dy} {g : Nat → List Int} {p t : Nat} (hp : p < D.ks.length) (r0 : 0 ≤ (kt D p).1) (done : ∀ pl t', pl ≤ D.ks.length → t' < t → PlAt D g pl t') : PS g p t ≤ PS g (p + 1) t + (kt D p).1 := by
  cases t with
  | zero => rw [PS_zero, PS_zero]; omega
  | succ t => exact (done p t (by omega) (Nat.lt_succ_self _)).2.2 hp
theorem wait_nn {D : Dy} {g : Nat → List Int} {t : Nat} (done : ∀ pl t', pl ≤ D.ks.length → t' < t → PlAt D g pl t') : PS g 0 t ≤ csum D t := by
  cases t with
  | zero =>
    rw [PS_zero]
    show (0 : Int) ≤ (D.cs.take 0).sum
    rw [List.take_zero] <;> exact Int.le_refl _
  | succ t =>
    have h := (done 0 t (Nat.zero_le _) (Nat.lt_succ_self _)).1
    rw [if_pos rfl] at h
    exact h
/-- what is held within an hour, behind so many places from the last one on -/
def heldW (D : Dy) (g : Nat → List Int) (t j : Nat) : List Int := (List.range D.ks.length).map fun p => if D.ks.length < p + j then PS g p (t + 1) - PS g (p + 1) (t + 1) else PS g p t - PS g (p + 1) t
theorem heldW_len (D : Dy) (g : Nat → List Int) (t j : Nat) : (heldW D g t j).length = D.ks.length := by
  unfold heldW
  rw [List.length_map, List.length_range]
theorem heldW_at {D : Dy} {g : Nat → List Int} {t j p : Nat} (h : p < D.ks.length) : (heldW D g t j)[p]? = some (if D.ks.length < p + j then PS g p (t + 1) - PS g (p + 1) (t + 1) else PS g p t - PS g (p + 1) t) := by
  unfold heldW
  rw [List.getElem?_map, List.getElem?_range h] <;> rfl
def heldV (D : Dy) (g : Nat → List Int) (t : Nat) : List Int := (List.range D.ks.length).map fun p => PS g p t - PS g (p + 1) t
theorem heldV_len (D : Dy) (g : Nat → List Int) (t : Nat) : (heldV D g t).length = D.ks.length := by
  unfold heldV
  rw [List.length_map, List.length_range]
theorem heldV_at {D : Dy} {g : Nat → List Int} {t p : Nat} (h : p < D.ks.length) : (heldV D g t)[p]? = some (PS g p t - PS g (p + 1) t) := by
  unfold heldV
  rw [List.getElem?_map, List.getElem?_range h] <;> rfl
theorem heldV_zero (D : Dy) (g : Nat → List Int) : heldV D g 0 = List.replicate D.ks.length 0 := by
  refine List.eq_replicate_iff.mpr ⟨heldV_len D g 0, fun z hz => ?_⟩
  unfold heldV at hz
  obtain ⟨p, _, rfl⟩ := List.mem_map.mp hz
  show PS g p 0 - PS g (p + 1) 0 = 0
  rw [PS_zero, PS_zero] <;> rfl
theorem heldW_zero (D : Dy) (g : Nat → List Int) (t : Nat) : heldW D g t 0 = heldV D g t := by
  unfold heldW heldV
  exact List.map_congr_left fun p hp => if_neg (by have := List.mem_range.mp hp; omega)
theorem heldW_all (D : Dy) (g : Nat → List Int) (t : Nat) : heldW D g t (D.ks.length + 1) = heldV D g (t + 1) := by
  unfold heldW heldV
  exact List.map_congr_left fun p hp => if_pos (by omega)
theorem heldV_app {D : Dy} {g : Nat → List Int} {pl t : Nat} {v : Int} (l : ∀ q, q ≤ D.ks.length → t ≤ (g q).length) : heldV D (appF g pl v) t = heldV D g t := by
  unfold heldV
  refine List.map_congr_left fun p hp => ?_
  have := List.mem_range.mp hp
  rw [PS_le (l p (by omega)), PS_le (l (p + 1) (by omega))]
/-- the place that is next -/
theorem heldW_app {D : Dy} {g : Nat → List Int} {pl t j : Nat} {v : Int} (hj : pl + j = D.ks.length) (l : ∀ q, q ≤ D.ks.length → (g q).length = if D.ks.length < q + j then t + 1 else t) :
    heldW D (appF g pl v) t (j + 1) = if pl < D.ks.length then (heldW D g t j).set pl (PS g pl t + v - PS g (pl + 1) (t + 1)) else heldW D g t j := by
  refine List.ext_getElem? fun i => ?_
  by_cases hi : i < D.ks.length
  · rw [heldW_at hi]
    by_cases c : i = pl
    · subst c
      rw [if_pos (show D.ks.length < i + (j + 1) by omega), if_pos hi, List.getElem?_set, if_pos rfl, if_pos (by rw [heldW_len]; exact hi), PS_new (by rw [l i (by omega), if_neg (by omega)]), PS_ne (by omega)]
    · have e : (if pl < D.ks.length then (heldW D g t j).set pl (PS g pl t + v - PS g (pl + 1) (t + 1)) else heldW D g t j)[i]? = (heldW D g t j)[i]? := by
        split
        · rw [List.getElem?_set, if_neg (fun z => c z.symm)]
        · rfl
      rw [e, heldW_at hi]
      by_cases c2 : D.ks.length < i + j
      · rw [if_pos c2, if_pos (by omega), PS_ne (show i ≠ pl by omega), PS_ne (show i + 1 ≠ pl by omega)]
      · rw [if_neg c2, if_neg (by omega), PS_ne (show i ≠ pl by omega), PS_le (by rw [l (i + 1) (by omega)]; split <;> omega)]
  · have e : (if pl < D.ks.length then (heldW D g t j).set pl (PS g pl t + v - PS g (pl + 1) (t + 1)) else heldW D g t j).length = D.ks.length := by
      split
      · rw [List.length_set, heldW_len]
      · rw [heldW_len]
    rw [List.getElem?_eq_none (by rw [heldW_len]; omega), List.getElem?_eq_none (by rw [e]; omega)]
/-- its rows -/
def RowsH (H H0 : Hp) (p l g : Addr) (rs : List Addr) (f : Nat → List Int) : Prop := ∀ (q : Nat) (r : Addr), rs[q]? = some r → H r = some (.lst ((f q).map V.int)) ∧ H0 r = none ∧ r ≠ p ∧ r ≠ l ∧ r ≠ g
theorem RowsH.same {H H' H0 : Hp} {p l g : Addr} {rs : List Addr} {f : Nat → List Int} (h : RowsH H H0 p l g rs f) (s : Same H H') : RowsH H' H0 p l g rs f := fun q r e => ⟨s _ _ (h q r e).1, (h q r e).2⟩
theorem RowsH.fr {H H' H0 : Hp} {p l g : Addr} {rs : List Addr} {f : Nat → List Int} (h : RowsH H H0 p l g rs f) (F : Fr p H H') : RowsH H' H0 p l g rs f := fun q r e => ⟨F _ _ (h q r e).2.2.1 (h q r e).1, (h q r e).2⟩
theorem RowsH.put {H H0 : Hp} {p l g : Addr} {rs : List Addr} {f : Nat → List Int} {o : HO} (h : RowsH H H0 p l g rs f) : RowsH (upd H l o) H0 p l g rs f := fun q r e => ⟨by rw [upd_ne (h q r e).2.2.2.1]; exact (h q r e).1, (h q r e).2⟩
theorem RowsH.row {H H0 : Hp} {p l g : Addr} {rs : List Addr} {f : Nat → List Int} {i : Nat} {r : Addr} {v : Int} (h : RowsH H H0 p l g rs f) (nd : rs.Nodup) (e : rs[i]? = some r) : RowsH (upd H r (.lst ((f i).map V.int ++ [.int v]))) H0 p l g rs (appF f i v) := fun q r' e' => by
  by_cases c : q = i
  · subst c
    rw [e] at e'
    cases e'
    exact ⟨by rw [upd_same, appF_eq, List.map_append] <;> rfl, (h q r e).2⟩
  · have ne : r' ≠ r := fun z => by
      rw [z, ← e] at e'
      exact c ((List.getElem?_inj (List.getElem?_eq_some_iff.mp (e'.trans e)).1 nd).mp e')
    exact ⟨by rw [upd_ne ne, appF_ne c]; exact (h q r' e').1, (h q r' e').2⟩
theorem csum_stepW {D : Dy} {t : Nat} (h : t < D.cs.length) : csum D (t + 1) = csum D t + D.cs.getD t 0 := by
  unfold csum
  rw [take_one (List.getElem?_eq_getElem h), List.sum_append, List.getD_eq_getElem?_getD, List.getElem?_eq_getElem h, List.sum_cons, List.sum_nil]
  show _ + (D.cs[t] + 0) = _ + D.cs[t]
  omega
end KR
namespace KR
open PySem PySem.Spec PyProof.Rows L2
def top (i : Nat) : Stmt := PySem.Challenge.pw_kettlerow_k61_plans_shown.main.body.getD i (.Pass ⟨0, 0, 0, 0⟩)
abbrev s_p_places_in : Stmt := top 2
theorem sc_p_places_in : FnScope ["day"] ["day"] (defScope s_p_places_in) := ⟨rfl, rfl, rfl, by decide +kernel, rfl, by decide +kernel, by decide +kernel⟩
abbrev s_p_hours_in : Stmt := top 3
theorem sc_p_hours_in : FnScope ["day"] ["day"] (defScope s_p_hours_in) := ⟨rfl, rfl, rfl, by decide +kernel, rfl, by decide +kernel, by decide +kernel⟩
abbrev s_p_bounds_at : Stmt := top 4
theorem sc_p_bounds_at : FnScope ["day", "place", "hour", "comes", "kettles", "strikes", "bounds", "room", "takes"] ["day", "place", "hour"] (defScope s_p_bounds_at) := ⟨rfl, rfl, rfl, by decide +kernel, rfl, by decide +kernel, by decide +kernel⟩
abbrev s_p_reached : Stmt := top 5
theorem sc_p_reached : FnScope ["taken", "bound", "lead", "more"] ["taken", "bound"] (defScope s_p_reached) := ⟨rfl, rfl, rfl, by decide +kernel, rfl, by decide +kernel, by decide +kernel⟩
abbrev s_p_is_number : Stmt := top 7
theorem sc_p_is_number : FnScope ["thing"] ["thing"] (defScope s_p_is_number) := ⟨rfl, rfl, rfl, by decide +kernel, rfl, by decide +kernel, by decide +kernel⟩
abbrev s_p_shows_plan : Stmt := top 9
theorem sc_p_shows_plan : FnScope ["day", "thing", "numbers", "taken", "place", "hour", "bound"] ["day", "thing"] (defScope s_p_shows_plan) := ⟨rfl, rfl, rfl, by decide +kernel, rfl, by decide +kernel, by decide +kernel⟩
abbrev s_p__taken_by : Stmt := top 10
theorem sc_p__taken_by : FnScope ["plan", "taken", "place", "numbers", "hour", "number"] ["plan"] (defScope s_p__taken_by) := ⟨rfl, rfl, rfl, by decide +kernel, rfl, by decide +kernel, by decide +kernel⟩
abbrev s_p__is_place_of_plan : Stmt := top 11
theorem sc_p__is_place_of_plan : FnScope ["thing", "hours", "number"] ["thing", "hours"] (defScope s_p__is_place_of_plan) := ⟨rfl, rfl, rfl, by decide +kernel, rfl, by decide +kernel, by decide +kernel⟩
abbrev s_l_cell_at : Stmt := top 13
theorem sc_l_cell_at : FnScope ["_law_script", "_law_k"] ["_law_script", "_law_k"] (defScope s_l_cell_at) := ⟨rfl, rfl, rfl, by decide +kernel, rfl, by decide +kernel, by decide +kernel⟩
abbrev s_l_box : Stmt := top 14
theorem sc_l_box : FnScope ["_law_script", "_law_k", "_law_cell"] ["_law_script", "_law_k"] (defScope s_l_box) := ⟨rfl, rfl, rfl, by decide +kernel, rfl, by decide +kernel, by decide +kernel⟩
abbrev s_l_take : Stmt := top 15
theorem sc_l_take : FnScope ["_law_box_here", "_law_many", "_law_found", "_law_once", "_law_twice"] ["_law_box_here", "_law_many"] (defScope s_l_take) := ⟨rfl, rfl, rfl, by decide +kernel, rfl, by decide +kernel, by decide +kernel⟩
abbrev s_l_ladles : Stmt := top 16
theorem sc_l_ladles : FnScope ["_law_box_here", "_law_hours", "_law_wide", "_law_way", "_law_hour"] ["_law_box_here", "_law_hours", "_law_wide"] (defScope s_l_ladles) := ⟨rfl, rfl, rfl, by decide +kernel, rfl, by decide +kernel, by decide +kernel⟩
abbrev s_l_day : Stmt := top 17
theorem sc_l_day : FnScope ["_law_box_here", "_law_hours", "_law_pots", "_law_wide", "_law_kettles", "_law_place", "_law_room", "_law_takes"] ["_law_box_here", "_law_hours", "_law_pots", "_law_wide"] (defScope s_l_day) := ⟨rfl, rfl, rfl, by decide +kernel, rfl, by decide +kernel, by decide +kernel⟩
abbrev s_l_some_day : Stmt := top 18
theorem sc_l_some_day : FnScope ["_law_box_here", "_law_hours", "_law_pots"] ["_law_box_here"] (defScope s_l_some_day) := ⟨rfl, rfl, rfl, by decide +kernel, rfl, by decide +kernel, by decide +kernel⟩
abbrev s_l_is_number : Stmt := top 19
theorem sc_l_is_number : FnScope ["_law_thing"] ["_law_thing"] (defScope s_l_is_number) := ⟨rfl, rfl, rfl, by decide +kernel, rfl, by decide +kernel, by decide +kernel⟩
abbrev s_l_is_plan : Stmt := top 20
theorem sc_l_is_plan : FnScope ["_law_day_here", "_law_thing", "_law_comes", "_law_kettles", "_law_strikes", "_law_row", "_law_one", "_law_held", "_law_waiting", "_law_hour", "_law_many", "_law_before", "_law_place", "_law_pot", "_law_gone"] ["_law_day_here", "_law_thing"] (defScope s_l_is_plan) := ⟨rfl, rfl, rfl, by decide +kernel, rfl, by decide +kernel, by decide +kernel⟩
abbrev s_l_bent : Stmt := top 21
theorem sc_l_bent : FnScope ["_law_box_here", "_law_thing", "_law_deep", "_law_some", "_law_row", "_law_at", "_law_way"] ["_law_box_here", "_law_thing", "_law_deep"] (defScope s_l_bent) := ⟨rfl, rfl, rfl, by decide +kernel, rfl, by decide +kernel, by decide +kernel⟩
abbrev s_l_made : Stmt := top 22
theorem sc_l_made : FnScope ["_law_box_here", "_law_deep", "_law_way", "_law_some", "_law_k"] ["_law_box_here", "_law_deep"] (defScope s_l_made) := ⟨rfl, rfl, rfl, by decide +kernel, rfl, by decide +kernel, by decide +kernel⟩
abbrev s_l_drawn : Stmt := top 23
theorem sc_l_drawn : FnScope ["_law_box_here", "_law_day_here", "_law_comes", "_law_kettles", "_law_strikes", "_law_held", "_law_waiting", "_law_plan", "_law_place", "_law_way", "_law_hour", "_law_many", "_law_before", "_law_taken", "_law_ahead", "_law_most"] ["_law_box_here", "_law_day_here"] (defScope s_l_drawn) := ⟨rfl, rfl, rfl, by decide +kernel, rfl, by decide +kernel, by decide +kernel⟩
abbrev s_l_step : Stmt := top 24
theorem sc_l_step : FnScope ["_law_box_here", "_law_plan", "_law_found", "_law_row", "_law_at", "_law_way"] ["_law_box_here", "_law_plan"] (defScope s_l_step) := ⟨rfl, rfl, rfl, by decide +kernel, rfl, by decide +kernel, by decide +kernel⟩
abbrev s_p_law : Stmt := top 25
theorem sc_p_law : FnScope ["_law_script", "_law_k", "_law_box_here", "_law_day_here", "_law_loose", "_law_room", "_law_takes", "_law_plans", "_law_place", "_law_one", "_law_plan", "_law_turn", "_law_thing", "_law_seen", "_law_told"] ["_law_script"] (defScope s_p_law) := ⟨rfl, rfl, rfl, by decide +kernel, rfl, by decide +kernel, by decide +kernel⟩
structure All (K : PySem.W.Frag) (mg : Str → Option Value) where
  f_p_places_in : Addr
  fd_p_places_in : FuncData
  d_p_places_in : Def K mg "places_in" s_p_places_in f_p_places_in fd_p_places_in ["day"]
  f_p_hours_in : Addr
  fd_p_hours_in : FuncData
  d_p_hours_in : Def K mg "hours_in" s_p_hours_in f_p_hours_in fd_p_hours_in ["day"]
  f_p_bounds_at : Addr
  fd_p_bounds_at : FuncData
  d_p_bounds_at : Def K mg "bounds_at" s_p_bounds_at f_p_bounds_at fd_p_bounds_at ["day", "place", "hour"]
  f_p_reached : Addr
  fd_p_reached : FuncData
  d_p_reached : Def K mg "reached" s_p_reached f_p_reached fd_p_reached ["taken", "bound"]
  f_p_is_number : Addr
  fd_p_is_number : FuncData
  d_p_is_number : Def K mg "is_number" s_p_is_number f_p_is_number fd_p_is_number ["thing"]
  f_p_shows_plan : Addr
  fd_p_shows_plan : FuncData
  d_p_shows_plan : Def K mg "shows_plan" s_p_shows_plan f_p_shows_plan fd_p_shows_plan ["day", "thing"]
  f_p__taken_by : Addr
  fd_p__taken_by : FuncData
  d_p__taken_by : Def K mg "_taken_by" s_p__taken_by f_p__taken_by fd_p__taken_by ["plan"]
  f_p__is_place_of_plan : Addr
  fd_p__is_place_of_plan : FuncData
  d_p__is_place_of_plan : Def K mg "_is_place_of_plan" s_p__is_place_of_plan f_p__is_place_of_plan fd_p__is_place_of_plan ["thing", "hours"]
  f_l_cell_at : Addr
  fd_l_cell_at : FuncData
  d_l_cell_at : Def K mg "_law_cell_at" s_l_cell_at f_l_cell_at fd_l_cell_at ["_law_script", "_law_k"]
  f_l_box : Addr
  fd_l_box : FuncData
  d_l_box : Def K mg "_law_box" s_l_box f_l_box fd_l_box ["_law_script", "_law_k"]
  f_l_take : Addr
  fd_l_take : FuncData
  d_l_take : Def K mg "_law_take" s_l_take f_l_take fd_l_take ["_law_box_here", "_law_many"]
  f_l_ladles : Addr
  fd_l_ladles : FuncData
  d_l_ladles : Def K mg "_law_ladles" s_l_ladles f_l_ladles fd_l_ladles ["_law_box_here", "_law_hours", "_law_wide"]
  f_l_day : Addr
  fd_l_day : FuncData
  d_l_day : Def K mg "_law_day" s_l_day f_l_day fd_l_day ["_law_box_here", "_law_hours", "_law_pots", "_law_wide"]
  f_l_some_day : Addr
  fd_l_some_day : FuncData
  d_l_some_day : Def K mg "_law_some_day" s_l_some_day f_l_some_day fd_l_some_day ["_law_box_here"]
  f_l_is_number : Addr
  fd_l_is_number : FuncData
  d_l_is_number : Def K mg "_law_is_number" s_l_is_number f_l_is_number fd_l_is_number ["_law_thing"]
  f_l_is_plan : Addr
  fd_l_is_plan : FuncData
  d_l_is_plan : Def K mg "_law_is_plan" s_l_is_plan f_l_is_plan fd_l_is_plan ["_law_day_here", "_law_thing"]
  f_l_bent : Addr
  fd_l_bent : FuncData
  d_l_bent : Def K mg "_law_bent" s_l_bent f_l_bent fd_l_bent ["_law_box_here", "_law_thing", "_law_deep"]
  f_l_made : Addr
  fd_l_made : FuncData
  d_l_made : Def K mg "_law_made" s_l_made f_l_made fd_l_made ["_law_box_here", "_law_deep"]
  f_l_drawn : Addr
  fd_l_drawn : FuncData
  d_l_drawn : Def K mg "_law_drawn" s_l_drawn f_l_drawn fd_l_drawn ["_law_box_here", "_law_day_here"]
  f_l_step : Addr
  fd_l_step : FuncData
  d_l_step : Def K mg "_law_step" s_l_step f_l_step fd_l_step ["_law_box_here", "_law_plan"]
  f_p_law : Addr
  fd_p_law : FuncData
  d_p_law : Def K mg "law" s_p_law f_p_law fd_p_law ["_law_script"]
  b_abs : mg "abs" = none
  b_all : mg "all" = none
  b_bool : mg "bool" = none
  b_enumerate : mg "enumerate" = none
  b_int : mg "int" = none
  b_isinstance : mg "isinstance" = none
  b_len : mg "len" = none
  b_list : mg "list" = none
  b_max : mg "max" = none
  b_min : mg "min" = none
  b_range : mg "range" = none
  b_repr : mg "repr" = none
  b_sum : mg "sum" = none
  b_tuple : mg "tuple" = none
  b_zip : mg "zip" = none
  t_AHEAD_OF_ALL : Tok
  c_AHEAD_OF_ALL : mg "AHEAD_OF_ALL" = some (.int (-1) t_AHEAD_OF_ALL)
  c_p_shows_plan : Addr
  P_p_shows_plan : Addr
  k_p_shows_plan : FunC K "shows_plan" "shows_plan" s_p_shows_plan f_p_shows_plan fd_p_shows_plan c_p_shows_plan
  c_p__is_place_of_plan : Addr
  P_p__is_place_of_plan : Addr
  k_p__is_place_of_plan : FunC K "_is_place_of_plan" "_is_place_of_plan" s_p__is_place_of_plan f_p__is_place_of_plan fd_p__is_place_of_plan c_p__is_place_of_plan
def All.Ps {K : PySem.W.Frag} {mg : Str → Option Value} (T : All K mg) : List Addr := [T.P_p_shows_plan, T.P_p__is_place_of_plan]
structure Tabs {K : PySem.W.Frag} {mg : Str → Option Value} (T : All K mg) (base : Heap) : Prop where
  t_p_shows_plan : GxR.TabB base mg T.c_p_shows_plan T.P_p_shows_plan
  t_p__is_place_of_plan : GxR.TabB base mg T.c_p__is_place_of_plan T.P_p__is_place_of_plan
end KR
namespace KR
open PySem PySem.Spec PyProof.Rows L2
section
variable {P : Program} {w : World} {K : PySem.W.Frag} {mg : Str → Option Value} {base : Heap}
def sp_l_cell_at (K : PySem.W.Frag) : Sp := fun vs H Q _ => ∃ (a : Addr) (ns : List Int) (k : Int), vs = [.ref a, .int k] ∧ SqL K H a (ns.map V.int) ∧ 0 ≤ k ∧ ∀ z : Int, Q (.int z) H
theorem ok_l_cell_at (T : All K mg) : FnOk P w K mg base CX0 1 T.f_l_cell_at T.fd_l_cell_at ["_law_script", "_law_k"] (sp_l_cell_at K) := by
  refine T.d_l_cell_at.fn.ok sc_l_cell_at (fun vs H Q E h => ?_) (fun cdv A outer s H vs Q E hr h => ?_)
  · obtain ⟨a, ns, k, rfl, _⟩ := h
    rfl
  · obtain ⟨a, ns, k, rfl, hS, h0, q⟩ := h
    refine ⟨_, (pss_cons (ps_if (pt_cmpR op_lt (pv 1) (pe_callB (lenQ (K := K) rfl) (by rfl) T.b_len PySem.boot_len (pa_cons (pv 0) pa_nil)) (nomark _)) (pss_one (ps_ret (pe_ix (ixL (K := K) rfl) (pv 0) (pv 1) (fun _ _ => rfl)))) pss_nil)
      (pss_one (ps_ret pe_int))), ?_⟩
    refine ⟨_, rfl, _, rfl, a, _, rfl, .inl hS, _, _, rfl, rfl, _, rfl, ite2 (fun c => ?_) (fun c => ?_)⟩
    · have c1 : k < ((ns.map V.int).length : Int) := of_decide_eq_true c
      rw [List.length_map] at c1
      refine ⟨_, rfl, _, rfl, a, _, k, _, rfl, rfl, hS, at_of (j := k.toNat) (by omega) (by rw [List.getElem?_map, List.getElem?_eq_getElem (show k.toNat < ns.length by omega)]; rfl), ?_⟩
      exact q _
    · exact q _

end
end KR
namespace KR
open PySem PySem.Spec PyProof.Rows L2
section
variable {P : Program} {w : World} {K : PySem.W.Frag} {mg : Str → Option Value} {base : Heap}
def sp_l_box (K : PySem.W.Frag) : Sp := fun vs H Q _ => ∃ (a : Addr) (ns : List Int) (k : Int), vs = [.ref a, .int k] ∧ SqL K H a (ns.map V.int) ∧ 0 ≤ k ∧ k ≤ 63 ∧ ∀ p H', Same H H' → H p = none → BoxAt H' p 0 → Q (.ref p) H'
theorem ok_l_box (T : All K mg) : FnOk P w K mg base CX0 2 T.f_l_box T.fd_l_box ["_law_script", "_law_k"] (sp_l_box K) := by
  refine T.d_l_box.fn.ok sc_l_box (fun vs H Q E h => ?_) (fun cdv A outer s H vs Q E hr h => ?_)
  · obtain ⟨a, ns, k, rfl, _⟩ := h
    rfl
  · obtain ⟨a, ns, k, rfl, hS, h0, h1, q⟩ := h
    refine ⟨_, (pss_cons (ps_set (i := 2) sc_l_box.nd rfl (by first | exact Or.inl rfl | exact Or.inr rfl) (pe_call (ok_l_cell_at T) hr (by rfl) T.d_l_cell_at.mg T.d_l_cell_at.fn.kp T.d_l_cell_at.b .nil pass0 (pa_cons (pv 0) (pa_cons (pv 1) pa_nil))))
      (pss_one (ps_ret (pe_lstI (pa_cons (pe_op op_mulX (pe_callB call_abs (by rfl) T.b_abs (by decide +kernel) (pa_cons (pv 2) pa_nil)) (pe_callTy call_int1 (by rfl) T.b_int (by decide +kernel) (pa_cons (pe_cmpR op_ge (pe_callB call_abs (by rfl) T.b_abs (by decide +kernel) (pa_cons (pv 2) pa_nil)) (pe_op op_pow pe_int pe_int) (nomark _)) pa_nil))) (pa_cons (pe_op op_add (pe_op op_add (pe_op op_mod (pv 2) pe_int) (pe_op op_mulX pe_int (pv 1))) pe_int) (pa_cons pe_int pa_nil))))))), ?_⟩
    refine ⟨_, rfl, _, rfl, a, ns, k, rfl, hS, h0, fun z => ?_⟩
    refine ⟨_, rfl, _, rfl, _, rfl, _, rfl, _, _, rfl, rfl, ⟨by decide, by decide, by decide⟩, _, _, rfl, rfl, .inr ⟨_, rfl, ?_⟩⟩
    refine ⟨_, _, rfl, rfl, mulR bit_lt, ?_⟩
    refine ⟨_, rfl, _, _, rfl, rfl, (by show (0 : Int) < 2305843009213693951; decide), _, rfl, _, _, rfl, rfl, mulL (by decide), _, _, rfl, rfl, _, _, rfl, rfl, rfl, fun p H1 s1 hp h1 => ?_⟩
    refine q p _ s1 hp ⟨_, _, _, h1, ?_, ?_, ?_, by decide, by decide⟩
    · refine Int.mul_nonneg (by split <;> omega) bit_nn
    · omega
    · omega

end
end KR
namespace KR
open PySem PySem.Spec PyProof.Rows L2
section
variable {P : Program} {w : World} {K : PySem.W.Frag} {mg : Str → Option Value} {base : Heap}
def sp_l_take : Sp := fun vs H Q _ => ∃ (p : Addr) (m : Int) (n : Nat), vs = [.ref p, .int m] ∧ BoxAt H p n ∧ n ≤ 1000000000 ∧ 0 < m ∧ m.natAbs < 2 ^ 200 ∧ ∀ (z : Int) (H' : Hp), 0 ≤ z → z < m → BoxAt H' p (n + 1) → Fr p H H' → Q (.int z) H'
theorem ok_l_take (T : All K mg) : FnOk P w K mg base CX0 1 T.f_l_take T.fd_l_take ["_law_box_here", "_law_many"] sp_l_take := by
  refine T.d_l_take.fn.ok sc_l_take (fun vs H Q E h => ?_) (fun cdv A outer s H vs Q E hr h => ?_)
  · obtain ⟨p, m, n, rfl, _⟩ := h
    rfl
  · obtain ⟨p, m, n, rfl, hB, hn, h0, hm, q⟩ := h
    obtain ⟨a, b, c, hp, ha, hb, hb2, hc, hcn⟩ := hB
    refine ⟨_, (pss_cons (ps_if (pt_cmpR op_gt (pe_ix (ixL (K := K) rfl) (pv 0) pe_int (fun _ _ => rfl)) pe_int (nomark _)) (pss_cons (ps_set (i := 2) sc_l_take.nd rfl (by first | exact Or.inl rfl | exact Or.inr rfl) (pe_op op_mod (pe_ix (ixL (K := K) rfl) (pv 0) pe_int (fun _ _ => rfl)) (pv 1)))
      (pss_cons (ps_asg (pe_op op_fdivW (pe_ix (ixL (K := K) rfl) (pv 0) pe_int (fun _ _ => rfl)) (pv 1)) (pg_sub (pv 0) pe_int set_list))
      (pss_one (ps_ret (pv 2))))) pss_nil)
      (pss_cons (ps_asg (pe_op op_add (pe_ix (ixL (K := K) rfl) (pv 0) pe_int (fun _ _ => rfl)) pe_int) (pg_sub (pv 0) pe_int set_list))
      (pss_cons (ps_set (i := 3) sc_l_take.nd rfl (by first | exact Or.inl rfl | exact Or.inr rfl) (pe_op op_mod (pe_op op_mulX (pe_op op_add (pe_ix (ixL (K := K) rfl) (pv 0) pe_int (fun _ _ => rfl)) (pe_op op_mulX pe_int (pe_ix (ixL (K := K) rfl) (pv 0) pe_int (fun _ _ => rfl)))) (pe_op op_add pe_int (pe_ix (ixL (K := K) rfl) (pv 0) pe_int (fun _ _ => rfl)))) pe_int))
      (pss_cons (ps_set (i := 4) sc_l_take.nd rfl (by first | exact Or.inl rfl | exact Or.inr rfl) (pe_op op_mod (pe_op op_mulX (pe_op op_add (pv 3) (pe_ix (ixL (K := K) rfl) (pv 0) pe_int (fun _ _ => rfl))) (pe_op op_add (pe_op op_mod (pv 3) pe_int) pe_int)) pe_int))
      (pss_one (ps_ret (pe_op op_mod (pe_op op_fdivW (pe_op op_mod (pe_op op_add (pe_op op_mulX (pv 4) pe_int) (pv 3)) pe_int) pe_int) (pv 1)))))))), ?_⟩
    refine ⟨_, rfl, p, _, 0, _, rfl, rfl, SqL.of hp, at0, _, _, rfl, rfl, _, rfl, ite2 (fun c1 => ?_) (fun c1 => ?_)⟩
    · refine ⟨_, rfl, p, _, 0, _, rfl, rfl, SqL.of hp, at0, _, rfl, _, _, rfl, rfl, h0, ?_⟩
      refine ⟨_, rfl, p, _, 0, _, rfl, rfl, SqL.of hp, at0, _, rfl, _, _, rfl, rfl, wide_div h0 hm (by decide) (by decide), ?_⟩
      refine ⟨_, rfl, p, _, 0, 0, rfl, rfl, hp, rfl, ?_⟩
      refine ⟨_, rfl, ?_⟩
      refine q _ _ (Int.emod_nonneg _ (by omega)) (Int.emod_lt_of_pos _ h0) ⟨_, _, _, upd_same, ?_, hb, hb2, hc, by omega⟩ (Fr.put Fr.refl)
      exact Int.ediv_nonneg ha (by omega)
    · refine ⟨_, rfl, p, _, 2, _, rfl, rfl, SqL.of hp, at2, _, _, rfl, rfl, _, rfl, p, _, 2, 2, rfl, rfl, hp, rfl, ?_⟩
      have hp2 : (upd H p (.lst [.int a, .int b, .int (c + 1)])) p = some (.lst [.int a, .int b, .int (c + 1)]) := upd_same
      refine ⟨_, rfl, p, _, 1, _, rfl, rfl, SqL.of hp2, at1, _, rfl, p, _, 2, _, rfl, rfl, SqL.of hp2, at2, _, _, rfl, rfl, mulL (by decide), _, _, rfl, rfl, ?_⟩
      refine ⟨_, rfl, p, _, 2, _, rfl, rfl, SqL.of hp2, at2, _, _, rfl, rfl, _, _, rfl, rfl, mulL (by omega), _, _, rfl, rfl, (by show (0 : Int) < 2147483647; decide), ?_⟩
      generalize e1 : (b + 48271 * (c + 1)) * (39373 + (c + 1)) % 2147483647 = o
      have o1 : 0 ≤ o ∧ o < 2147483647 := by omega
      refine ⟨_, rfl, _, rfl, p, _, 2, _, rfl, rfl, SqL.of hp2, at2, _, _, rfl, rfl, _, rfl, _, _, rfl, rfl, (by show (0 : Int) < 40009; decide), _, _, rfl, rfl, _, _, rfl, rfl, mulL (by omega), _, _, rfl, rfl, (by show (0 : Int) < 2147483629; decide), ?_⟩
      generalize e2 : (o + (c + 1)) * (o % 40009 + 7) % 2147483629 = t
      have t1 : 0 ≤ t ∧ t < 2147483629 := by omega
      refine ⟨_, rfl, _, _, rfl, rfl, mulL (by omega), _, rfl, _, _, rfl, rfl, _, _, rfl, rfl, (by show (0 : Int) < 2147483587; decide), _, _, rfl, rfl, wide_div (b := 10) (by decide) (by decide) (by decide) (by decide), _, rfl, _, _, rfl, rfl, h0, ?_⟩
      exact q _ _ (Int.emod_nonneg _ (by omega)) (Int.emod_lt_of_pos _ h0) ⟨_, _, _, upd_same, ha, hb, hb2, by omega, by omega⟩ (Fr.put Fr.refl)

end
end KR
namespace KR
open PySem PySem.Spec PyProof.Rows L2
section
variable {P : Program} {w : World} {K : PySem.W.Frag} {mg : Str → Option Value} {base : Heap}
def sp_l_ladles (K : PySem.W.Frag) : Sp := fun vs H Q _ => ∃ (p : Addr) (n h : Nat) (w : Int), vs = [.ref p, .int (h : Int), .int w] ∧ BoxAt H p n ∧ n ≤ 999990000 ∧ h ≤ 48 ∧ 0 ≤ w ∧ w ≤ 1000000 ∧ ∀ (f : Addr) (ns : List Int) (H' : Hp), H' f = some (.lst (ns.map V.int)) → ns.length = h → Ldl ns → BoxAt H' p (n + 150) → Fr p H H' → f ≠ p → H f = none → Q (.ref f) H'
theorem ok_l_ladles (T : All K mg) : FnOk P w K mg base CX0 2 T.f_l_ladles T.fd_l_ladles ["_law_box_here", "_law_hours", "_law_wide"] (sp_l_ladles K) := by
  refine T.d_l_ladles.fn.ok sc_l_ladles (fun vs H Q E h => ?_) (fun cdv A outer s H vs Q E hr h => ?_)
  · obtain ⟨p, n, h, w, rfl, _⟩ := h
    rfl
  · obtain ⟨p, n, h, w, rfl, hB, hn, h48, w0, w1, q⟩ := h
    refine ⟨_, (pss_cons (ps_set (i := 3) sc_l_ladles.nd rfl (by first | exact Or.inl rfl | exact Or.inr rfl) (pe_call (ok_l_take T) hr (by rfl) T.d_l_take.mg T.d_l_take.fn.kp T.d_l_take.b .nil pass0 (pa_cons (pv 0) (pa_cons pe_int pa_nil))))
      (pss_cons (ps_if (pt_cmpR op_lt (pv 3) pe_int (nomark _)) (pss_one (ps_ret (pe_op op_rep (pe_lstI (pa_cons (pe_ix (ixL (K := K) rfl) (pe_lstI (pa_cons (pv 2) (pa_cons pe_int pa_nil))) (pv 3) (fun _ _ => rfl)) pa_nil)) (pv 1)))) pss_nil)
      (pss_one (ps_ret (pe_lc (own := [("_law_hour", 4)]) (g := gName 4) (tt := tYes) (by rfl) sc_l_ladles.nd (pi_range1 (by rfl) T.b_range (pa_cons (pv 1) pa_nil)) (blkOk_by (own := [("_law_hour", 4)]) (N := ["_law_box_here", "_law_hours", "_law_wide", "_law_way", "_law_hour"]) (sc := defScope s_l_ladles) (by decide +kernel)) (fun _ _ _ _ _ => (pg_name (i := 4) sc_l_ladles.nd rfl (by first | exact Or.inl rfl | exact Or.inr rfl))) (fun _ _ _ _ _ => pts_nil) (fun _ _ _ _ _ => (pe_ix (ixL (K := K) rfl) (pe_lstI (pa_cons (pe_call (ok_l_take T) hr (by rfl) T.d_l_take.mg T.d_l_take.fn.kp T.d_l_take.b .nil pass0 (pa_cons (pv 0) (pa_cons (pe_op op_add (pv 2) pe_int) pa_nil))) (pa_cons pe_int (pa_cons (pv 2) (pa_cons (pe_call (ok_l_take T) hr (by rfl) T.d_l_take.mg T.d_l_take.fn.kp T.d_l_take.b .nil pass0 (pa_cons (pv 0) (pa_cons (pe_op op_add (pv 2) pe_int) pa_nil))) pa_nil))))) (pe_call (ok_l_take T) hr (by rfl) T.d_l_take.mg T.d_l_take.fn.kp T.d_l_take.b .nil pass0 (pa_cons (pv 0) (pa_cons pe_int pa_nil))) (fun _ _ => rfl)))))))), ?_⟩
    refine ⟨_, rfl, p, 6, n, rfl, hB, by omega, by decide, by decide, fun y H1 y0 y1 B1 F1 => ?_⟩
    refine ⟨_, rfl, _, _, rfl, rfl, _, rfl, ?_⟩
    by_cases c : y < 2
    · refine ite_bT (decide_eq_true c) ?_
      refine ⟨_, rfl, rfl, fun l1 H2 s2 n2 h2 => ?_⟩
      obtain ⟨z, ez, z0, z1⟩ : ∃ z : Int, atI ([.int w, .int 0] : List V) y = some (.int z) ∧ 0 ≤ z ∧ z ≤ 1000000 := by
        have cs : y = 0 ∨ y = 1 := by omega
        rcases cs with e | e <;> subst e
        · exact ⟨w, rfl, w0, w1⟩
        · exact ⟨0, rfl, by decide, by decide⟩
      refine ⟨_, rfl, l1, _, y, _, rfl, rfl, SqL.of h2, ez, rfl, fun l2 H3 s3 n3 h3 => ?_⟩
      refine ⟨_, rfl, l2, (h : Int), _, rfl, rfl, h3, by omega, by omega, by show 1 * _ ≤ _; rw [sizeLine_eq]; omega, fun f nf => ?_⟩
      rw [rep_ints h z]
      have B3 := (B1.same s2).same s3
      have F3 : Fr p H H3 := F1.trans (.of (s2.trans s3))
      have fp := B3.new nf
      refine q f (List.replicate h z) _ upd_same List.length_replicate (fun u hu => by rw [List.eq_of_mem_replicate hu]; exact ⟨z0, z1⟩) ((B3.same (same_new nf)).mono (by omega)) (F3.trans (.of (same_new nf))) fp (fr_new' F3 nf fp)
    · refine ite_bF (decide_eq_false c) ?_
      refine ⟨_, rfl, (h : Int), rfl, by omega, by omega, fun D hD => ?_⟩
      have Dp := B1.new hD
      have nD : H D = none := fr_new' F1 hD Dp
      refine lc_range (lo := 0) (n := h) (fun i H' => ∃ ns : List Int, Fr p H1 H' ∧ BoxAt H' p (n + 1 + 3 * i) ∧ H' D = some (.lst (ns.map V.int)) ∧ ns.length = i ∧ Ldl ns)
        ⟨[], .of (same_new hD), (B1.same (same_new hD)).mono (by omega), upd_same, rfl, fun z hz => absurd hz List.not_mem_nil⟩ (fun i H2 hi z => ?_) (fun H2 z => ?_)
      · obtain ⟨ns, F2, B2, hD2, ln, ok⟩ := z
        refine ⟨rfl, yesT ?_⟩
        refine ⟨_, rfl, _, rfl, _, _, rfl, rfl, p, w + 1, _, rfl, B2, by omega, by omega, by omega, fun a H3 a0 a1 B3 F3 => ?_⟩
        refine ⟨_, rfl, _, rfl, _, rfl, _, _, rfl, rfl, p, w + 1, _, rfl, B3, by omega, by omega, by omega, fun b H4 b0 b1 B4 F4 => ⟨rfl, fun l1 H5 s5 n5 h5 => ?_⟩⟩
        have B5 := B4.same s5
        have l1p := B4.new n5
        refine ⟨_, rfl, p, 4, _, rfl, B5, by omega, by decide, by decide, fun y2 H6 y20 y21 B6 F6 => ?_⟩
        obtain ⟨z, ez, z0, z1⟩ : ∃ z : Int, atI ([.int a, .int 0, .int w, .int b] : List V) y2 = some (.int z) ∧ 0 ≤ z ∧ z ≤ 1000000 := by
          have cs : y2 = 0 ∨ y2 = 1 ∨ y2 = 2 ∨ y2 = 3 := by omega
          rcases cs with e | e | e | e <;> subst e
          · exact ⟨a, rfl, a0, by omega⟩
          · exact ⟨0, rfl, by decide, by decide⟩
          · exact ⟨w, rfl, w0, w1⟩
          · exact ⟨b, rfl, b0, by omega⟩
        refine ⟨l1, _, y2, _, rfl, rfl, SqL.of (F6 _ _ l1p h5), ez, ?_⟩
        have F26 : Fr p H2 H6 := F3.trans (F4.trans ((Fr.of s5).trans F6))
        have hD6 := F26 _ _ Dp hD2
        refine ⟨_, hD6, by rw [List.length_map]; exact small' (by omega), ns ++ [z], (F2.trans F26).put' hD, (B6.upd Dp).mono (by omega), by rw [upd_same, List.map_append] <;> rfl, by rw [List.length_append, ln] <;> rfl, fun u hu => ?_⟩
        rcases List.mem_append.mp hu with g | g
        · exact ok u g
        · rw [List.mem_singleton.mp g]
          exact ⟨z0, z1⟩
      · obtain ⟨ns, F2, B2, hD2, ln, ok⟩ := z
        exact q D ns H2 hD2 ln ok (B2.mono (by omega)) (F1.trans F2) Dp nD

end
end KR
namespace KR
open PySem PySem.Spec PyProof.Rows L2
section
variable {P : Program} {w : World} {K : PySem.W.Frag} {mg : Str → Option Value} {base : Heap}
def sp_l_day (K : PySem.W.Frag) : Sp := fun vs H Q _ => ∃ (p : Addr) (n h k : Nat) (w : Int), vs = [.ref p, .int (h : Int), .int (k : Int), .int w] ∧ BoxAt H p n ∧ n ≤ 999980000 ∧ 1 ≤ h ∧ h ≤ 48 ∧ 1 ≤ k ∧ k ≤ 8 ∧ 1 ≤ w ∧ w ≤ 1000000 ∧
  ∀ (d : Addr) (x : DyP) (D : Dy) (H' : Hp), DayAt K H' p d x D → DyOk D → DyNn D → D.cs.length = h → D.ks.length = k → x.pc = true → x.pk = true → x.ps = true → BoxAt H' p (n + 2000) → Fr p H H' → Q (.ref d) H'
theorem ok_l_day (T : All K mg) : FnOk P w K mg base CX0 3 T.f_l_day T.fd_l_day ["_law_box_here", "_law_hours", "_law_pots", "_law_wide"] (sp_l_day K) := by
  refine T.d_l_day.fn.ok sc_l_day (fun vs H Q E h => ?_) (fun cdv A outer s H vs Q E hr h => ?_)
  · obtain ⟨p, n, h, k, w, rfl, _⟩ := h
    rfl
  · obtain ⟨p, n, h, k, w, rfl, hB, hn, h1, h48, k1, k8, w0, w1, q⟩ := h
    refine ⟨_, (pss_cons (ps_set (i := 4) sc_l_day.nd rfl (by first | exact Or.inl rfl | exact Or.inr rfl) (pe_lstI pa_nil))
      (pss_cons (ps_for PassesOwn.never rfl (pi_range1 (by rfl) T.b_range (pa_cons (pv 2) pa_nil)) (pg_name (i := 5) sc_l_day.nd rfl (by first | exact Or.inl rfl | exact Or.inr rfl)) (pss_one (ps_expr (pe_bm PySem.F.plainAttrs_list PySem.F.slot_list_append PySem.F.type_list_append mt_append (pv 4) (pa_cons (pe_tupI (pa_cons (pe_op op_add pe_int (pe_call (ok_l_take T) (hr.mono (by decide)) (by rfl) T.d_l_take.mg T.d_l_take.fn.kp T.d_l_take.b .nil pass0 (pa_cons (pv 0) (pa_cons (pe_ix (ixL (K := K) rfl) (pe_lstI (pa_cons pe_int (pa_cons (pv 3) (pa_cons (pe_op op_mulX pe_int (pv 3)) pa_nil)))) (pe_call (ok_l_take T) (hr.mono (by decide)) (by rfl) T.d_l_take.mg T.d_l_take.fn.kp T.d_l_take.b .nil pass0 (pa_cons (pv 0) (pa_cons pe_int pa_nil))) (fun _ _ => rfl)) pa_nil)))) (pa_cons (pe_call (ok_l_ladles T) hr (by rfl) T.d_l_ladles.mg T.d_l_ladles.fn.kp T.d_l_ladles.b .nil pass0 (pa_cons (pv 0) (pa_cons (pv 1) (pa_cons (pv 3) pa_nil)))) pa_nil))) pa_nil)))))
      (pss_cons (ps_setLc (i := 4) (own := [("_law_room", 6), ("_law_takes", 7)]) (g := gTup K 2 (gCons (gName 6) (gCons (gName 7) gNil))) (tt := tYes) (by rfl) sc_l_day.nd rfl rfl (sw_true rfl rfl rfl (by decide +kernel)) (pi_listK (K := K) rfl (pv 4)) (blkOk_by (own := [("_law_room", 6), ("_law_takes", 7)]) (N := ["_law_box_here", "_law_hours", "_law_pots", "_law_wide", "_law_kettles", "_law_place", "_law_room", "_law_takes"]) (sc := defScope s_l_day) (by decide +kernel)) (fun _ _ _ _ _ => (pg_tupK (K := K) rfl rfl (pgs_cons (pg_name (i := 6) sc_l_day.nd rfl (by first | exact Or.inl rfl | exact Or.inr rfl)) (pgs_cons (pg_name (i := 7) sc_l_day.nd rfl (by first | exact Or.inl rfl | exact Or.inr rfl)) pgs_nil)))) (fun _ _ _ _ _ => pts_nil) (fun _ _ _ _ _ => (pe_tupI (pa_cons (pe_callB (call_min2 rfl) (by rfl) T.b_min (by decide +kernel) (pa_cons (pe_op op_pow pe_int pe_int) (pa_cons (pv 6) pa_nil))) (pa_cons (pv 7) pa_nil)))))
      (pss_one (ps_ret (pe_tupI (pa_cons (pe_call (ok_l_ladles T) hr (by rfl) T.d_l_ladles.mg T.d_l_ladles.fn.kp T.d_l_ladles.b .nil pass0 (pa_cons (pv 0) (pa_cons (pv 1) (pa_cons (pv 3) pa_nil)))) (pa_cons (pv 4) (pa_cons (pe_call (ok_l_ladles T) hr (by rfl) T.d_l_ladles.mg T.d_l_ladles.fn.kp T.d_l_ladles.b .nil pass0 (pa_cons (pv 0) (pa_cons (pv 1) (pa_cons (pv 3) pa_nil)))) pa_nil))))))))), ?_⟩
    refine ⟨rfl, fun f H1 s1 n1 hf1 => ?_⟩
    have fp := hB.new n1
    refine ⟨_, rfl, k, rfl, by omega, by omega, for_range (lo := 0) (n := k) (fun i σ H' => ∃ (as : List Addr) (ks : List (Int × List Int)) (v5 : Option V), σ = [some (.ref p), some (.int (h : Int)), some (.int (k : Int)), some (.int w), some (.ref f), v5, none, none] ∧ H' f = some (.lst (as.map V.ref)) ∧ PotsF K H' p f as ks ∧ as.length = i ∧ (∀ k ∈ ks, 1 ≤ k.1 ∧ k.2.length = h ∧ Ldl k.2) ∧ BoxAt H' p (n + 160 * i) ∧ Fr p H H')
      ⟨[], [], none, rfl, hf1, .nil, rfl, fun k hk => absurd hk List.not_mem_nil, hB.same s1, .of s1⟩ ?_ ?_⟩
    · rintro i σ H2 hi ⟨as, ks, v5, rfl, hf, P, la, ok, B, F⟩
      refine ⟨_, rfl, .inl ⟨rfl, _, SqL.of hf⟩, ?_⟩
      refine ⟨_, rfl, _, rfl, _, rfl, _, _, rfl, rfl, mulL (by decide), rfl, fun l1 H3 s3 n3 h3 => ?_⟩
      have B3 := B.same s3
      have l1p := B.new n3
      refine ⟨_, rfl, p, 3, _, rfl, B3, by omega, by decide, by decide, fun y H4 y0 y1 B4 F4 => ?_⟩
      obtain ⟨m, em, m0, m1⟩ : ∃ m : Int, atI ([.int 1, .int w, .int (3 * w)] : List V) y = some (.int m) ∧ 1 ≤ m ∧ m ≤ 3000000 := by
        have cs : y = 0 ∨ y = 1 ∨ y = 2 := by omega
        rcases cs with e | e | e <;> subst e
        · exact ⟨1, rfl, by decide, by decide⟩
        · exact ⟨w, rfl, by omega, by omega⟩
        · exact ⟨3 * w, rfl, by omega, by omega⟩
      refine ⟨l1, _, y, _, rfl, rfl, SqL.of (F4 _ _ l1p h3), em, p, m, _, rfl, B4, by omega, by omega, by omega, fun r H5 r0 r1 B5 F5 => ⟨_, _, rfl, rfl, ?_⟩⟩
      have F25 : Fr p H2 H5 := (Fr.of s3).trans (F4.trans F5)
      have hf5 := F25 _ _ fp hf
      refine ⟨_, rfl, _, rfl, _, rfl, p, _, h, w, rfl, B5, by omega, h48, by omega, w1, fun t ns H6 ht ln nn B6 F6 tp nt => ?_⟩
      refine ⟨rfl, fun a H7 s7 n7 h7 => ?_⟩
      have tf : t ≠ f := (ne_of_none hf5 nt).symm
      have F27 : Fr p H2 H7 := (F25.trans F6).trans (.of s7)
      have hf7 := F27 _ _ fp hf
      refine ⟨f, _, _, rfl, rfl, hf7, by rw [List.length_map]; exact small' (by omega), ?_⟩
      refine ⟨as ++ [a], ks ++ [(1 + r, ns)], _, rfl, by rw [upd_same, List.map_append] <;> rfl, ?_, by rw [List.length_append, la] <;> rfl, fun k hk => ?_, ((B6.same s7).upd fp).mono (by omega), (F.trans F27).put' n1⟩
      · refine ((P.map fun a k z => z.fr B F27).snoc ⟨t, SqT.of h7, s7 _ _ ht, tp, tf⟩).map fun a k z => z.put hf7
      · rcases List.mem_append.mp hk with g | g
        · exact ok k g
        · rw [List.mem_singleton.mp g]
          exact ⟨by show 1 ≤ 1 + r; omega, ln, nn⟩
    · rintro σ H2 ⟨as, ks, v5, rfl, hf, P, la, ok, B, F⟩
      refine ⟨_, rfl, f, rfl, ⟨_, SqL.of hf⟩, fun g hg => ?_⟩
      have gp := B.new hg
      refine lc_it (walk_list (K := K) (a := f) (xs := as.map V.ref)) (fun j H' => ∃ (bs : List Addr) (js : List (Int × List Int)), Same H2 H' ∧ H' g = some (.lst (bs.map V.ref)) ∧ PotsF K H' p g bs js ∧ bs.length = j ∧ (∀ k ∈ js, 1 ≤ k.1 ∧ k.1 ≤ 1000000 ∧ k.2.length = h ∧ Ldl k.2))
        ⟨[], [], same_new hg, upd_same, .nil, rfl, fun k hk => absurd hk List.not_mem_nil⟩ (fun j H' _ ⟨_, _, s, _⟩ => SqL.of (s _ _ hf)) ?_ ?_
      · rintro j v H3 H4 hj ⟨bs, js, s3, hg3, P3, lb, ok3⟩ ⟨rfl, hv⟩
        rw [List.getElem?_map] at hv
        obtain ⟨a, ea, rfl⟩ := Option.map_eq_some_iff.mp hv
        obtain ⟨kk', ek, t, h1', h2', h3', h4'⟩ := P.get ea
        obtain ⟨o1, o2, o3⟩ := ok _ (List.mem_of_getElem? ek)
        rw [List.length_map] at hj
        refine ⟨a, _, rfl, Same.tup s3 h1', rfl, _, _, rfl, _, _, rfl, rfl, rfl, yesT ?_⟩
        refine ⟨_, _, rfl, rfl, ⟨by decide, by decide, by decide⟩, _, rfl, _, _, rfl, _, rfl, rfl, fun u H5 s5 n5 h5 => ?_⟩
        have hg5 := s5 _ _ hg3
        have tg : t ≠ g := ne_of_none h2' hg
        obtain ⟨rr, er, r1', r2'⟩ : ∃ rr : Int, (if kk'.1 < (10 : Int) ^ (6 : Int).toNat then kk'.1 else (10 : Int) ^ (6 : Int).toNat) = rr ∧ 1 ≤ rr ∧ rr ≤ 1000000 := by
          refine ⟨_, rfl, ?_, ?_⟩
          · split
            · exact o1
            · decide
          · split
            · have e6 : (10 : Int) ^ (6 : Int).toNat = 1000000 := by decide
              omega
            · decide
        have h5 : H5 u = some (.tup [.int (if kk'.1 < (10 : Int) ^ (6 : Int).toNat then kk'.1 else (10 : Int) ^ (6 : Int).toNat), .ref t]) := h5
        rw [er] at h5
        refine ⟨_, hg5, by rw [List.length_map]; exact small' (by omega), bs ++ [u], js ++ [(rr, kk'.2)], Same.put (s3.trans s5) hg, by rw [upd_same, List.map_append] <;> rfl, ?_, by rw [List.length_append, lb] <;> rfl, fun k hk => ?_⟩
        · refine ((P3.map fun a k z => z.same s5).snoc (show KtF K H5 p g u (rr, kk'.2) from ⟨t, SqT.of h5, (s3.trans s5) _ _ h2', h3', tg⟩)).map fun a k z => z.put hg5
        · rcases List.mem_append.mp hk with g' | g'
          · exact ok3 k g'
          · rw [List.mem_singleton.mp g']
            exact ⟨r1', r2', o2, o3⟩
      · rintro H3 ⟨bs, js, s3, hg3, P3, lb, ok3⟩
        rw [List.length_map, la] at lb
        have B3 := B.same s3
        have F3 : Fr p H H3 := F.trans (.of s3)
        refine ⟨_, rfl, _, rfl, _, rfl, p, _, h, w, rfl, B3, by omega, h48, by omega, w1, fun t1 ns1 H4 ht1 ln1 nn1 B4 F4 t1p nt1 => ?_⟩
        refine ⟨_, rfl, _, rfl, _, rfl, _, rfl, p, _, h, w, rfl, B4, by omega, h48, by omega, w1, fun t2 ns2 H5 ht2 ln2 nn2 B5 F5 t2p nt2 => ⟨rfl, fun d H6 s6 n6 h6 => ?_⟩⟩
        have F36 : Fr p H3 H6 := (F4.trans F5).trans (.of s6)
        have jl : js.length = k := by rw [← Paired.length P3, lb]
        refine q d ⟨t1, g, t2, true, true, true, bs⟩ ⟨ns1, js, ns2⟩ H6 ⟨SqT.of h6, ⟨SqL.of (s6 _ _ (F5 _ _ t1p ht1)), t1p⟩, SqL.of (F36 _ _ gp hg3), gp, ⟨SqL.of (s6 _ _ ht2), t2p⟩, Paired.length P3, (P3.map fun a k z => z.fr B3 F36).at_⟩ ⟨by show 1 ≤ ns1.length; omega, by show ns1.length ≤ 48; omega, by show 1 ≤ js.length; omega, by show js.length ≤ 8; omega, fun k hk => (ok3 k hk).2.2.1.trans ln1.symm, ln2.trans ln1.symm⟩ ⟨nn1, fun k hk => ⟨(ok3 k hk).1, (ok3 k hk).2.1, (ok3 k hk).2.2.2⟩, nn2⟩ ln1 jl rfl rfl rfl ((B5.same s6).mono (by omega)) (F3.trans F36)

end
end KR
namespace KR
open PySem PySem.Spec PyProof.Rows L2
section
variable {P : Program} {w : World} {K : PySem.W.Frag} {mg : Str → Option Value} {base : Heap}
def sp_l_some_day (K : PySem.W.Frag) : Sp := fun vs H Q _ => ∃ (p : Addr) (n : Nat), vs = [.ref p] ∧ BoxAt H p n ∧ n ≤ 999970000 ∧
  ∀ (d : Addr) (x : DyP) (D : Dy) (H' : Hp), DayAt K H' p d x D → DyOk D → DyNn D → x.pc = true → x.pk = true → x.ps = true → BoxAt H' p (n + 3000) → Fr p H H' → Q (.ref d) H'
theorem ok_l_some_day (T : All K mg) : FnOk P w K mg base CX0 4 T.f_l_some_day T.fd_l_some_day ["_law_box_here"] (sp_l_some_day K) := by
  refine T.d_l_some_day.fn.ok sc_l_some_day (fun vs H Q E h => ?_) (fun cdv A outer s H vs Q E hr h => ?_)
  · obtain ⟨p, n, rfl, _⟩ := h
    rfl
  · obtain ⟨p, n, rfl, hB, hn, q⟩ := h
    refine ⟨_, (pss_cons (ps_asg (pe_ix (ixL (K := K) rfl) (pe_lstI (pa_cons (pe_tupI (pa_cons (pe_op op_add pe_int (pe_call (ok_l_take T) (hr.mono (by decide)) (by rfl) T.d_l_take.mg T.d_l_take.fn.kp T.d_l_take.b .nil pass0 (pa_cons (pv 0) (pa_cons pe_int pa_nil)))) (pa_cons (pe_op op_add pe_int (pe_call (ok_l_take T) (hr.mono (by decide)) (by rfl) T.d_l_take.mg T.d_l_take.fn.kp T.d_l_take.b .nil pass0 (pa_cons (pv 0) (pa_cons pe_int pa_nil)))) pa_nil))) (pa_cons (pe_tupI (pa_cons pe_int (pa_cons pe_int pa_nil))) pa_nil))) (pe_callTy call_int1 (by rfl) T.b_int (by decide +kernel) (pa_cons (pe_cmpR op_eq (pe_call (ok_l_take T) (hr.mono (by decide)) (by rfl) T.d_l_take.mg T.d_l_take.fn.kp T.d_l_take.b .nil pass0 (pa_cons (pv 0) (pa_cons pe_int pa_nil))) pe_int (nomark _)) pa_nil)) (fun _ _ => rfl)) (pg_tupK (K := K) rfl rfl (pgs_cons (pg_name (i := 1) sc_l_some_day.nd rfl (by first | exact Or.inl rfl | exact Or.inr rfl)) (pgs_cons (pg_name (i := 2) sc_l_some_day.nd rfl (by first | exact Or.inl rfl | exact Or.inr rfl)) pgs_nil))))
      (pss_one (ps_ret (pe_call (ok_l_day T) hr (by rfl) T.d_l_day.mg T.d_l_day.fn.kp T.d_l_day.b .nil pass0 (pa_cons (pv 0) (pa_cons (pv 1) (pa_cons (pv 2) (pa_cons (pe_ix (ixL (K := K) rfl) (pe_lstI (pa_cons pe_int (pa_cons pe_int (pa_cons (pe_op op_pow pe_int pe_int) pa_nil)))) (pe_call (ok_l_take T) (hr.mono (by decide)) (by rfl) T.d_l_take.mg T.d_l_take.fn.kp T.d_l_take.b .nil pass0 (pa_cons (pv 0) (pa_cons pe_int pa_nil))) (fun _ _ => rfl)) pa_nil)))))))), ?_⟩
    refine ⟨_, rfl, p, 6, n, rfl, hB, by omega, by decide, by decide, fun a H1 a0 a1 B1 F1 => ⟨_, _, rfl, rfl, ?_⟩⟩
    obtain ⟨an, rfl⟩ : ∃ an : Nat, a = (an : Int) := ⟨a.toNat, by omega⟩
    refine ⟨_, rfl, p, 3, _, rfl, B1, by omega, by decide, by decide, fun b H2 b0 b1 B2 F2 => ⟨_, _, rfl, rfl, rfl, fun t1 H3 s3 n3 h3 => ?_⟩⟩
    obtain ⟨bn, rfl⟩ : ∃ bn : Nat, b = (bn : Int) := ⟨b.toNat, by omega⟩
    refine ⟨rfl, fun t2 H4 s4 n4 h4 => ⟨rfl, fun l1 H5 s5 n5 h5 => ?_⟩⟩
    have s35 := s3.trans (s4.trans s5)
    have B5 := B2.same s35
    have l1p := (B2.same (s3.trans s4)).new n5
    refine ⟨_, rfl, p, 8, _, rfl, B5, by omega, by decide, by decide, fun y H6 y0 y1 B6 F6 => ?_⟩
    obtain ⟨tt, hh, kk', ep, ht, a1', a2', a3', a4'⟩ : ∃ (tt : Addr) (hh kk' : Nat), atI ([.ref t1, .ref t2] : List V) (if decide (V.int y = V.int 0) = true then 1 else 0) = some (.ref tt) ∧ SqT K H6 tt [.int (hh : Int), .int (kk' : Int)] ∧ 1 ≤ hh ∧ hh ≤ 48 ∧ 1 ≤ kk' ∧ kk' ≤ 8 := by
      by_cases c : y = 0
      · refine ⟨t2, 48, 8, by rw [if_pos (decide_eq_true (congrArg V.int c))] <;> rfl, sqT_fr (SqT.of (s5 _ _ h4)) B5 F6, by decide, by decide, by decide, by decide⟩
      · refine ⟨t1, 1 + an, 1 + bn, by rw [if_neg (by rw [decide_eq_false fun z => c (V.int.inj z)]; exact Bool.false_ne_true)] <;> rfl, sqT_fr (SqT.of ((s4.trans s5) _ _ h3)) B5 F6, by omega, by omega, by omega, by omega⟩
    refine ⟨rfl, .inr ⟨_, rfl, l1, _, _, _, rfl, rfl, SqL.of (F6 _ _ l1p h5), ep, ?_⟩⟩
    refine ⟨tt, _, rfl, ht, rfl, _, _, rfl, _, _, rfl, rfl, ?_⟩
    refine ⟨_, rfl, _, rfl, _, rfl, _, _, rfl, rfl, ⟨by decide, by decide, by decide⟩, rfl, fun l2 H7 s7 n7 h7 => ?_⟩
    have B7 := B6.same s7
    have l2p := B6.new n7
    refine ⟨_, rfl, p, 3, _, rfl, B7, by omega, by decide, by decide, fun z H8 z0 z1 B8 F8 => ?_⟩
    obtain ⟨m, em, m0, m1⟩ : ∃ m : Int, atI ([.int 3, .int 20, .int (10 ^ (6 : Int).toNat)] : List V) z = some (.int m) ∧ 1 ≤ m ∧ m ≤ 1000000 := by
      have cs : z = 0 ∨ z = 1 ∨ z = 2 := by omega
      rcases cs with e | e | e <;> subst e
      · exact ⟨3, rfl, by decide, by decide⟩
      · exact ⟨20, rfl, by decide, by decide⟩
      · exact ⟨10 ^ (6 : Int).toNat, rfl, by decide, by decide⟩
    refine ⟨l2, _, z, _, rfl, rfl, SqL.of (F8 _ _ l2p h7), em, p, _, hh, kk', m, rfl, B8, by omega, a1', a2', a3', a4', m0, m1, fun d x D H9 hD O nn e1 e2 f1 f2 f3 B9 F9 => ?_⟩
    exact q d x D H9 hD O nn f1 f2 f3 (B9.mono (by omega)) (((F1.trans F2).trans (.of s35)).trans (F6.trans ((Fr.of s7).trans (F8.trans F9))))

end
end KR
namespace KR
open PySem PySem.Spec PyProof.Rows L2
section
variable {P : Program} {w : World} {K : PySem.W.Frag} {mg : Str → Option Value} {base : Heap}
def sp_l_is_number (K : PySem.W.Frag) : Sp := fun vs H Q _ => ∃ (Av : Addr → Prop) (B n : Nat) (v : V) (d : PyData), vs = [v] ∧ Tg K Av H B n v d ∧ Q (.bl (isI d)) H
theorem ok_l_is_number (T : All K mg) : FnOk P w K mg base CX0 1 T.f_l_is_number T.fd_l_is_number ["_law_thing"] (sp_l_is_number K) := by
  refine T.d_l_is_number.fn.ok sc_l_is_number (fun vs H Q E h => ?_) (fun cdv A outer s H vs Q E hr h => ?_)
  · obtain ⟨Av, B, n, v, d, rfl, _⟩ := h
    rfl
  · obtain ⟨Av, B, n, v, d, rfl, h, q⟩ := h
    refine ⟨_, (pss_one (ps_ret (pe_and (pe_callB (isiK (K := K) rfl) (by rfl) T.b_isinstance (by decide +kernel) (pa_cons (pv 0) (pa_cons (pe_bltn (v := .ty "int") (by rfl) T.b_int (by decide +kernel) rfl) pa_nil))) (pe_one (pe_not (pe_callB (isiK (K := K) rfl) (by rfl) T.b_isinstance (by decide +kernel) (pa_cons (pv 0) (pa_cons (pe_bltn (v := .ty "bool") (by rfl) T.b_bool (by decide +kernel) rfl) pa_nil)))))))), ?_⟩
    obtain ⟨t, ty, _, _, ki, kb, _⟩ := h.ty
    cases e : isBo d with
    | true =>
      rw [boI e] at q
      rw [e, Bool.or_true] at ki
      rw [e] at kb
      refine ⟨_, rfl, _, _, _, _, _, rfl, .ty _, ty, kit_ty ki, _, rfl, ?_⟩
      refine iteT ?_
      refine ⟨_, rfl, _, _, _, _, _, rfl, .ty _, ty, kit_ty kb, _, rfl, ?_⟩
      exact q
    | false =>
      rw [e, Bool.or_false] at ki
      rw [e] at kb
      refine ⟨_, rfl, _, _, _, _, _, rfl, .ty _, ty, kit_ty ki, _, rfl, ?_⟩
      cases e2 : isI d with
      | true =>
        rw [e2] at q
        refine iteT ?_
        refine ⟨_, rfl, _, _, _, _, _, rfl, .ty _, ty, kit_ty kb, _, rfl, ?_⟩
        exact q
      | false =>
        rw [e2] at q
        refine iteF ?_
        exact q

end
end KR
namespace KR
open PySem PySem.Spec PyProof.Rows L2
section
variable {P : Program} {w : World} {K : PySem.W.Frag} {mg : Str → Option Value} {base : Heap}
/-- what is held, and within an hour ahead of a place -/
def heldX (D : Dy) (f : Nat → List Int) (t : Nat) : List Int := (List.range D.ks.length).map fun p => PS f p t - PS f (p + 1) t
def heldY (D : Dy) (f : Nat → List Int) (t j : Nat) : List Int := (List.range D.ks.length).map fun p => if p < j then PS f p (t + 1) - PS f (p + 1) (t + 1) else PS f p t - PS f (p + 1) t
theorem heldX_len (D : Dy) (f : Nat → List Int) (t : Nat) : (heldX D f t).length = D.ks.length := by
  unfold heldX
  rw [List.length_map, List.length_range]
theorem heldY_len (D : Dy) (f : Nat → List Int) (t j : Nat) : (heldY D f t j).length = D.ks.length := by
  unfold heldY
  rw [List.length_map, List.length_range]
theorem heldX_get {D : Dy} {f : Nat → List Int} {t p : Nat} (h : p < D.ks.length) : (heldX D f t)[p]? = some (PS f p t - PS f (p + 1) t) := by
  unfold heldX
  rw [List.getElem?_map, List.getElem?_range h] <;> rfl
theorem heldX_at {D : Dy} {f : Nat → List Int} {t p : Nat} (h : p < D.ks.length) : (heldX D f t).getD p 0 = PS f p t - PS f (p + 1) t := by
  rw [List.getD_eq_getElem?_getD, heldX_get h] <;> rfl
theorem heldY_at {D : Dy} {f : Nat → List Int} {t j p : Nat} (h : p < D.ks.length) : (heldY D f t j)[p]? = some (if p < j then PS f p (t + 1) - PS f (p + 1) (t + 1) else PS f p t - PS f (p + 1) t) := by
  unfold heldY
  rw [List.getElem?_map, List.getElem?_range h] <;> rfl
theorem heldY_zero (D : Dy) (f : Nat → List Int) (t : Nat) : heldY D f t 0 = heldX D f t := by
  unfold heldX heldY
  exact List.map_congr_left fun p hp => if_neg (Nat.not_lt_zero _)
theorem heldY_all (D : Dy) (f : Nat → List Int) (t : Nat) : heldY D f t D.ks.length = heldX D f (t + 1) := by
  unfold heldX heldY
  exact List.map_congr_left fun p hp => if_pos (List.mem_range.mp hp)
theorem heldX_zero (D : Dy) (f : Nat → List Int) : heldX D f 0 = List.replicate D.ks.length 0 := by
  refine List.eq_replicate_iff.mpr ⟨heldX_len D f 0, fun z hz => ?_⟩
  unfold heldX at hz
  obtain ⟨p, _, rfl⟩ := List.mem_map.mp hz
  show PS f p 0 - PS f (p + 1) 0 = 0
  rw [PS_zero, PS_zero] <;> rfl
theorem heldY_step {D : Dy} {f : Nat → List Int} {t p : Nat} (h : p < D.ks.length) : (heldY D f t p).set p (PS f p (t + 1) - PS f (p + 1) (t + 1)) = heldY D f t (p + 1) := by
  refine List.ext_getElem? fun i => ?_
  rw [List.getElem?_set]
  by_cases c : p = i
  · subst c
    rw [if_pos rfl, if_pos (by rw [heldY_len]; exact h), heldY_at h, if_pos (Nat.lt_succ_self _)]
  · rw [if_neg c]
    by_cases hi : i < D.ks.length
    · rw [heldY_at hi, heldY_at hi]
      by_cases c2 : i < p
      · rw [if_pos c2, if_pos (by omega)]
      · rw [if_neg c2, if_neg (by omega)]
    · rw [List.getElem?_eq_none (by rw [heldY_len]; omega), List.getElem?_eq_none (by rw [heldY_len]; omega)]
theorem csum_stepX {D : Dy} {t : Nat} (h : t < D.cs.length) : csum D (t + 1) = csum D t + D.cs.getD t 0 := by
  unfold csum
  rw [take_one (List.getElem?_eq_getElem h), List.sum_append, List.getD_eq_getElem?_getD, List.getElem?_eq_getElem h, List.sum_cons, List.sum_nil]
  show _ + (D.cs[t] + 0) = _ + D.cs[t]
  omega
theorem at_endX {ns : List Int} {n : Nat} (len : ns.length = n + 1) : atI (ns.map V.int) (-1) = some (.int (ns.getD n 0)) := by
  unfold atI ixN
  rw [List.length_map, len, if_neg (by omega), if_pos (by omega)]
  show (ns.map V.int)[(-1 + ((n + 1 : Nat) : Int)).toNat]? = _
  rw [show (-1 + ((n + 1 : Nat) : Int)).toNat = n by omega]
  exact ints_get (by omega)
theorem at_endY {rs : List Addr} {n : Nat} {r : Addr} (len : rs.length = n + 1) (e : rs[n]? = some r) : atI (rs.map V.ref) (-1) = some (.ref r) := by
  unfold atI ixN
  rw [List.length_map, len, if_neg (by omega), if_pos (by omega)]
  show (rs.map V.ref)[(-1 + ((n + 1 : Nat) : Int)).toNat]? = _
  rw [show (-1 + ((n + 1 : Nat) : Int)).toNat = n by omega, List.getElem?_map, e] <;> rfl
theorem ixN_x {n i : Nat} (h : i < n) : ixN n (i : Int) = some i := by
  unfold ixN
  rw [if_pos (by omega), if_pos (by omega), Int.toNat_natCast]
def sp_l_is_plan (K : PySem.W.Frag) : Sp := fun vs H Q _ => ∃ (p d : Addr) (x : DyP) (D : Dy) (Av : Addr → Prop) (B n : Nat) (v : V) (e : PyData), vs = [.ref d, v] ∧ DayAt K H p d x D ∧ x.pc = true ∧ x.pk = true ∧ x.ps = true ∧ DyOk D ∧ Tg K Av H B n v e ∧ PyData.weight e ≤ 99000 ∧ ∀ (b : Bool) (H' : Hp), (b = true ↔ IsPlan D e) → Same H H' → Q (.bl b) H'
theorem ok_l_is_plan (T : All K mg) : FnOk P w K mg base CX0 2 T.f_l_is_plan T.fd_l_is_plan ["_law_day_here", "_law_thing"] (sp_l_is_plan K) := by
  refine T.d_l_is_plan.fn.ok sc_l_is_plan (fun vs H Q E h => ?_) (fun cdv A outer s H vs Q E hr h => ?_)
  · obtain ⟨p, d, x, D, Av, Bn, n, v, e, rfl, _⟩ := h
    rfl
  · obtain ⟨p, d, x, D, Av, Bn, n, v, e, rfl, hD, xc, xk, xs', O, hv, wd, q⟩ := h
    refine ⟨_, (pss_cons (ps_asg (pv 0) (pg_tupK (K := K) rfl rfl (pgs_cons (pg_name (i := 2) sc_l_is_plan.nd rfl (by first | exact Or.inl rfl | exact Or.inr rfl)) (pgs_cons (pg_name (i := 3) sc_l_is_plan.nd rfl (by first | exact Or.inl rfl | exact Or.inr rfl)) (pgs_cons (pg_name (i := 4) sc_l_is_plan.nd rfl (by first | exact Or.inl rfl | exact Or.inr rfl)) pgs_nil)))))
      (pss_cons (ps_if (PW.pt (pw_or (pt_not (pt_val (pe_callB (isiK (K := K) rfl) (by rfl) T.b_isinstance (by decide +kernel) (pa_cons (pv 1) (pa_cons (pe_bltn (v := .ty "list") (by rfl) T.b_list (by decide +kernel) rfl) pa_nil))))) (pw_or1 (pt_cmpR op_ne (pe_callB (lenQ (K := K) rfl) (by rfl) T.b_len PySem.boot_len (pa_cons (pv 1) pa_nil)) (pe_op op_add (pe_callB (lenQ (K := K) rfl) (by rfl) T.b_len PySem.boot_len (pa_cons (pv 3) pa_nil)) pe_int) (nomark _))))) (pss_one (ps_ret pe_bl)) pss_nil)
      (pss_cons (ps_for PassesOwn.never rfl (pi_listK (K := K) rfl (pv 1)) (pg_name (i := 5) sc_l_is_plan.nd rfl (by first | exact Or.inl rfl | exact Or.inr rfl)) (pss_cons (ps_if (PW.pt (pw_or (pt_not (pt_val (pe_callB (isiK (K := K) rfl) (by rfl) T.b_isinstance (by decide +kernel) (pa_cons (pv 5) (pa_cons (pe_bltn (v := .ty "list") (by rfl) T.b_list (by decide +kernel) rfl) pa_nil))))) (pw_or1 (pt_cmpR op_ne (pe_callB (lenQ (K := K) rfl) (by rfl) T.b_len PySem.boot_len (pa_cons (pv 5) pa_nil)) (pe_callB (lenQ (K := K) rfl) (by rfl) T.b_len PySem.boot_len (pa_cons (pv 2) pa_nil)) (nomark _))))) (pss_one (ps_ret pe_bl)) pss_nil)
      (pss_one (ps_if (pt_not (pt_val (pe_callB (allK (K := K) rfl rfl) (by rfl) T.b_all (by decide +kernel) (pa_cons (pe_lc (own := [("_law_one", 6)]) (g := gName 6) (tt := tYes) (by rfl) sc_l_is_plan.nd (pi_listK (K := K) rfl (pv 5)) (blkOk_by (own := [("_law_one", 6)]) (N := ["_law_day_here", "_law_thing", "_law_comes", "_law_kettles", "_law_strikes", "_law_row", "_law_one", "_law_held", "_law_waiting", "_law_hour", "_law_many", "_law_before", "_law_place", "_law_pot", "_law_gone"]) (sc := defScope s_l_is_plan) (by decide +kernel)) (fun _ _ _ _ _ => (pg_name (i := 6) sc_l_is_plan.nd rfl (by first | exact Or.inl rfl | exact Or.inr rfl))) (fun _ _ _ _ _ => pts_nil) (fun _ _ _ _ _ => (pe_and (pe_call (ok_l_is_number T) hr (by rfl) T.d_l_is_number.mg T.d_l_is_number.fn.kp T.d_l_is_number.b .nil pass0 (pa_cons (pv 6) pa_nil)) (pe_one (pe_cmpR op_ge (pv 6) pe_int (nomark _)))))) pa_nil)))) (pss_one (ps_ret pe_bl)) pss_nil))))
      (pss_cons (ps_par (i := 7) (j := 8) (by rfl) sc_l_is_plan.nd rfl rfl (by decide) rfl rfl (pa_cons (pe_op op_rep (pe_lstI (pa_cons pe_int pa_nil)) (pe_callB (lenQ (K := K) rfl) (by rfl) T.b_len PySem.boot_len (pa_cons (pv 3) pa_nil))) (pa_cons pe_int pa_nil)) (by rfl))
      (pss_cons (ps_for PassesOwn.never rfl (pi_enumB (K := K) rfl (by rfl) T.b_enumerate (pa_cons (pv 2) pa_nil)) (pg_tupK (K := K) rfl rfl (pgs_cons (pg_name (i := 9) sc_l_is_plan.nd rfl (by first | exact Or.inl rfl | exact Or.inr rfl)) (pgs_cons (pg_name (i := 10) sc_l_is_plan.nd rfl (by first | exact Or.inl rfl | exact Or.inr rfl)) pgs_nil))) (pss_cons (ps_par (i := 11) (j := 8) (by rfl) sc_l_is_plan.nd rfl rfl (by decide) rfl rfl (pa_cons (pe_callTy (listI (K := K) rfl) (by rfl) T.b_list (by decide +kernel) (pa_cons (pv 7) pa_nil)) (pa_cons (pe_op op_sub (pe_op op_add (pv 8) (pv 10)) (pe_ix (ixL (K := K) rfl) (pe_ix (ixL (K := K) rfl) (pv 1) pe_int (fun _ _ => rfl)) (pv 9) (fun _ _ => rfl))) pa_nil)) (by rfl))
      (pss_cons (ps_if (PW.pt (pw_or (pt_cmpR op_gt (pe_ix (ixL (K := K) rfl) (pe_ix (ixL (K := K) rfl) (pv 1) (pe_un un_neg pe_int) (fun _ _ => rfl)) (pv 9) (fun _ _ => rfl)) (pe_ix (ixL (K := K) rfl) (pv 4) (pv 9) (fun _ _ => rfl)) (nomark _)) (pw_or (pt_cmpR op_gt (pe_ix (ixL (K := K) rfl) (pe_ix (ixL (K := K) rfl) (pv 1) (pe_un un_neg pe_int) (fun _ _ => rfl)) (pv 9) (fun _ _ => rfl)) (pe_ix (ixL (K := K) rfl) (pv 11) (pe_un un_neg pe_int) (fun _ _ => rfl)) (nomark _)) (pw_or1 (pt_cmpR op_lt (pv 8) pe_int (nomark _)))))) (pss_one (ps_ret pe_bl)) pss_nil)
      (pss_one (ps_for PassesOwn.never rfl (pi_enumB (K := K) rfl (by rfl) T.b_enumerate (pa_cons (pv 3) pa_nil)) (pg_tupK (K := K) rfl rfl (pgs_cons (pg_name (i := 12) sc_l_is_plan.nd rfl (by first | exact Or.inl rfl | exact Or.inr rfl)) (pgs_cons (pg_name (i := 13) sc_l_is_plan.nd rfl (by first | exact Or.inl rfl | exact Or.inr rfl)) pgs_nil))) (pss_cons (ps_if (PW.pt (pw_or (pt_cmpR op_gt (pe_ix (ixL (K := K) rfl) (pe_ix (ixL (K := K) rfl) (pv 1) (pv 12) (fun _ _ => rfl)) (pv 9) (fun _ _ => rfl)) (pe_ix (ixQ (K := K) rfl) (pe_ix (ixT (K := K) rfl) (pv 13) pe_int (fun _ _ => rfl)) (pv 9) (fun _ _ => rfl)) (nomark _)) (pw_or1 (PW.pt (pw_and (pt_cmpR op_gt (pv 12) pe_int (nomark _)) (pw_and1 (pt_cmpR op_gt (pe_ix (ixL (K := K) rfl) (pe_ix (ixL (K := K) rfl) (pv 1) (pv 12) (fun _ _ => rfl)) (pv 9) (fun _ _ => rfl)) (pe_ix (ixL (K := K) rfl) (pv 11) (pe_op op_sub (pv 12) pe_int) (fun _ _ => rfl)) (nomark _)))))))) (pss_one (ps_ret pe_bl)) pss_nil)
      (pss_cons (ps_set (i := 14) sc_l_is_plan.nd rfl (by first | exact Or.inl rfl | exact Or.inr rfl) (pe_ix (ixL (K := K) rfl) (pe_ix (ixL (K := K) rfl) (pv 1) (pe_op op_add (pv 12) pe_int) (fun _ _ => rfl)) (pv 9) (fun _ _ => rfl)))
      (pss_cons (ps_asg (pe_op op_sub (pe_op op_add (pe_ix (ixL (K := K) rfl) (pv 7) (pv 12) (fun _ _ => rfl)) (pe_ix (ixL (K := K) rfl) (pe_ix (ixL (K := K) rfl) (pv 1) (pv 12) (fun _ _ => rfl)) (pv 9) (fun _ _ => rfl))) (pv 14)) (pg_sub (pv 7) (pv 12) set_list))
      (pss_one (ps_if (pt_cmpR op_gt (pe_ix (ixL (K := K) rfl) (pv 7) (pv 12) (fun _ _ => rfl)) (pe_ix (ixT (K := K) rfl) (pv 13) pe_int (fun _ _ => rfl)) (nomark _)) (pss_one (ps_ret pe_bl)) pss_nil))))))))))
      (pss_one (ps_ret pe_bl))))))), ?_⟩
    have k1 := O.k1
    have k2 := O.k2
    have h2 := O.h2
    have hk0 : SqL K H x.k (x.as.map V.ref) := by
      have z := hD.ks
      rw [xk] at z
      exact z
    have hc0 : SqL K H x.c (D.cs.map V.int) := by
      have z := hD.cs.1
      rw [xc] at z
      exact z
    have hs0 : SqL K H x.s (D.ss.map V.int) := by
      have z := hD.ss.1
      rw [xs'] at z
      exact z
    refine ⟨_, rfl, d, _, rfl, hD.at_, rfl, _, _, rfl, _, _, rfl, _, _, rfl, rfl, ?_⟩
    obtain ⟨ty, hty, kl, _, _, _, _⟩ := hv.ty
    refine ⟨_, rfl, _, _, _, _, _, rfl, .ty _, hty, kit_ty kl, ?_⟩
    cases el : isL e with
    | false => exact ⟨_, rfl, iteT (q false _ ⟨(fun z => nomatch z), fun z => absurd z (isPlan_L el)⟩ (.refl _))⟩
    | true =>
    obtain ⟨f, xs, ds, m, rfl, rfl, rfl, hf, tg⟩ := hv.lstI el
    have lx : xs.length = ds.length := tg.1
    have wd' : PyData.weightAll ds ≤ 99000 := wd
    refine ⟨_, rfl, iteF ?_⟩
    refine ⟨_, rfl, f, _, rfl, .inl (SqL.of hf), _, rfl, x.k, _, rfl, .inl hk0, _, _, rfl, rfl, ?_⟩
    rw [List.length_map, hD.len]
    refine ⟨rfl, _, rfl, ?_⟩
    by_cases cl : ds.length = D.ks.length + 1
    rotate_left
    · exact ite_nT (by omega) (q false _ ⟨(fun z => nomatch z), fun z => absurd (isPlan_rows z).1 cl⟩ (.refl _))
    refine ite_nF (by omega) ?_
    have noR : ∀ {j : Nat} {e : PyData}, ds[j]? = some e → placeB (D.cs.length : Int) e = false → ∀ H', Same H H' → Q (.bl false) H' := fun {j e} ee no H' s => q false H' ⟨(fun z => nomatch z), fun z => by
      have a := (isPlan_rows z).2
      rw [all_at ee no] at a
      cases a⟩ s
    refine ⟨_, rfl, f, rfl, ⟨_, SqL.of hf⟩, for_it (walk_list (K := K) (a := f) (xs := xs)) (fun j σ H' => ∃ (w : Option V), σ = [some (.ref d), some (.ref f), some (.ref x.c), some (.ref x.k), some (.ref x.s), w, none, none, none, none, none, none, none, none, none] ∧ Same H H' ∧ (ds.take j).all (placeB (D.cs.length : Int)) = true)
      ⟨none, rfl, .refl _, rfl⟩ (fun j σ H' _ ⟨_, _, s, _⟩ => SqL.of (s _ _ hf)) ?_ ?_⟩
    · rintro j v σ H2 H3 hj ⟨w, rfl, s2, al⟩ ⟨rfl, hv'⟩
      obtain ⟨x0, e, ex, ee, tx⟩ := (tg.same s2).at_ hj
      obtain rfl : v = x0 := Option.some.inj (hv'.symm.trans ex)
      obtain ⟨ty3, hty3, kl3, _, _, _, _⟩ := tx.ty
      refine ⟨_, rfl, _, _, _, _, _, rfl, .ty _, hty3, kit_ty kl3, ?_⟩
      cases e3 : isL e with
      | false => exact ⟨_, rfl, iteT (noR ee (placeB_no e3) _ s2)⟩
      | true =>
      obtain ⟨r, ys, es, m3, rfl, rfl, em3, hr3, tg3⟩ := tx.lstI e3
      have ly : ys.length = es.length := tg3.1
      refine ⟨_, rfl, iteF ?_⟩
      refine ⟨_, rfl, r, _, rfl, .inl (SqL.of hr3), _, rfl, x.c, _, rfl, .inl (Same.seq s2 hc0), rfl, _, rfl, ?_⟩
      rw [List.length_map]
      by_cases c2 : es.length = D.cs.length
      rotate_left
      · exact ite_nT (by omega) (noR ee (by show (decide ((es.length : Int) = (D.cs.length : Int)) && _) = false; rw [decide_eq_false (by omega)] <;> rfl) _ s2)
      refine ite_nF (by omega) ?_
      have pe : placeB (D.cs.length : Int) (.list es) = es.all nnB := by
        show (decide ((es.length : Int) = (D.cs.length : Int)) && es.all nnB) = _
        rw [decide_eq_true (by omega)] <;> rfl
      refine ⟨_, rfl, r, rfl, ⟨_, SqL.of hr3⟩, fun g hg => ?_⟩
      have wes : es.length ≤ 99000 := by
        have a := wa_at ee
        have b : PyData.weight (.list es) = PyData.weightAll es := rfl
        have c := wa_len es
        omega
      refine lc_it (walk_list (K := K) (a := r) (xs := ys)) (fun j H' => Same H3 H' ∧ H' g = some (.lst ((es.take j).map fun e => V.bl (nnB e))))
        ⟨same_new hg, by rw [upd_same] <;> rfl⟩ (fun j H' _ z => SqL.of (z.1 _ _ hr3)) ?_ ?_
      · rintro a v G3 G4 ha ⟨s3, hD3⟩ ⟨rfl, hv''⟩
        obtain ⟨x1, e, ex1, ee1, tx1⟩ := (tg3.same s3).at_ ha
        obtain rfl : v = x1 := Option.some.inj (hv''.symm.trans ex1)
        refine ⟨rfl, yesT ?_⟩
        refine ⟨_, rfl, Av, Bn, m3, v, e, rfl, tx1, _, rfl, ?_⟩
        have fin : ∀ b : Bool, nnB e = b → ∃ acc, G4 g = some (.lst acc) ∧ acc.length < sizeLine ∧ Same H3 (upd G4 g (.lst (acc ++ [.bl b]))) ∧ (upd G4 g (.lst (acc ++ [.bl b]))) g = some (.lst ((es.take (a + 1)).map fun e => V.bl (nnB e))) := fun b eb => by
          refine ⟨_, hD3, by rw [List.length_map, List.length_take]; exact small' (by omega), Same.put s3 hg, ?_⟩
          rw [upd_same, take_one ee1, List.map_append, ← eb] <;> rfl
        cases ei : isI e with
        | false => exact iteF (fin false (nnB_no ei))
        | true =>
          obtain ⟨z, rfl, rfl, _⟩ := tx1.intI ei
          refine iteT ?_
          exact ⟨_, rfl, _, _, rfl, rfl, fin _ rfl⟩
      · rintro G3 ⟨s3, hD3⟩
        rw [ly, List.take_length] at hD3
        have e : (es.map nnB).map V.bl = es.map fun e => V.bl (nnB e) := by rw [List.map_map] <;> rfl
        refine ⟨g, es.map nnB, rfl, SqL.of (by rw [e]; exact hD3), ?_⟩
        rw [show (es.map nnB).all id = placeB (D.cs.length : Int) (.list es) by rw [List.all_map, pe] <;> rfl]
        cases ck : placeB (D.cs.length : Int) (.list es) with
        | false => exact ⟨_, rfl, iteT (noR ee ck _ (s2.trans s3))⟩
        | true => exact ⟨_, rfl, iteF ⟨_, rfl, s2.trans s3, all_up al ee ck⟩⟩
    · rintro σ H2 ⟨w, rfl, s2, al⟩
      rw [lx, List.take_length] at al
      obtain ⟨Xs, rfl, okr⟩ := rows_of al
      have PO : PlanOk D Xs := ⟨by rw [← cl, List.length_map], okr⟩
      have hv2 : Tg K Av H2 Bn (m + 1) (.ref f) (planX Xs) := hv.same s2
      obtain ⟨f', rs, ef, hf2, nf, R⟩ := plan_tg hv2
      cases ef
      have lr : rs.length = D.ks.length + 1 := by rw [R.1, PO.len]
      have rowAt : ∀ {H' : Hp}, Same H2 H' → ∀ {pl : Nat}, pl ≤ D.ks.length → ∃ r, rs[pl]? = some r ∧ H' r = some (.lst ((rowF Xs pl).map V.int)) := fun {H'} s {pl} hp => by
        obtain ⟨r, er⟩ : ∃ r, rs[pl]? = some r := ⟨rs[pl]'(by omega), List.getElem?_eq_getElem _⟩
        obtain ⟨ys, ey, eF, _⟩ := PO.at_ hp
        exact ⟨r, er, by rw [eF]; exact s _ _ (R.2 pl r ys er ey).1⟩
      have no : ∀ {pl t : Nat}, pl ≤ D.ks.length → t < D.cs.length → ¬ PlAt D (rowF Xs) pl t → ∀ H', Same H H' → Q (.bl false) H' := fun {pl t} hp ht n H' s => q false H' ⟨(fun z => nomatch z), fun z => absurd ((isPlan_iff PO).mp z pl t hp ht) n⟩ s
      have ls : ∀ {pl t : Nat}, pl ≤ D.ks.length → t < D.cs.length → PS (rowF Xs) pl (t + 1) = PS (rowF Xs) pl t + PX (rowF Xs) pl t := fun {pl t} hp ht => PS_succ (by rw [PO.lenF hp]; exact ht)
      refine ⟨rfl, fun l0 H3 s3 n3 h3 => ?_⟩
      have hk3 := Same.seq (s2.trans s3) hk0
      refine ⟨_, rfl, x.k, _, rfl, .inl hk3, ?_⟩
      rw [List.length_map, hD.len]
      refine ⟨l0, (D.ks.length : Int), _, rfl, rfl, h3, by omega, by omega, by show 1 * _ ≤ _; rw [sizeLine_eq]; omega, fun hl nhl => ?_⟩
      rw [rep_ints D.ks.length 0, ← heldX_zero D (rowF Xs)]
      have s4 : Same H2 (upd H3 hl (.lst ((heldX D (rowF Xs) 0).map V.int))) := s3.trans (same_new nhl)
      have h4 : (upd H3 hl (.lst ((heldX D (rowF Xs) 0).map V.int))) hl = some (.lst ((heldX D (rowF Xs) 0).map V.int)) := upd_same
      have nhl2 : H2 hl = none := same_none' s3 nhl
      generalize upd H3 hl (.lst ((heldX D (rowF Xs) 0).map V.int)) = H4 at s4 h4
      refine ⟨_, _, rfl, ?_⟩
      refine ⟨_, rfl, x.c, _, true, rfl, Same.seq (s2.trans s4) hc0, for_it (walk_enumB (K := K) (a := x.c) (xs := D.cs.map V.int) (p := true)) (fun t σ H' => ∃ (wt : Int) (v9 v10 v11 v12 v13 v14 : Option V), σ = [some (.ref d), some (.ref f), some (.ref x.c), some (.ref x.k), some (.ref x.s), w, none, some (.ref hl), some (.int wt), v9, v10, v11, v12, v13, v14] ∧ Same H2 H' ∧ H' hl = some (.lst ((heldX D (rowF Xs) t).map V.int)) ∧ wt = csum D t - PS (rowF Xs) 0 t ∧ ∀ pl t', pl ≤ D.ks.length → t' < t → PlAt D (rowF Xs) pl t')
        ⟨0, _, _, _, _, _, _, rfl, s4, h4, by rw [PS_zero] <;> rfl, fun pl t' _ lt => absurd lt (Nat.not_lt_zero _)⟩ (fun t σ H' _ ⟨_, _, _, _, _, _, _, _, s, _⟩ => Same.seq (s2.trans s) hc0) ?_ ?_⟩
      · rintro t v σ H5 H6 ht ⟨wt, v9, v10, v11, v12, v13, v14, rfl, s5, h5, rfl, done⟩ ⟨T0, x0, y0, rfl, hT, rfl, e0, ex⟩
        rw [List.length_map] at ht
        obtain rfl := Option.some.inj e0
        have ex' : (D.cs.map V.int)[t]? = some y0 := ex
        rw [ints_get ht] at ex'
        obtain rfl := Option.some.inj ex'
        have sT : Same H5 (upd H5 T0 (.tup [.int (t : Nat), .int (D.cs.getD t 0)])) := same_new hT
        have hT5 : (upd H5 T0 (.tup [.int (t : Nat), .int (D.cs.getD t 0)])) T0 = some (.tup [.int (t : Nat), .int (D.cs.getD t 0)]) := upd_same
        generalize upd H5 T0 (.tup [.int (t : Nat), .int (D.cs.getD t 0)]) = H6 at sT hT5
        refine ⟨T0, _, rfl, SqT.of hT5, rfl, _, _, rfl, _, _, rfl, rfl, ?_⟩
        have h6 := sT _ _ h5
        have s25 := s5.trans sT
        have hh2 : ∀ {pl : Nat}, pl ≤ D.ks.length → t < (rowF Xs pl).length := fun hp => by rw [PO.lenF hp]; exact ht
        have g0 : ∀ {pl : Nat} {r : Addr}, rs[pl]? = some r → (rs.map V.ref)[pl]? = some (.ref r) := fun {pl r} e => by rw [List.getElem?_map, e] <;> rfl
        obtain ⟨kn, ekn⟩ : ∃ kn : Nat, D.ks.length = kn + 1 := ⟨D.ks.length - 1, by omega⟩
        refine ⟨_, rfl, hl, _, rfl, .inl (SqL.of h6), fun bf H7 s7 n7 h7 => ?_⟩
        have s27 := s25.trans s7
        have h67 := s7 _ _ h6
        have bfl : bf ≠ hl := (ne_of_none h6 n7).symm
        have hf7 := s27 _ _ hf2
        obtain ⟨r0, er0, hr0⟩ := rowAt s27 (Nat.zero_le _)
        obtain ⟨rK, erK, hrK⟩ := rowAt s27 (Nat.le_refl _)
        have hs7 := Same.seq (s2.trans s27) hs0
        have hk7 := Same.seq (s2.trans s27) hk0
        refine ⟨_, rfl, _, rfl, _, _, rfl, rfl, _, rfl, f, _, 0, _, rfl, rfl, SqL.of hf7, at_of (j := 0) rfl (g0 er0), _, rfl, r0, _, (t : Int), _, rfl, rfl, SqL.of hr0, at_of rfl (ints_get (hh2 (Nat.zero_le _))), _, _, rfl, rfl, ?_⟩
        have l0 := ls (pl := 0) (Nat.zero_le _) ht
        have lK := ls (pl := D.ks.length) (Nat.le_refl _) ht
        have cS := csum_stepX ht
        have eW : csum D t - PS (rowF Xs) 0 t + D.cs.getD t 0 - (rowF Xs 0).getD t 0 = csum D (t + 1) - PS (rowF Xs) 0 (t + 1) := by
          have : PX (rowF Xs) 0 t = (rowF Xs 0).getD t 0 := rfl
          omega
        refine ⟨_, _, rfl, ?_⟩
        -- the last place's number
        refine ⟨_, rfl, _, rfl, f, _, -1, _, rfl, rfl, SqL.of hf7, at_endY (n := D.ks.length) lr erK, _, rfl, rK, _, (t : Int), _, rfl, rfl, SqL.of hrK, at_of rfl (ints_get (hh2 (Nat.le_refl _))), _, rfl, _, rfl, x.s, _, (t : Int), _, rfl, rfl, hs7, at_of rfl (ints_get (by rw [O.sl]; exact ht)), _, _, rfl, rfl, _, rfl, ?_⟩
        have eX : ∀ pl, (rowF Xs pl).getD t 0 = PX (rowF Xs) pl t := fun _ => rfl
        rw [eX]
        by_cases c1 : D.ss.getD t 0 < PX (rowF Xs) D.ks.length t
        · refine ite_bT (decide_eq_true c1) (no (Nat.le_refl _) ht (fun z => ?_) _ (s2.trans s27))
          have z := z.2.1
          rw [if_pos rfl] at z
          omega
        refine ite_bF (decide_eq_false c1) ?_
        refine ⟨_, rfl, _, rfl, f, _, -1, _, rfl, rfl, SqL.of hf7, at_endY (n := D.ks.length) lr erK, _, rfl, rK, _, (t : Int), _, rfl, rfl, SqL.of hrK, at_of rfl (ints_get (hh2 (Nat.le_refl _))), _, rfl, _, rfl, bf, _, -1, _, rfl, rfl, SqL.of h7, at_endX (n := kn) (by rw [heldX_len]; exact ekn), _, _, rfl, rfl, _, rfl, ?_⟩
        rw [heldX_at (by omega), eX]
        by_cases c2 : PS (rowF Xs) kn t - PS (rowF Xs) (kn + 1) t < PX (rowF Xs) D.ks.length t
        · refine ite_bT (decide_eq_true c2) (no (Nat.le_refl _) ht (fun z => ?_) _ (s2.trans s27))
          have z := z.1
          rw [if_neg (by omega), show D.ks.length - 1 = kn by omega] at z
          rw [← ekn] at c2
          omega
        refine ite_bF (decide_eq_false c2) ?_
        refine ⟨_, rfl, _, _, rfl, rfl, _, rfl, ?_⟩
        rw [eX] at eW
        rw [eW]
        by_cases c3 : csum D (t + 1) - PS (rowF Xs) 0 (t + 1) < 0
        · refine ite_bT (decide_eq_true c3) (no (Nat.zero_le _) ht (fun z => ?_) _ (s2.trans s27))
          have z := z.1
          rw [if_pos rfl] at z
          omega
        refine ite_bF (decide_eq_false c3) ?_
        refine ⟨_, rfl, x.k, _, true, rfl, hk7, for_it (walk_enumB (K := K) (a := x.k) (xs := x.as.map V.ref) (p := true)) (fun j σ H' => ∃ (v12 v13 v14 : Option V), σ = [some (.ref d), some (.ref f), some (.ref x.c), some (.ref x.k), some (.ref x.s), w, none, some (.ref hl), some (.int (csum D (t + 1) - PS (rowF Xs) 0 (t + 1))), some (.int (t : Nat)), some (.int (D.cs.getD t 0)), some (.ref bf), v12, v13, v14] ∧ Same H2 H' ∧ H' hl = some (.lst ((heldY D (rowF Xs) t j).map V.int)) ∧ H' bf = some (.lst ((heldX D (rowF Xs) t).map V.int)) ∧ ∀ pl, pl < j → PX (rowF Xs) pl t ≤ (kt D pl).2.getD t 0 ∧ (0 < pl → PS (rowF Xs) pl (t + 1) ≤ PS (rowF Xs) (pl - 1) t) ∧ PS (rowF Xs) pl (t + 1) ≤ PS (rowF Xs) (pl + 1) (t + 1) + (kt D pl).1)
          ⟨v12, v13, v14, by rw [← eW] <;> rfl, s27, by rw [heldY_zero]; exact h67, h7, fun pl lt => absurd lt (Nat.not_lt_zero _)⟩ (fun j σ H' _ ⟨_, _, _, _, s, _⟩ => Same.seq (s2.trans s) hk0) ?_ ?_⟩
        · rintro j v σ H8 H9 hj ⟨v12, v13, v14, rfl, s8, hh8, hb8, ok⟩ ⟨T1, x1, y1, rfl, hT1, rfl, e1, ex1⟩
          rw [List.length_map, hD.len] at hj
          obtain rfl := Option.some.inj e1
          have ex2 : (x.as.map V.ref)[j]? = some y1 := ex1
          obtain ⟨ka, tk', bb, gk, hka0, htk0⟩ := hD.pot hj
          obtain rfl := Option.some.inj (ex2.symm.trans gk)
          have sT1 : Same H8 (upd H8 T1 (.tup [.int (j : Nat), .ref ka])) := same_new hT1
          have hT9 : (upd H8 T1 (.tup [.int (j : Nat), .ref ka])) T1 = some (.tup [.int (j : Nat), .ref ka]) := upd_same
          generalize upd H8 T1 (.tup [.int (j : Nat), .ref ka]) = H9 at sT1 hT9
          refine ⟨T1, _, rfl, SqT.of hT9, rfl, _, _, rfl, _, _, rfl, rfl, ?_⟩
          have s29 := s8.trans sT1
          have s09 := s2.trans s29
          have hf9 := s29 _ _ hf2
          have hka := Same.tup s09 hka0
          have htk := htk0.same s09
          have hh9 := sT1 _ _ hh8
          have hb9 := sT1 _ _ hb8
          obtain ⟨r, er, hr9⟩ := rowAt s29 (pl := j) (by omega)
          obtain ⟨r', er', hr9'⟩ := rowAt s29 (pl := j + 1) (by omega)
          have lj := ls (pl := j) (by omega) ht
          have lj' := ls (pl := j + 1) (by omega) ht
          have eXj : (rowF Xs j).getD t 0 = PX (rowF Xs) j t := rfl
          have eXj' : (rowF Xs (j + 1)).getD t 0 = PX (rowF Xs) (j + 1) t := rfl
          refine ⟨_, rfl, _, rfl, f, _, (j : Int), _, rfl, rfl, SqL.of hf9, at_of rfl (g0 er), _, rfl, r, _, (t : Int), _, rfl, rfl, SqL.of hr9, at_of rfl (ints_get (hh2 (by omega))), _, rfl, ka, _, 1, _, rfl, rfl, hka, at1, _, rfl, ix_b (i := t) htk.1 rfl (ints_get (by rw [kt_len O hj]; exact ht)) ?_⟩
          refine ⟨_, _, rfl, rfl, _, rfl, ?_⟩
          rw [eXj]
          by_cases c4 : (kt D j).2.getD t 0 < PX (rowF Xs) j t
          · refine ite_bT (decide_eq_true c4) (no (pl := j) (by omega) ht (fun z => ?_) _ s09)
            have z := z.2.1
            rw [if_neg (by omega)] at z
            omega
          refine ite_bF (decide_eq_false c4) ?_
          refine ⟨_, rfl, _, _, rfl, rfl, _, rfl, ?_⟩
          by_cases c5 : 0 < j
          · refine ite_bT (decide_eq_true (by omega)) ?_
            refine ⟨_, rfl, _, rfl, f, _, (j : Int), _, rfl, rfl, SqL.of hf9, at_of rfl (g0 er), _, rfl, r, _, (t : Int), _, rfl, rfl, SqL.of hr9, at_of rfl (ints_get (hh2 (by omega))), _, rfl, _, rfl, _, _, rfl, rfl, bf, _, (j : Int) - 1, .int ((heldX D (rowF Xs) t).getD (j - 1) 0), rfl, rfl, SqL.of hb9, at_of (j := j - 1) (by omega) (ints_get (by rw [heldX_len]; omega)), _, _, rfl, rfl, _, rfl, ?_⟩
            rw [heldX_at (by omega), show j - 1 + 1 = j by omega, eXj]
            by_cases c6 : PS (rowF Xs) (j - 1) t - PS (rowF Xs) j t < PX (rowF Xs) j t
            · refine ite_bT (decide_eq_true c6) (no (pl := j) (by omega) ht (fun z => ?_) _ s09)
              have z := z.1
              rw [if_neg (by omega)] at z
              omega
            refine ite_bF (decide_eq_false c6) ?_
            have eh9 : ((heldY D (rowF Xs) t j).map V.int)[j]? = some (.int (PS (rowF Xs) j t - PS (rowF Xs) (j + 1) t)) := by
              rw [List.getElem?_map, heldY_at hj, if_neg (Nat.lt_irrefl _)] <;> rfl
            refine ⟨_, rfl, _, rfl, _, _, rfl, rfl, f, _, (j : Int) + 1, _, rfl, rfl, SqL.of hf9, at_of (j := j + 1) (by omega) (g0 er'), _, rfl, r', _, (t : Int), _, rfl, rfl, SqL.of hr9', at_of rfl (ints_get (hh2 (by omega))), ?_⟩
            refine ⟨_, rfl, _, rfl, hl, _, (j : Int), _, rfl, rfl, SqL.of hh9, at_of rfl eh9, _, rfl, _, rfl, f, _, (j : Int), _, rfl, rfl, SqL.of hf9, at_of rfl (g0 er), _, rfl, r, _, (t : Int), _, rfl, rfl, SqL.of hr9, at_of rfl (ints_get (hh2 (by omega))), _, _, rfl, rfl, _, rfl, _, _, rfl, rfl, ?_⟩
            refine ⟨_, rfl, _, rfl, hl, _, (j : Int), j, rfl, rfl, hh9, ixN_x (by rw [List.length_map, heldY_len]; exact hj), ?_⟩
            have eY : ((heldY D (rowF Xs) t j).map V.int).set j (.int (PS (rowF Xs) j t - PS (rowF Xs) (j + 1) t + (rowF Xs j).getD t 0 - (rowF Xs (j + 1)).getD t 0)) = (heldY D (rowF Xs) t (j + 1)).map V.int := by
              rw [← heldY_step hj, List.map_set, show PS (rowF Xs) j t - PS (rowF Xs) (j + 1) t + (rowF Xs j).getD t 0 - (rowF Xs (j + 1)).getD t 0 = PS (rowF Xs) j (t + 1) - PS (rowF Xs) (j + 1) (t + 1) by rw [eXj, eXj']; omega]
            rw [eY]
            have sU : Same H2 (upd H9 hl (.lst ((heldY D (rowF Xs) t (j + 1)).map V.int))) := Same.put s29 nhl2
            have hU : (upd H9 hl (.lst ((heldY D (rowF Xs) t (j + 1)).map V.int))) hl = some (.lst ((heldY D (rowF Xs) t (j + 1)).map V.int)) := upd_same
            have bU : (upd H9 hl (.lst ((heldY D (rowF Xs) t (j + 1)).map V.int))) bf = some (.lst ((heldX D (rowF Xs) t).map V.int)) := by rw [upd_ne bfl]; exact hb9
            generalize upd H9 hl (.lst ((heldY D (rowF Xs) t (j + 1)).map V.int)) = HU at sU hU bU
            have eU : ((heldY D (rowF Xs) t (j + 1)).map V.int)[j]? = some (.int (PS (rowF Xs) j (t + 1) - PS (rowF Xs) (j + 1) (t + 1))) := by
              rw [List.getElem?_map, heldY_at hj, if_pos (Nat.lt_succ_self _)] <;> rfl
            refine ⟨_, rfl, _, rfl, hl, _, (j : Int), _, rfl, rfl, SqL.of hU, at_of rfl eU, _, rfl, ka, _, 0, _, rfl, rfl, Same.tup (s2.trans sU) hka0, at0, _, _, rfl, rfl, _, rfl, ?_⟩
            by_cases c7 : (kt D j).1 < PS (rowF Xs) j (t + 1) - PS (rowF Xs) (j + 1) (t + 1)
            · refine ite_bT (decide_eq_true c7) (no (pl := j) (by omega) ht (fun z => ?_) _ (s2.trans sU))
              have z := z.2.2 (by omega)
              omega
            refine ite_bF (decide_eq_false c7) ?_
            refine ⟨_, _, _, rfl, sU, hU, bU, fun pl lt => ?_⟩
            by_cases cj : pl < j
            · exact ok pl cj
            obtain rfl : pl = j := by omega
            exact ⟨by omega, fun z => by omega, by omega⟩
          · refine ite_bF (decide_eq_false (by omega)) ?_
            have eh9 : ((heldY D (rowF Xs) t j).map V.int)[j]? = some (.int (PS (rowF Xs) j t - PS (rowF Xs) (j + 1) t)) := by
              rw [List.getElem?_map, heldY_at hj, if_neg (Nat.lt_irrefl _)] <;> rfl
            refine ⟨_, rfl, _, rfl, _, _, rfl, rfl, f, _, (j : Int) + 1, _, rfl, rfl, SqL.of hf9, at_of (j := j + 1) (by omega) (g0 er'), _, rfl, r', _, (t : Int), _, rfl, rfl, SqL.of hr9', at_of rfl (ints_get (hh2 (by omega))), ?_⟩
            refine ⟨_, rfl, _, rfl, hl, _, (j : Int), _, rfl, rfl, SqL.of hh9, at_of rfl eh9, _, rfl, _, rfl, f, _, (j : Int), _, rfl, rfl, SqL.of hf9, at_of rfl (g0 er), _, rfl, r, _, (t : Int), _, rfl, rfl, SqL.of hr9, at_of rfl (ints_get (hh2 (by omega))), _, _, rfl, rfl, _, rfl, _, _, rfl, rfl, ?_⟩
            refine ⟨_, rfl, _, rfl, hl, _, (j : Int), j, rfl, rfl, hh9, ixN_x (by rw [List.length_map, heldY_len]; exact hj), ?_⟩
            have eY : ((heldY D (rowF Xs) t j).map V.int).set j (.int (PS (rowF Xs) j t - PS (rowF Xs) (j + 1) t + (rowF Xs j).getD t 0 - (rowF Xs (j + 1)).getD t 0)) = (heldY D (rowF Xs) t (j + 1)).map V.int := by
              rw [← heldY_step hj, List.map_set, show PS (rowF Xs) j t - PS (rowF Xs) (j + 1) t + (rowF Xs j).getD t 0 - (rowF Xs (j + 1)).getD t 0 = PS (rowF Xs) j (t + 1) - PS (rowF Xs) (j + 1) (t + 1) by rw [eXj, eXj']; omega]
            rw [eY]
            have sU : Same H2 (upd H9 hl (.lst ((heldY D (rowF Xs) t (j + 1)).map V.int))) := Same.put s29 nhl2
            have hU : (upd H9 hl (.lst ((heldY D (rowF Xs) t (j + 1)).map V.int))) hl = some (.lst ((heldY D (rowF Xs) t (j + 1)).map V.int)) := upd_same
            have bU : (upd H9 hl (.lst ((heldY D (rowF Xs) t (j + 1)).map V.int))) bf = some (.lst ((heldX D (rowF Xs) t).map V.int)) := by rw [upd_ne bfl]; exact hb9
            generalize upd H9 hl (.lst ((heldY D (rowF Xs) t (j + 1)).map V.int)) = HU at sU hU bU
            have eU : ((heldY D (rowF Xs) t (j + 1)).map V.int)[j]? = some (.int (PS (rowF Xs) j (t + 1) - PS (rowF Xs) (j + 1) (t + 1))) := by
              rw [List.getElem?_map, heldY_at hj, if_pos (Nat.lt_succ_self _)] <;> rfl
            refine ⟨_, rfl, _, rfl, hl, _, (j : Int), _, rfl, rfl, SqL.of hU, at_of rfl eU, _, rfl, ka, _, 0, _, rfl, rfl, Same.tup (s2.trans sU) hka0, at0, _, _, rfl, rfl, _, rfl, ?_⟩
            by_cases c7 : (kt D j).1 < PS (rowF Xs) j (t + 1) - PS (rowF Xs) (j + 1) (t + 1)
            · refine ite_bT (decide_eq_true c7) (no (pl := j) (by omega) ht (fun z => ?_) _ (s2.trans sU))
              have z := z.2.2 (by omega)
              omega
            refine ite_bF (decide_eq_false c7) ?_
            refine ⟨_, _, _, rfl, sU, hU, bU, fun pl lt => ?_⟩
            by_cases cj : pl < j
            · exact ok pl cj
            obtain rfl : pl = j := by omega
            exact ⟨by omega, fun z => by omega, by omega⟩
        · rintro σ H8 ⟨v12, v13, v14, rfl, s8, hh8, hb8, ok⟩
          rw [List.length_map, hD.len] at hh8 ok
          refine ⟨_, _, _, _, _, _, _, rfl, s8, by rw [← heldY_all]; exact hh8, rfl, fun pl t' hp lt => ?_⟩
          by_cases ct : t' < t
          · exact done pl t' hp ct
          obtain rfl : t' = t := by omega
          by_cases cK : pl = D.ks.length
          · subst cK
            refine ⟨?_, ?_, fun z => absurd z (Nat.lt_irrefl _)⟩
            · rw [if_neg (by omega), show D.ks.length - 1 = kn by omega]
              rw [← ekn] at c2
              omega
            · rw [if_pos rfl]
              omega
          · obtain ⟨o1, o2, o3⟩ := ok pl (by omega)
            refine ⟨?_, ?_, fun _ => o3⟩
            · by_cases c0 : pl = 0
              · rw [if_pos c0, c0]
                omega
              · rw [if_neg c0]
                exact o2 (by omega)
            · rw [if_neg cK]
              exact o1
      · rintro σ H5 ⟨wt, v9, v10, v11, v12, v13, v14, rfl, s5, h5, rfl, done⟩
        rw [List.length_map] at done
        exact q true _ ⟨fun _ => (isPlan_iff PO).mpr fun pl t hp ht => done pl t hp ht, fun _ => rfl⟩ (s2.trans s5)

end
end KR
namespace KR
open PySem PySem.Spec PyProof.Rows L2
section
variable {P : Program} {w : World} {K : PySem.W.Frag} {mg : Str → Option Value} {base : Heap}
def sp_l_bent (K : PySem.W.Frag) (k : Nat) : Sp := fun vs H Q _ => ∃ (p : Addr) (Av : Addr → Prop) (nb dp n B W : Nat) (v : V) (d : PyData), vs = [.ref p, v, .int (dp : Int)] ∧ Av p ∧ (∀ a, Av a → ∃ o, H a = some o) ∧ BoxAt H p nb ∧ nb + 10 * (dp + 1) ≤ 999000000 ∧ Tg K Av H B n v d ∧ 1000001 ≤ B ∧ B ≤ 2000000 ∧ PyData.weight d ≤ W ∧ W ≤ 32000 ∧ dp + 2 ≤ k ∧ dp ≤ 10 ∧
  ∀ (v' : V) (d' : PyData) (H' : Hp), BoxAt H' p (nb + 5 * (dp + 1)) → Fr p H H' → Tg K Av H' (B + 1) (n + 1) v' d' → PyData.weight d' ≤ 3 * W + 200 → Q v' H'
theorem ixN_at' {n i : Nat} (h : i < n) : ixN n (i : Int) = some i := by
  unfold ixN
  rw [if_pos (by omega), if_pos (by omega), Int.toNat_natCast]
theorem none_l_bent {f : Addr} {fd : FuncData} {k : Nat} (hk : k < 2) : FnOk P w K mg base CX0 k f fd ["_law_box_here", "_law_thing", "_law_deep"] (sp_l_bent K k) := by
  have no : ∀ vs H Q E, ¬ sp_l_bent K k vs H Q E := fun vs H Q E h => by
    obtain ⟨p, Av, nb, dp, n, B, W, v, d, _, _, _, _, _, _, _, _, _, _, h, _⟩ := h
    omega
  exact ⟨fun vs H Q E h => absurd h (no vs H Q E), fun A outer s H args us vs Q E _ _ _ _ h => absurd h (no vs H Q E)⟩
theorem step_l_bent (T : All K mg) {k : Nat} (hk : 1 ≤ k) (ih : FnOk P w K mg base CX0 k T.f_l_bent T.fd_l_bent ["_law_box_here", "_law_thing", "_law_deep"] (sp_l_bent K k)) : FnOk P w K mg base CX0 (k + 1) T.f_l_bent T.fd_l_bent ["_law_box_here", "_law_thing", "_law_deep"] (sp_l_bent K (k + 1)) := by
  refine T.d_l_bent.fn.ok sc_l_bent (fun vs H Q E h => ?_) (fun cdv A outer s H vs Q E hr h => ?_)
  · obtain ⟨p, Av, nb, dp, n, B, W, v, d, rfl, _⟩ := h
    rfl
  · obtain ⟨p, Av, nb, dp, n, B, W, v, d, rfl, hAp, hAv, hB, hnb, hT, B1, B2, hw, hW, hdp, dp10, q⟩ := h
    refine ⟨_, (pss_cons (ps_if (pt_not (pt_val (pe_callB (isiTK (K := K) rfl) (by rfl) T.b_isinstance (by decide +kernel) (pa_cons (pv 1) (pa_cons (pe_tupI (pa_cons (pe_bltn (v := .ty "list") (by rfl) T.b_list (by decide +kernel) rfl) (pa_cons (pe_bltn (v := .ty "tuple") (by rfl) T.b_tuple (by decide +kernel) rfl) pa_nil))) pa_nil))))) (pss_cons (ps_set (i := 3) sc_l_bent.nd rfl (by first | exact Or.inl rfl | exact Or.inr rfl) (pe_lstI (pa_cons pe_int (pa_cons pe_bl (pa_cons pe_non (pa_cons pe_str (pa_cons (pe_lstI (pa_cons (pv 1) pa_nil)) (pa_cons (pe_tupI (pa_cons (pv 1) pa_nil)) (pa_cons (pe_un un_neg pe_int) (pa_cons (pe_op op_pow pe_int pe_int) (pa_cons (pe_op op_add (pe_op op_pow pe_int pe_int) pe_int) (pa_cons pe_int pa_nil))))))))))))
      (pss_cons (ps_J (ps_if (pt_val (pe_callB (isiK (K := K) rfl) (by rfl) T.b_isinstance (by decide +kernel) (pa_cons (pv 1) (pa_cons (pe_bltn (v := .ty "int") (by rfl) T.b_int (by decide +kernel) rfl) pa_nil)))) (pss_one (ps_asg (pe_lstI (pa_cons (pe_op op_addNb (pv 1) pe_int) (pa_cons (pe_op op_subNb (pv 1) pe_int) (pa_cons (pe_cmpR (eqDK (K := K) rfl hr.units) (pv 1) pe_int (nomark _)) pa_nil)))) (pg_slS (pv 3) pe_int pe_int))) pss_nil))
      (pss_one (ps_ret (pe_ix (ixL (K := K) rfl) (pv 3) (pe_call (ok_l_take T) (hr.mono (by omega)) (by rfl) T.d_l_take.mg T.d_l_take.fn.kp T.d_l_take.b .nil pass0 (pa_cons (pv 0) (pa_cons pe_int pa_nil))) (fun _ _ => rfl)))))) pss_nil)
      (pss_cons (ps_par3 (i := 4) (j := 5) (l := 6) (by rfl) sc_l_bent.nd rfl rfl rfl (by decide) (by decide) (by decide) rfl rfl rfl (pa_cons (pe_callTy (listI (K := K) rfl) (by rfl) T.b_list (by decide +kernel) (pa_cons (pv 1) pa_nil)) (pa_cons (pe_call (ok_l_take T) (hr.mono (by omega)) (by rfl) T.d_l_take.mg T.d_l_take.fn.kp T.d_l_take.b .nil pass0 (pa_cons (pv 0) (pa_cons (pe_op op_add (pe_callB (lenA (K := K) rfl) (by rfl) T.b_len PySem.boot_len (pa_cons (pv 1) pa_nil)) pe_int) pa_nil))) (pa_cons (pe_call (ok_l_take T) (hr.mono (by omega)) (by rfl) T.d_l_take.mg T.d_l_take.fn.kp T.d_l_take.b .nil pass0 (pa_cons (pv 0) (pa_cons pe_int pa_nil))) pa_nil))) (by rfl))
      (pss_cons (ps_J (ps_if (PW.pt (pw_and (pt_cmpR op_gt (pv 2) pe_int (nomark _)) (pw_and (pt_cmpR op_lt (pv 5) (pe_callB (lenQ (K := K) rfl) (by rfl) T.b_len PySem.boot_len (pa_cons (pv 4) pa_nil)) (nomark _)) (pw_and1 (pt_cmpR op_gt (pe_call (ok_l_take T) (hr.mono (by omega)) (by rfl) T.d_l_take.mg T.d_l_take.fn.kp T.d_l_take.b .nil pass0 (pa_cons (pv 0) (pa_cons pe_int pa_nil))) pe_int (nomark _)))))) (pss_one (ps_asg (pe_call ih hr (by rfl) T.d_l_bent.mg T.d_l_bent.fn.kp T.d_l_bent.b .nil pass0 (pa_cons (pv 0) (pa_cons (pe_ix (ixL (K := K) rfl) (pv 4) (pv 5) (fun _ _ => rfl)) (pa_cons (pe_op op_sub (pv 2) pe_int) pa_nil)))) (pg_sub (pv 4) (pv 5) set_list))) (pss_one (ps_if (pt_cmpR op_eq (pv 6) pe_int (nomark _)) (pss_one (ps_set (i := 4) sc_l_bent.nd rfl (by first | exact Or.inl rfl | exact Or.inr rfl) (pe_op op_catI (pe_slice (slL (K := K) rfl) (pv 4) po_none (po_some (pv 5))) (pe_slice (slL (K := K) rfl) (pv 4) (po_some (pe_op op_add (pv 5) pe_int)) po_none)))) (pss_one (ps_if (pt_cmpR op_eq (pv 6) pe_int (nomark _)) (pss_one (ps_set (i := 4) sc_l_bent.nd rfl (by first | exact Or.inl rfl | exact Or.inr rfl) (pe_op op_catI (pe_op op_catI (pe_slice (slL (K := K) rfl) (pv 4) po_none (po_some (pv 5))) (pe_slice (slL (K := K) rfl) (pv 4) (po_some (pv 5)) (po_some (pe_op op_add (pv 5) pe_int)))) (pe_slice (slL (K := K) rfl) (pv 4) (po_some (pv 5)) po_none)))) (pss_one (ps_if (pt_cmpR op_eq (pv 6) pe_int (nomark _)) (pss_one (ps_set (i := 4) sc_l_bent.nd rfl (by first | exact Or.inl rfl | exact Or.inr rfl) (pe_op op_catI (pe_op op_catI (pe_slice (slL (K := K) rfl) (pv 4) po_none (po_some (pv 5))) (pe_revL (pe_slice (slL (K := K) rfl) (pv 4) (po_some (pv 5)) (po_some (pe_op op_add (pv 5) pe_int))))) (pe_slice (slL (K := K) rfl) (pv 4) (po_some (pe_op op_add (pv 5) pe_int)) po_none)))) (pss_one (ps_if (pt_cmpR op_eq (pv 6) pe_int (nomark _)) (pss_one (ps_expr (pe_bm PySem.F.plainAttrs_list PySem.F.slot_list_insert PySem.F.type_list_insert mt_insert (pv 4) (pa_cons (pv 5) (pa_cons (pe_ix (ixL (K := K) rfl) (pe_lstI (pa_cons pe_int (pa_cons pe_non (pa_cons (pe_tupI pa_nil) (pa_cons (pe_lstI pa_nil) (pa_cons pe_bl (pa_cons pe_str pa_nil))))))) (pe_call (ok_l_take T) (hr.mono (by omega)) (by rfl) T.d_l_take.mg T.d_l_take.fn.kp T.d_l_take.b .nil pass0 (pa_cons (pv 0) (pa_cons pe_int pa_nil))) (fun _ _ => rfl)) pa_nil))))) (pss_one (ps_if (pt_cmpR op_eq (pv 6) pe_int (nomark _)) (pss_one (ps_ret (pe_ifExp (pt_val (pe_callB (isiK (K := K) rfl) (by rfl) T.b_isinstance (by decide +kernel) (pa_cons (pv 1) (pa_cons (pe_bltn (v := .ty "tuple") (by rfl) T.b_tuple (by decide +kernel) rfl) pa_nil)))) (pv 4) (pe_callTy (tupJ (K := K) rfl) (by rfl) T.b_tuple (by decide +kernel) (pa_cons (pv 4) pa_nil))))) (pss_one (ps_if (pt_cmpR op_eq (pv 6) pe_int (nomark _)) (pss_one (ps_expr (pe_bm0 PySem.F.plainAttrs_list PySem.F.slot_list_reverse PySem.F.type_list_reverse mt_reverse (pv 4)))) (pss_one (ps_set (i := 4) sc_l_bent.nd rfl (by first | exact Or.inl rfl | exact Or.inr rfl) (pe_ix (ixL (K := K) rfl) (pe_lstI (pa_cons (pe_slice (slL (K := K) rfl) (pv 4) po_none (po_some (pv 5))) (pa_cons (pe_op op_catI (pv 4) (pv 4)) pa_nil))) (pe_op op_sub (pv 6) pe_int) (fun _ _ => rfl))))))))))))))))))
      (pss_one (ps_ret (pe_ifExp (pt_val (pe_callB (isiK (K := K) rfl) (by rfl) T.b_isinstance (by decide +kernel) (pa_cons (pv 1) (pa_cons (pe_bltn (v := .ty "tuple") (by rfl) T.b_tuple (by decide +kernel) rfl) pa_nil)))) (pe_callTy (tupJ (K := K) rfl) (by rfl) T.b_tuple (by decide +kernel) (pa_cons (pv 4) pa_nil)) (pv 4))))))), ?_⟩
    refine ⟨_, rfl, rfl, fun tp H1 s1 htp htp2 => ?_⟩
    have hB1 := hB.same s1
    have hT1 := hT.same s1
    have avo : ∀ {Ha : Hp} {b : Addr}, Fr p H Ha → Ha b = none → b ≠ p → ¬ Av b := fun {Ha b} F nb bp z => by
      obtain ⟨o, ho⟩ := hAv _ z
      rw [F _ _ bp ho] at nb
      cases nb
    rcases hT1.look hAp (by omega) with ⟨t, bi, ty, kl, kt, ki, num⟩ | ⟨t, bl, bt, a, xs, ds, m, rfl, rfl, ty, kl, kt, kk, sq, tg, ew⟩
    · refine ⟨_, tp, _, _, [.type "list", .type "tuple"], false, rfl, htp2, .cons (.ty _) (.cons (.ty _) .nil), ty H1, kitAny_cons (kit_ty kl) (fun _ => kitAny_cons (kit_ty kt) (fun _ => rfl) (fun z => nomatch z)) (fun z => nomatch z), false, rfl, iteT ?_⟩
      refine ⟨_, rfl, rfl, fun l1 H2 s2 n2 h2 => ?_⟩
      refine ⟨_, rfl, rfl, fun u1 H3 s3 n3 h3 => ?_⟩
      refine ⟨_, rfl, _, _, rfl, rfl, ⟨by decide, by decide, by decide⟩, _, _, rfl, rfl, ⟨by decide, by decide, by decide⟩, _, _, rfl, rfl, rfl, fun ls H4 s4 n4 h4 => ?_⟩
      have s24 := s3.trans s4
      have s14 := s2.trans s24
      have hT3 := hT1.same (s2.trans s3)
      have hT4 := hT1.same s14
      have l1p : l1 ≠ p := hB1.new n2
      have lsp : ls ≠ p := ((hB1.same s2).same s3).new n4
      have tgl : Tg K Av H3 (B + 1) (n + 1) (.ref l1) (.list [d]) := .lst (s3 _ _ h2) (avo (.of s1) n2 l1p) rfl (TgAll.cons (hT3.up (by omega) (Nat.le_refl _)) .nil).2
      have tgt : Tg K Av H3 (B + 1) (n + 1) (.ref u1) (.tuple [d]) := .tup (SqT.of h3) rfl (TgAll.cons (hT3.up (by omega) (Nat.le_refl _)) .nil).2
      have rest3 : TgAll K Av H3 (B + 1) (n + 1) [.str "1", .ref l1, .ref u1, .int (-1), .int (10 ^ 6), .int (10 ^ 6 + 1), .int 1] [.str "1", .list [d], .tuple [d], .int (-1), .int (10 ^ 6), .int (10 ^ 6 + 1), .int 1] :=
        .cons (.str _ _ 0 (by decide +kernel) (by decide +kernel)) (.cons tgl (.cons tgt (.cons (.int _ _ (by show 1 ≤ B + 1; omega)) (.cons (.int _ _ (by show 1000000 ≤ B + 1; omega)) (.cons (.int _ _ (by show 1000001 ≤ B + 1; omega)) (.cons (.int _ _ (by show 1 ≤ B + 1; omega)) .nil))))))
      have rest := rest3.same s4
      have wrest : ∀ e ∈ ([.str "1", .list [d], .tuple [d], .int (-1), .int (10 ^ 6), .int (10 ^ 6 + 1), .int 1] : List PyData), PyData.weight e ≤ W + 200 := fun e he => by
        simp only [List.mem_cons, List.not_mem_nil, or_false] at he
        rcases he with e1 | e1 | e1 | e1 | e1 | e1 | e1 <;> rw [e1]
        · show 1 ≤ W + 200; omega
        · show PyData.weight d + 1 + 0 ≤ W + 200; omega
        · show PyData.weight d + 1 + 0 ≤ W + 200; omega
        · exact Nat.le_trans (wt_int (by decide)) (by omega)
        · exact Nat.le_trans (wt_int (by decide)) (by omega)
        · exact Nat.le_trans (wt_int (by decide)) (by omega)
        · exact Nat.le_trans (wt_int (by decide)) (by omega)
      refine ⟨fun σ' H' => ∃ (ss : List V) (es : List PyData), σ' = [some (.ref p), some v, some (.int (dp : Int)), some (.ref ls), none, none, none] ∧ Same H1 H' ∧ H' ls = some (.lst ss) ∧ TgAll K Av H' (B + 1) (n + 1) ss es ∧ ss.length = 10 ∧ ∀ e ∈ es, PyData.weight e ≤ W + 200, ?_, ?_⟩
      · rintro σ' H5 ⟨ss, es, rfl, s5, hls, tg, l10, wt⟩
        refine ⟨_, rfl, _, rfl, p, 10, nb, rfl, hB1.same s5, by omega, by decide, by decide, fun z H6 z0 z1 B6 F6 => ?_⟩
        obtain ⟨zi, rfl⟩ : ∃ zi : Nat, z = (zi : Int) := ⟨z.toNat, by omega⟩
        obtain ⟨x, e, ex, ee, tx⟩ := tg.at_ (i := zi) (by omega)
        refine ⟨ls, _, (zi : Int), x, rfl, rfl, SqL.of (F6 _ _ lsp hls), at_of rfl ex, ?_⟩
        exact q x e H6 (B6.mono (by omega)) ((Fr.of (s1.trans s5)).trans F6) (tx.fr hAp (hB1.same s5) F6) (by have := wt e (List.mem_of_getElem? ee); omega)
      · refine ⟨_, rfl, _, _, _, _, _, rfl, .ty _, ty H4, kit_ty ki, ?_⟩
        cases bi with
        | false =>
          refine ⟨_, rfl, iteF ?_⟩
          refine ⟨_, _, rfl, s14, h4, .cons (.int _ _ (Nat.zero_le _)) (.cons (.bl _ _) (.cons (.non _) rest)), rfl, fun e he => ?_⟩
          simp only [List.mem_cons] at he
          rcases he with e1 | e1 | e1 | he
          · rw [e1]; exact Nat.zero_le _
          · rw [e1]; exact Nat.zero_le _
          · rw [e1]; exact Nat.zero_le _
          · exact wrest e (by simpa using he)
        | true =>
          obtain ⟨⟨i, hi, ib⟩, sh⟩ := num rfl
          refine ⟨_, rfl, iteT ?_⟩
          refine ⟨_, rfl, i, _, hi, rfl, _, rfl, i, _, hi, rfl, _, rfl, d, .int 1, hT4.dp, .int _, sh, rfl, rfl, fun l3 H5 s5 n5 h5 => ?_⟩
          have hls5 := s5 _ _ h4
          have ls3 : ls ≠ l3 := ne_of_none h4 n5
          refine ⟨_, rfl, ls, l3, _, _, 0, 3, rfl, rfl, rfl, rfl, hls5, h5, ls3, by decide, by decide, by show (3 : Int) ≤ 10; decide, by show 10 + 3 ≤ _; rw [sizeLine_eq]; decide, ?_⟩
          have nls : H1 ls = none := same_none' (s2.trans s3) n4
          have i1 : (i + 1).natAbs ≤ B + 1 := by omega
          have i2 : (i - 1).natAbs ≤ B + 1 := by omega
          refine ⟨_, _, rfl, Same.put (s14.trans s5) nls, upd_same, .cons (.int _ _ i1) (.cons (.int _ _ i2) (.cons (.bl _ _) (rest3.same (Same.put (s4.trans s5) n4)))), rfl, fun e he => ?_⟩
          simp only [List.mem_cons] at he
          rcases he with e1 | e1 | e1 | he
          · rw [e1]; exact Nat.le_trans (wt_int (by omega)) (by omega)
          · rw [e1]; exact Nat.le_trans (wt_int (by omega)) (by omega)
          · rw [e1]; exact Nat.zero_le _
          · exact wrest e (by simpa using he)
    · refine ⟨_, tp, _, _, [.type "list", .type "tuple"], true, rfl, htp2, .cons (.ty _) (.cons (.ty _) .nil), ty H1 nb hB1 Fr.refl, kitAny_cons (kit_ty kl) (fun z => kitAny_cons (kit_ty kt) (fun y => nomatch (kk z).symm.trans y) (fun _ => rfl)) (fun _ => rfl), true, rfl, iteF ?_⟩
      have hlv : LenV K (.ref a) H1 xs.length := sq.elim (fun h => .inl ⟨_, h, rfl⟩) fun h => .inr ⟨_, h, rfl⟩
      refine ⟨_, rfl, a, xs, rfl, sq, fun r0 H2 s2 n2 h2 => ?_⟩
      have hB2 := hB1.same s2
      have r0p : r0 ≠ p := hB1.new n2
      have r0a : ¬ Av r0 := avo (.of s1) n2 r0p
      have avn : ∀ {Ha : Hp} {b : Addr}, Fr p H1 Ha → Ha b = none → b ≠ p → ¬ Av b := fun {Ha b} F nb bp => avo ((Fr.of s1).trans F) nb bp
      have hlv2 : LenV K (.ref a) H2 xs.length := sq.elim (fun h => .inl ⟨_, Same.seq s2 h, rfl⟩) fun h => .inr ⟨_, Same.tup s2 h, rfl⟩
      have xl : xs.length ≤ 50000 := by
        rw [tg.1]
        have wl : ∀ l : List PyData, l.length ≤ PyData.weightAll l := fun l => by
          induction l with
          | nil => exact Nat.le_refl _
          | cons y l ih =>
            show l.length + 1 ≤ PyData.weight y + 1 + PyData.weightAll l
            omega
        have := wl ds
        omega
      refine ⟨_, rfl, _, rfl, _, _, rfl, hlv2, _, _, rfl, rfl, p, _, nb, rfl, hB2, by omega, by omega, by omega, fun at_ H3 a0 a1 B3 F3 => ?_⟩
      refine ⟨_, rfl, p, 8, nb + 1, rfl, B3, by omega, by decide, by decide, fun way H4 w0 w1 B4 F4 => ⟨_, _, _, rfl, ?_⟩⟩
      obtain ⟨k', rfl⟩ : ∃ k' : Nat, at_ = (k' : Int) := ⟨at_.toNat, by omega⟩
      have hr4 := F4 _ _ r0p (F3 _ _ r0p h2)
      have F14 : Fr p H1 H4 := (Fr.of s2).trans (F3.trans F4)
      have wx : PyData.weightAll ds ≤ W := by rw [← ew]; exact hw
      refine ⟨fun σ' H' => ∃ (ro : Addr) (ys : List V) (es : List PyData), σ' = [some (.ref p), some (.ref a), some (.int (dp : Int)), none, some (.ref ro), some (.int (k' : Int)), some (.int way)] ∧ BoxAt H' p (nb + 5 * (dp + 1)) ∧ Fr p H1 H' ∧ H' ro = some (.lst ys) ∧ ¬ Av ro ∧ TgAll K Av H' (B + 1) (m + 1) ys es ∧ PyData.weightAll es ≤ 3 * W + 200, ?_, ?_⟩
      · rintro σ' H5 ⟨ro, ys, es, rfl, B5, F5, hro, rop, tg5, w5⟩
        have FH : Fr p H H5 := (Fr.of s1).trans F5
        have tl : Tg K Av H5 (B + 1) (m + 1 + 1) (.ref ro) (.list es) := .lst hro rop tg5.1 tg5.2
        refine ⟨_, rfl, _, _, _, _, _, rfl, .ty _, ty H5 nb hB1 F5, kit_ty kt, ?_⟩
        cases bt with
        | true =>
          refine ⟨_, rfl, iteT ?_⟩
          refine ⟨_, rfl, ro, _, rfl, .inl ⟨SqL.of hro, fun tn H6 s6 n6 h6 => ?_⟩⟩
          exact q _ (.tuple es) H6 (B5.same s6) (FH.trans (.of s6)) (.tup (SqT.of h6) tg5.1 (tg5.same s6).2) w5
        | false =>
          refine ⟨_, rfl, iteF ⟨_, rfl, ?_⟩⟩
          exact q _ (.list es) H5 B5 FH tl w5
      · refine ⟨_, rfl, _, _, rfl, rfl, _, rfl, ?_⟩
        by_cases cd : 0 < dp
        · refine ite_bT (decide_eq_true (by omega)) ?_
          refine ⟨_, rfl, _, rfl, r0, _, rfl, .inl (SqL.of hr4), _, _, rfl, rfl, _, rfl, ?_⟩
          by_cases ca : k' < xs.length
          · refine ite_bT (decide_eq_true (by omega)) ?_
            refine ⟨_, rfl, p, 4, _, rfl, B4, by omega, by decide, by decide, fun z Hq z0 z1 Bq F5q => ?_⟩
            refine ⟨_, _, rfl, rfl, _, rfl, ?_⟩
            have Fq : Fr p H1 Hq := F14.trans F5q
            have hrq := F5q _ _ r0p hr4
            have tgx := TgAll.fr hAp tg hB1 Fq
            by_cases cz : 0 < z
            · refine ite_bT (decide_eq_true cz) ?_
              let Av' : Addr → Prop := fun a => Av a ∨ a = r0
              have hAp' : Av' p := .inl hAp
              have hAv' : ∀ a, Av' a → ∃ o, Hq a = some o := fun a z => by
                rcases z with z | z
                · by_cases c : a = p
                  · rw [c]
                    exact Bq.some
                  · obtain ⟨o, ho⟩ := hAv a z
                    exact ⟨o, Fq _ _ c (s1 _ _ ho)⟩
                · rw [z]
                  exact ⟨_, hrq⟩
              have tga : TgAll K Av' H1 B m xs ds := ⟨tg.1, fun i x d e1 e2 => (tg.2 i x d e1 e2).avoid n2⟩
              obtain ⟨x, e, ex, ee, tx⟩ := (TgAll.fr hAp' tga hB1 Fq).at_ ca
              have we := wa_at ee
              refine ⟨_, rfl, _, rfl, _, rfl, r0, _, (k' : Int), x, rfl, rfl, SqL.of hrq, at_of rfl ex, _, rfl, _, _, rfl, rfl, ?_⟩
              refine ⟨p, Av', nb + 2 + 1, dp - 1, m, B, PyData.weight e, x, e, by show [V.ref p, x, V.int ((dp : Int) - 1)] = _; rw [show (dp : Int) - 1 = ((dp - 1 : Nat) : Int) by omega], hAp', hAv', Bq, by omega, tx, B1, B2, Nat.le_refl _, by omega, by omega, by omega, fun v' d' H6 B6 F6 t6 w6 => ?_⟩
              have hr6 := F6 _ _ r0p hrq
              refine ⟨_, rfl, _, rfl, r0, _, (k' : Int), k', rfl, rfl, hr6, ixN_at' ca, ?_⟩
              have F16 : Fr p H1 H6 := Fq.trans F6
              have Fu := F16.put' (o := .lst (xs.set k' v')) n2
              have tgu := (TgAll.fr hAp tg hB1 Fu).up (B' := B + 1) (m := m + 1) (by omega) (by omega)
              have ws := wa_set (e := d') ee
              have tv : Tg K Av (upd H6 r0 (.lst (xs.set k' v'))) (B + 1) (m + 1) v' d' := (t6.wr (r := r0) (.inr rfl) hr6).less fun a h => .inl h
              exact ⟨r0, _, ds.set k' d', rfl, (B6.upd r0p).mono (by omega), Fu, upd_same, r0a, tgu.set tv, by omega⟩
            · refine ite_bF (decide_eq_false cz) ?_
              refine ⟨_, rfl, rfl, _, rfl, ?_⟩
              by_cases c0 : way = 0
              · refine ite_bT (decide_eq_true (by rw [c0])) ?_
                refine ⟨_, rfl, _, rfl, _, rfl, r0, _, rfl, SqL.of hrq, fun c1 G1 t1 o1 y1 => ?_⟩
                refine ⟨_, rfl, _, rfl, _, _, rfl, rfl, _, rfl, r0, _, rfl, SqL.of (t1 _ _ hrq), fun c2 G2 t2 o2 y2 => ?_⟩
                refine ⟨c1, c2, _, _, rfl, rfl, t2 _ _ y1, y2, ?_, fun ro G3 t3 o3 y3 => ?_⟩
                · have e1 := cutV_length xs none (some (k' : Int))
                  have e2 := cutV_length xs (some ((k' : Int) + 1)) none
                  rw [sizeLine_eq]
                  omega
                have tG := tgx.same (t1.trans (t2.trans t3))
                obtain ⟨e1, g1, w1'⟩ := tG.cut none (some (k' : Int))
                obtain ⟨e2, g2, w2'⟩ := tG.cut (some ((k' : Int) + 1)) none
                exact ⟨ro, _, _, rfl, ((((Bq.same t1).same t2).same t3).mono (by omega)), Fq.trans (.of (t1.trans (t2.trans t3))), y3, avn (Fq.trans (.of (t1.trans t2))) o3 (((Bq.same t1).same t2).new o3), (g1.app g2).up (by omega) (by omega), by rw [wa_app]; omega⟩
              refine ite_bF (decide_eq_false fun e => c0 (by injection e)) ?_
              refine ⟨_, rfl, rfl, _, rfl, ?_⟩
              by_cases c1' : way = 1
              · refine ite_bT (decide_eq_true (by rw [c1'])) ?_
                refine ⟨_, rfl, _, rfl, _, rfl, r0, _, rfl, SqL.of hrq, fun c1 G1 t1 o1 y1 => ?_⟩
                refine ⟨_, rfl, _, rfl, _, rfl, _, rfl, _, _, rfl, rfl, _, rfl, r0, _, rfl, SqL.of (t1 _ _ hrq), fun c2 G2 t2 o2 y2 => ?_⟩
                refine ⟨c1, c2, _, _, rfl, rfl, t2 _ _ y1, y2, ?_, fun c3 G3 t3 o3 y3 => ?_⟩
                · have e1 := cutV_length xs none (some (k' : Int))
                  have e2 := cutV_length xs (some (k' : Int)) (some ((k' : Int) + 1))
                  rw [sizeLine_eq]
                  omega
                refine ⟨_, rfl, _, rfl, _, rfl, r0, _, rfl, SqL.of ((t1.trans (t2.trans t3)) _ _ hrq), fun c4 G4 t4 o4 y4 => ?_⟩
                refine ⟨c3, c4, _, _, rfl, rfl, t4 _ _ y3, y4, ?_, fun ro G5 t5 o5 y5 => ?_⟩
                · have e1 := cutV_length xs none (some (k' : Int))
                  have e2 := cutV_length xs (some (k' : Int)) (some ((k' : Int) + 1))
                  have e3 := cutV_length xs (some (k' : Int)) none
                  rw [sizeLine_eq, List.length_append]
                  omega
                have t15 := t1.trans (t2.trans (t3.trans (t4.trans t5)))
                have tG := tgx.same t15
                obtain ⟨e1, g1, w1'⟩ := tG.cut none (some (k' : Int))
                obtain ⟨e2, g2, w2'⟩ := tG.cut (some (k' : Int)) (some ((k' : Int) + 1))
                obtain ⟨e3, g3, w3'⟩ := tG.cut (some (k' : Int)) none
                exact ⟨ro, _, _, rfl, (Bq.same t15).mono (by omega), Fq.trans (.of t15), y5, avn (Fq.trans (.of (t1.trans (t2.trans (t3.trans t4))))) o5 ((Bq.same (t1.trans (t2.trans (t3.trans t4)))).new o5), ((g1.app g2).app g3).up (by omega) (by omega), by rw [wa_app, wa_app]; omega⟩
              refine ite_bF (decide_eq_false fun e => c1' (by injection e)) ?_
              refine ⟨_, rfl, rfl, _, rfl, ?_⟩
              by_cases c2' : way = 2
              · refine ite_bT (decide_eq_true (by rw [c2'])) ?_
                refine ⟨_, rfl, _, rfl, _, rfl, r0, _, rfl, SqL.of hrq, fun c1 G1 t1 o1 y1 => ?_⟩
                refine ⟨_, rfl, _, rfl, _, rfl, _, rfl, _, _, rfl, rfl, _, rfl, r0, _, rfl, SqL.of (t1 _ _ hrq), fun c2 G2 t2 o2 y2 => ⟨c2, _, rfl, SqL.of y2, fun c3 nc3 => ?_⟩⟩
                have t3 : Same G2 (upd G2 c3 (.lst (cutV xs (some (k' : Int)) (some ((k' : Int) + 2))).reverse)) := same_new nc3
                have y3 : (upd G2 c3 (.lst (cutV xs (some (k' : Int)) (some ((k' : Int) + 2))).reverse)) c3 = some (.lst (cutV xs (some (k' : Int)) (some ((k' : Int) + 2))).reverse) := upd_same
                generalize upd G2 c3 (.lst (cutV xs (some (k' : Int)) (some ((k' : Int) + 2))).reverse) = G3 at t3 y3
                refine ⟨c1, c3, _, _, rfl, rfl, (t2.trans t3) _ _ y1, y3, ?_, fun c4 G4 t4 o4 y4 => ?_⟩
                · have e1 := cutV_length xs none (some (k' : Int))
                  have e2 := cutV_length xs (some (k' : Int)) (some ((k' : Int) + 2))
                  rw [sizeLine_eq, List.length_reverse]
                  omega
                have t14 := t1.trans (t2.trans (t3.trans t4))
                refine ⟨_, rfl, _, rfl, _, _, rfl, rfl, _, rfl, r0, _, rfl, SqL.of (t14 _ _ hrq), fun c5 G5 t5 o5 y5 => ?_⟩
                refine ⟨c4, c5, _, _, rfl, rfl, t5 _ _ y4, y5, ?_, fun ro G6 t6 o6 y6 => ?_⟩
                · have e1 := cutV_length xs none (some (k' : Int))
                  have e2 := cutV_length xs (some (k' : Int)) (some ((k' : Int) + 2))
                  have e3 := cutV_length xs (some ((k' : Int) + 2)) none
                  rw [sizeLine_eq, List.length_append, List.length_reverse]
                  omega
                have t16 := t14.trans (t5.trans t6)
                have tG := tgx.same t16
                obtain ⟨e1, g1, w1'⟩ := tG.cut none (some (k' : Int))
                obtain ⟨e2, g2, w2'⟩ := tG.cut (some (k' : Int)) (some ((k' : Int) + 2))
                obtain ⟨e3, g3, w3'⟩ := tG.cut (some ((k' : Int) + 2)) none
                exact ⟨ro, _, _, rfl, (Bq.same t16).mono (by omega), Fq.trans (.of t16), y6, avn (Fq.trans (.of (t14.trans t5))) o6 ((Bq.same (t14.trans t5)).new o6), ((g1.app g2.rev).app g3).up (by omega) (by omega), by rw [wa_app, wa_app, wa_rev]; omega⟩
              refine ite_bF (decide_eq_false fun e => c2' (by injection e)) ?_
              refine ⟨_, rfl, rfl, _, rfl, ?_⟩
              by_cases c3' : way = 3
              · refine ite_bT (decide_eq_true (by rw [c3'])) ?_
                refine ⟨_, rfl, .inl ⟨rfl, _, SqL.of hrq⟩, _, rfl, rfl, fun e1 G1 t1 o1 y1 => ⟨rfl, fun e2 G2 t2 o2 y2 => ⟨rfl, fun l1 G3 t3 o3 y3 => ?_⟩⟩⟩
                have t13 := t1.trans (t2.trans t3)
                have e2p : e2 ≠ p := (Bq.same t1).new o2; have e2a : ¬ Av e2 := avn (Fq.trans (.of t1)) o2 e2p
                have l1p : l1 ≠ p := ((Bq.same t1).same t2).new o3
                refine ⟨_, rfl, p, 6, _, rfl, Bq.same t13, by omega, by decide, by decide, fun z G4 z0 z1 B5 F5 => ?_⟩
                have F15 : Fr p H1 G4 := (Fq.trans (.of t13)).trans F5
                have hr5 := F5 _ _ r0p (t13 _ _ hrq)
                obtain ⟨y, e, ey, ty', we⟩ : ∃ (y : V) (e : PyData), atI ([.int 0, .non, .ref e1, .ref e2, .bl true, .str "0"] : List V) z = some y ∧ (∀ Hz, SqT K Hz e1 [] → Hz e2 = some (.lst []) → Tg K Av Hz (B + 1) (m + 1) y e) ∧ PyData.weight e ≤ 1 := by
                  have cs : z = 0 ∨ z = 1 ∨ z = 2 ∨ z = 3 ∨ z = 4 ∨ z = 5 := by omega
                  rcases cs with c | c | c | c | c | c <;> subst c
                  · exact ⟨.int 0, .int 0, rfl, fun _ _ _ => .int _ _ (Nat.zero_le _), by decide⟩
                  · exact ⟨.non, .none, rfl, fun _ _ _ => .non _, by decide⟩
                  · exact ⟨.ref e1, .tuple [], rfl, fun Hz f1 _ => .tup f1 rfl fun i x d hx => by simp at hx, by decide⟩
                  · exact ⟨.ref e2, .list [], rfl, fun Hz _ f2 => .lst f2 e2a rfl fun i x d hx => by simp at hx, by decide⟩
                  · exact ⟨.bl true, .bool true, rfl, fun _ _ _ => .bl _ _, by decide⟩
                  · exact ⟨.str "0", .str "0", rfl, fun _ _ _ => .str _ _ 0 (by decide +kernel) (by decide +kernel), by decide +kernel⟩
                refine ⟨l1, _, z, y, rfl, rfl, SqL.of (F5 _ _ l1p y3), ey, r0, _, (k' : Int), y, rfl, rfl, hr5, by rw [sizeLine_eq]; omega, by omega, by omega, ?_⟩
                rw [Int.toNat_natCast]
                have Fu := F15.put' (o := .lst (xs.take k' ++ [y] ++ xs.drop k')) n2
                have tgu := (TgAll.fr hAp tg hB1 Fu).up (B' := B + 1) (m := m + 1) (by omega) (by omega)
                have q1 : SqT K (upd G4 r0 (.lst (xs.take k' ++ [y] ++ xs.drop k'))) e1 [] := sqT_frL (sqT_fr (SqT.of ((t2.trans t3) _ _ y1)) (Bq.same t13) F5) hr5 fr_upd
                have q2 : (upd G4 r0 (.lst (xs.take k' ++ [y] ++ xs.drop k'))) e2 = some (.lst []) := by
                  rw [upd_ne (ne_of_none (t1 _ _ hrq) o2).symm]
                  exact F5 _ _ e2p (t3 _ _ y2)
                refine ⟨r0, _, ds.take k' ++ [e] ++ ds.drop k', rfl, (B5.upd r0p).mono (by omega), Fu, upd_same, r0a, ((tgu.take k').app (.cons (ty' _ q1 q2) .nil)).app (tgu.drop k'), ?_⟩
                have wc := wa_cut ds k'
                rw [wa_app, wa_app]
                show _ + (PyData.weight e + 1 + 0) + _ ≤ _
                omega
              refine ite_bF (decide_eq_false fun e => c3' (by injection e)) ?_
              refine ⟨_, rfl, rfl, _, rfl, ?_⟩
              by_cases c4' : way = 4
              · refine ite_bT (decide_eq_true (by rw [c4'])) ?_
                refine ⟨_, rfl, _, _, _, _, _, rfl, .ty _, ty Hq nb hB1 Fq, kit_ty kt, ?_⟩
                have FH : Fr p H Hq := (Fr.of s1).trans Fq
                have tgu := tgx.up (B' := B + 1) (m := m + 1) (by omega) (by omega)
                cases bt with
                | true => exact ⟨_, rfl, iteT ⟨_, rfl, q _ (.list ds) Hq (Bq.mono (by omega)) FH (.lst hrq r0a tgu.1 tgu.2) (by show PyData.weightAll ds ≤ _; omega)⟩⟩
                | false => exact ⟨_, rfl, iteF ⟨_, rfl, r0, _, rfl, .inl ⟨SqL.of hrq, fun tn H6 s6 n6 h6 => q _ (.tuple ds) H6 ((Bq.same s6).mono (by omega)) (FH.trans (.of s6)) (.tup (SqT.of h6) tgu.1 (tgu.same s6).2) (by show PyData.weightAll ds ≤ _; omega)⟩⟩⟩
              refine ite_bF (decide_eq_false fun e => c4' (by injection e)) ?_
              refine ⟨_, rfl, rfl, _, rfl, ?_⟩
              by_cases c5' : way = 5
              · refine ite_bT (decide_eq_true (by rw [c5'])) ?_
                refine ⟨_, rfl, .inl ⟨rfl, _, SqL.of hrq⟩, r0, _, rfl, rfl, hrq, ?_⟩
                have Fu := Fq.put' (o := .lst xs.reverse) n2
                exact ⟨r0, _, ds.reverse, rfl, (Bq.upd r0p).mono (by omega), Fu, upd_same, r0a, ((TgAll.fr hAp tg hB1 Fu).rev).up (by omega) (by omega), by rw [wa_rev]; omega⟩
              refine ite_bF (decide_eq_false fun e => c5' (by injection e)) ?_
              refine ⟨_, rfl, _, rfl, _, rfl, r0, _, rfl, SqL.of hrq, fun c1 G1 t1 o1 y1 => ?_⟩
              refine ⟨_, rfl, _, rfl, r0, r0, _, _, rfl, rfl, t1 _ _ hrq, t1 _ _ hrq, by rw [sizeLine_eq]; omega, fun c2 G2 t2 o2 y2 => ⟨rfl, fun c3 G3 t3 o3 y3 => ?_⟩⟩
              have t13 := t1.trans (t2.trans t3)
              have tG := tgx.same t13
              obtain ⟨e1, g1, w1'⟩ := tG.cut none (some (k' : Int))
              have cs : way = 6 ∨ way = 7 := by omega
              rcases cs with c | c
              · refine ⟨_, rfl, _, _, rfl, rfl, c3, _, 0, .ref c1, rfl, by rw [c] <;> rfl, SqL.of y3, at0, ?_⟩
                exact ⟨c1, _, _, rfl, (Bq.same t13).mono (by omega), Fq.trans (.of t13), (t2.trans t3) _ _ y1, avn Fq o1 (Bq.new o1), g1.up (by omega) (by omega), by omega⟩
              · refine ⟨_, rfl, _, _, rfl, rfl, c3, _, 1, .ref c2, rfl, by rw [c] <;> rfl, SqL.of y3, at1, ?_⟩
                exact ⟨c2, _, _, rfl, (Bq.same t13).mono (by omega), Fq.trans (.of t13), t3 _ _ y2, avn (Fq.trans (.of t1)) o2 ((Bq.same t1).new o2), (tG.app tG).up (by omega) (by omega), by rw [wa_app]; omega⟩
          · refine ite_bF (decide_eq_false (by omega)) ?_
            have tgx := TgAll.fr hAp tg hB1 F14
            refine ⟨_, rfl, rfl, _, rfl, ?_⟩
            by_cases c0 : way = 0
            · refine ite_bT (decide_eq_true (by rw [c0])) ?_
              refine ⟨_, rfl, _, rfl, _, rfl, r0, _, rfl, SqL.of hr4, fun c1 G1 t1 o1 y1 => ?_⟩
              refine ⟨_, rfl, _, rfl, _, _, rfl, rfl, _, rfl, r0, _, rfl, SqL.of (t1 _ _ hr4), fun c2 G2 t2 o2 y2 => ?_⟩
              refine ⟨c1, c2, _, _, rfl, rfl, t2 _ _ y1, y2, ?_, fun ro G3 t3 o3 y3 => ?_⟩
              · have e1 := cutV_length xs none (some (k' : Int))
                have e2 := cutV_length xs (some ((k' : Int) + 1)) none
                rw [sizeLine_eq]
                omega
              have tG := tgx.same (t1.trans (t2.trans t3))
              obtain ⟨e1, g1, w1'⟩ := tG.cut none (some (k' : Int))
              obtain ⟨e2, g2, w2'⟩ := tG.cut (some ((k' : Int) + 1)) none
              exact ⟨ro, _, _, rfl, ((((B4.same t1).same t2).same t3).mono (by omega)), F14.trans (.of (t1.trans (t2.trans t3))), y3, avn (F14.trans (.of (t1.trans t2))) o3 (((B4.same t1).same t2).new o3), (g1.app g2).up (by omega) (by omega), by rw [wa_app]; omega⟩
            refine ite_bF (decide_eq_false fun e => c0 (by injection e)) ?_
            refine ⟨_, rfl, rfl, _, rfl, ?_⟩
            by_cases c1' : way = 1
            · refine ite_bT (decide_eq_true (by rw [c1'])) ?_
              refine ⟨_, rfl, _, rfl, _, rfl, r0, _, rfl, SqL.of hr4, fun c1 G1 t1 o1 y1 => ?_⟩
              refine ⟨_, rfl, _, rfl, _, rfl, _, rfl, _, _, rfl, rfl, _, rfl, r0, _, rfl, SqL.of (t1 _ _ hr4), fun c2 G2 t2 o2 y2 => ?_⟩
              refine ⟨c1, c2, _, _, rfl, rfl, t2 _ _ y1, y2, ?_, fun c3 G3 t3 o3 y3 => ?_⟩
              · have e1 := cutV_length xs none (some (k' : Int))
                have e2 := cutV_length xs (some (k' : Int)) (some ((k' : Int) + 1))
                rw [sizeLine_eq]
                omega
              refine ⟨_, rfl, _, rfl, _, rfl, r0, _, rfl, SqL.of ((t1.trans (t2.trans t3)) _ _ hr4), fun c4 G4 t4 o4 y4 => ?_⟩
              refine ⟨c3, c4, _, _, rfl, rfl, t4 _ _ y3, y4, ?_, fun ro G5 t5 o5 y5 => ?_⟩
              · have e1 := cutV_length xs none (some (k' : Int))
                have e2 := cutV_length xs (some (k' : Int)) (some ((k' : Int) + 1))
                have e3 := cutV_length xs (some (k' : Int)) none
                rw [sizeLine_eq, List.length_append]
                omega
              have t15 := t1.trans (t2.trans (t3.trans (t4.trans t5)))
              have tG := tgx.same t15
              obtain ⟨e1, g1, w1'⟩ := tG.cut none (some (k' : Int))
              obtain ⟨e2, g2, w2'⟩ := tG.cut (some (k' : Int)) (some ((k' : Int) + 1))
              obtain ⟨e3, g3, w3'⟩ := tG.cut (some (k' : Int)) none
              exact ⟨ro, _, _, rfl, (B4.same t15).mono (by omega), F14.trans (.of t15), y5, avn (F14.trans (.of (t1.trans (t2.trans (t3.trans t4))))) o5 ((B4.same (t1.trans (t2.trans (t3.trans t4)))).new o5), ((g1.app g2).app g3).up (by omega) (by omega), by rw [wa_app, wa_app]; omega⟩
            refine ite_bF (decide_eq_false fun e => c1' (by injection e)) ?_
            refine ⟨_, rfl, rfl, _, rfl, ?_⟩
            by_cases c2' : way = 2
            · refine ite_bT (decide_eq_true (by rw [c2'])) ?_
              refine ⟨_, rfl, _, rfl, _, rfl, r0, _, rfl, SqL.of hr4, fun c1 G1 t1 o1 y1 => ?_⟩
              refine ⟨_, rfl, _, rfl, _, rfl, _, rfl, _, _, rfl, rfl, _, rfl, r0, _, rfl, SqL.of (t1 _ _ hr4), fun c2 G2 t2 o2 y2 => ⟨c2, _, rfl, SqL.of y2, fun c3 nc3 => ?_⟩⟩
              have t3 : Same G2 (upd G2 c3 (.lst (cutV xs (some (k' : Int)) (some ((k' : Int) + 2))).reverse)) := same_new nc3
              have y3 : (upd G2 c3 (.lst (cutV xs (some (k' : Int)) (some ((k' : Int) + 2))).reverse)) c3 = some (.lst (cutV xs (some (k' : Int)) (some ((k' : Int) + 2))).reverse) := upd_same
              generalize upd G2 c3 (.lst (cutV xs (some (k' : Int)) (some ((k' : Int) + 2))).reverse) = G3 at t3 y3
              refine ⟨c1, c3, _, _, rfl, rfl, (t2.trans t3) _ _ y1, y3, ?_, fun c4 G4 t4 o4 y4 => ?_⟩
              · have e1 := cutV_length xs none (some (k' : Int))
                have e2 := cutV_length xs (some (k' : Int)) (some ((k' : Int) + 2))
                rw [sizeLine_eq, List.length_reverse]
                omega
              have t14 := t1.trans (t2.trans (t3.trans t4))
              refine ⟨_, rfl, _, rfl, _, _, rfl, rfl, _, rfl, r0, _, rfl, SqL.of (t14 _ _ hr4), fun c5 G5 t5 o5 y5 => ?_⟩
              refine ⟨c4, c5, _, _, rfl, rfl, t5 _ _ y4, y5, ?_, fun ro G6 t6 o6 y6 => ?_⟩
              · have e1 := cutV_length xs none (some (k' : Int))
                have e2 := cutV_length xs (some (k' : Int)) (some ((k' : Int) + 2))
                have e3 := cutV_length xs (some ((k' : Int) + 2)) none
                rw [sizeLine_eq, List.length_append, List.length_reverse]
                omega
              have t16 := t14.trans (t5.trans t6)
              have tG := tgx.same t16
              obtain ⟨e1, g1, w1'⟩ := tG.cut none (some (k' : Int))
              obtain ⟨e2, g2, w2'⟩ := tG.cut (some (k' : Int)) (some ((k' : Int) + 2))
              obtain ⟨e3, g3, w3'⟩ := tG.cut (some ((k' : Int) + 2)) none
              exact ⟨ro, _, _, rfl, (B4.same t16).mono (by omega), F14.trans (.of t16), y6, avn (F14.trans (.of (t14.trans t5))) o6 ((B4.same (t14.trans t5)).new o6), ((g1.app g2.rev).app g3).up (by omega) (by omega), by rw [wa_app, wa_app, wa_rev]; omega⟩
            refine ite_bF (decide_eq_false fun e => c2' (by injection e)) ?_
            refine ⟨_, rfl, rfl, _, rfl, ?_⟩
            by_cases c3' : way = 3
            · refine ite_bT (decide_eq_true (by rw [c3'])) ?_
              refine ⟨_, rfl, .inl ⟨rfl, _, SqL.of hr4⟩, _, rfl, rfl, fun e1 G1 t1 o1 y1 => ⟨rfl, fun e2 G2 t2 o2 y2 => ⟨rfl, fun l1 G3 t3 o3 y3 => ?_⟩⟩⟩
              have t13 := t1.trans (t2.trans t3)
              have e2p : e2 ≠ p := (B4.same t1).new o2; have e2a : ¬ Av e2 := avn (F14.trans (.of t1)) o2 e2p
              have l1p : l1 ≠ p := ((B4.same t1).same t2).new o3
              refine ⟨_, rfl, p, 6, _, rfl, B4.same t13, by omega, by decide, by decide, fun z G4 z0 z1 B5 F5 => ?_⟩
              have F15 : Fr p H1 G4 := (F14.trans (.of t13)).trans F5
              have hr5 := F5 _ _ r0p (t13 _ _ hr4)
              obtain ⟨y, e, ey, ty', we⟩ : ∃ (y : V) (e : PyData), atI ([.int 0, .non, .ref e1, .ref e2, .bl true, .str "0"] : List V) z = some y ∧ (∀ Hz, SqT K Hz e1 [] → Hz e2 = some (.lst []) → Tg K Av Hz (B + 1) (m + 1) y e) ∧ PyData.weight e ≤ 1 := by
                have cs : z = 0 ∨ z = 1 ∨ z = 2 ∨ z = 3 ∨ z = 4 ∨ z = 5 := by omega
                rcases cs with c | c | c | c | c | c <;> subst c
                · exact ⟨.int 0, .int 0, rfl, fun _ _ _ => .int _ _ (Nat.zero_le _), by decide⟩
                · exact ⟨.non, .none, rfl, fun _ _ _ => .non _, by decide⟩
                · exact ⟨.ref e1, .tuple [], rfl, fun Hz f1 _ => .tup f1 rfl fun i x d hx => by simp at hx, by decide⟩
                · exact ⟨.ref e2, .list [], rfl, fun Hz _ f2 => .lst f2 e2a rfl fun i x d hx => by simp at hx, by decide⟩
                · exact ⟨.bl true, .bool true, rfl, fun _ _ _ => .bl _ _, by decide⟩
                · exact ⟨.str "0", .str "0", rfl, fun _ _ _ => .str _ _ 0 (by decide +kernel) (by decide +kernel), by decide +kernel⟩
              refine ⟨l1, _, z, y, rfl, rfl, SqL.of (F5 _ _ l1p y3), ey, r0, _, (k' : Int), y, rfl, rfl, hr5, by rw [sizeLine_eq]; omega, by omega, by omega, ?_⟩
              rw [Int.toNat_natCast]
              have Fu := F15.put' (o := .lst (xs.take k' ++ [y] ++ xs.drop k')) n2
              have tgu := (TgAll.fr hAp tg hB1 Fu).up (B' := B + 1) (m := m + 1) (by omega) (by omega)
              have q1 : SqT K (upd G4 r0 (.lst (xs.take k' ++ [y] ++ xs.drop k'))) e1 [] := sqT_frL (sqT_fr (SqT.of ((t2.trans t3) _ _ y1)) (B4.same t13) F5) hr5 fr_upd
              have q2 : (upd G4 r0 (.lst (xs.take k' ++ [y] ++ xs.drop k'))) e2 = some (.lst []) := by
                rw [upd_ne (ne_of_none (t1 _ _ hr4) o2).symm]
                exact F5 _ _ e2p (t3 _ _ y2)
              refine ⟨r0, _, ds.take k' ++ [e] ++ ds.drop k', rfl, (B5.upd r0p).mono (by omega), Fu, upd_same, r0a, ((tgu.take k').app (.cons (ty' _ q1 q2) .nil)).app (tgu.drop k'), ?_⟩
              have wc := wa_cut ds k'
              rw [wa_app, wa_app]
              show _ + (PyData.weight e + 1 + 0) + _ ≤ _
              omega
            refine ite_bF (decide_eq_false fun e => c3' (by injection e)) ?_
            refine ⟨_, rfl, rfl, _, rfl, ?_⟩
            by_cases c4' : way = 4
            · refine ite_bT (decide_eq_true (by rw [c4'])) ?_
              refine ⟨_, rfl, _, _, _, _, _, rfl, .ty _, ty H4 nb hB1 F14, kit_ty kt, ?_⟩
              have FH : Fr p H H4 := (Fr.of s1).trans F14
              have tgu := tgx.up (B' := B + 1) (m := m + 1) (by omega) (by omega)
              cases bt with
              | true => exact ⟨_, rfl, iteT ⟨_, rfl, q _ (.list ds) H4 (B4.mono (by omega)) FH (.lst hr4 r0a tgu.1 tgu.2) (by show PyData.weightAll ds ≤ _; omega)⟩⟩
              | false => exact ⟨_, rfl, iteF ⟨_, rfl, r0, _, rfl, .inl ⟨SqL.of hr4, fun tn H6 s6 n6 h6 => q _ (.tuple ds) H6 ((B4.same s6).mono (by omega)) (FH.trans (.of s6)) (.tup (SqT.of h6) tgu.1 (tgu.same s6).2) (by show PyData.weightAll ds ≤ _; omega)⟩⟩⟩
            refine ite_bF (decide_eq_false fun e => c4' (by injection e)) ?_
            refine ⟨_, rfl, rfl, _, rfl, ?_⟩
            by_cases c5' : way = 5
            · refine ite_bT (decide_eq_true (by rw [c5'])) ?_
              refine ⟨_, rfl, .inl ⟨rfl, _, SqL.of hr4⟩, r0, _, rfl, rfl, hr4, ?_⟩
              have Fu := F14.put' (o := .lst xs.reverse) n2
              exact ⟨r0, _, ds.reverse, rfl, (B4.upd r0p).mono (by omega), Fu, upd_same, r0a, ((TgAll.fr hAp tg hB1 Fu).rev).up (by omega) (by omega), by rw [wa_rev]; omega⟩
            refine ite_bF (decide_eq_false fun e => c5' (by injection e)) ?_
            refine ⟨_, rfl, _, rfl, _, rfl, r0, _, rfl, SqL.of hr4, fun c1 G1 t1 o1 y1 => ?_⟩
            refine ⟨_, rfl, _, rfl, r0, r0, _, _, rfl, rfl, t1 _ _ hr4, t1 _ _ hr4, by rw [sizeLine_eq]; omega, fun c2 G2 t2 o2 y2 => ⟨rfl, fun c3 G3 t3 o3 y3 => ?_⟩⟩
            have t13 := t1.trans (t2.trans t3)
            have tG := tgx.same t13
            obtain ⟨e1, g1, w1'⟩ := tG.cut none (some (k' : Int))
            have cs : way = 6 ∨ way = 7 := by omega
            rcases cs with c | c
            · refine ⟨_, rfl, _, _, rfl, rfl, c3, _, 0, .ref c1, rfl, by rw [c] <;> rfl, SqL.of y3, at0, ?_⟩
              exact ⟨c1, _, _, rfl, (B4.same t13).mono (by omega), F14.trans (.of t13), (t2.trans t3) _ _ y1, avn F14 o1 (B4.new o1), g1.up (by omega) (by omega), by omega⟩
            · refine ⟨_, rfl, _, _, rfl, rfl, c3, _, 1, .ref c2, rfl, by rw [c] <;> rfl, SqL.of y3, at1, ?_⟩
              exact ⟨c2, _, _, rfl, (B4.same t13).mono (by omega), F14.trans (.of t13), t3 _ _ y2, avn (F14.trans (.of t1)) o2 ((B4.same t1).new o2), (tG.app tG).up (by omega) (by omega), by rw [wa_app]; omega⟩
        · refine ite_bF (decide_eq_false (by omega)) ?_
          have tgx := TgAll.fr hAp tg hB1 F14
          refine ⟨_, rfl, rfl, _, rfl, ?_⟩
          by_cases c0 : way = 0
          · refine ite_bT (decide_eq_true (by rw [c0])) ?_
            refine ⟨_, rfl, _, rfl, _, rfl, r0, _, rfl, SqL.of hr4, fun c1 G1 t1 o1 y1 => ?_⟩
            refine ⟨_, rfl, _, rfl, _, _, rfl, rfl, _, rfl, r0, _, rfl, SqL.of (t1 _ _ hr4), fun c2 G2 t2 o2 y2 => ?_⟩
            refine ⟨c1, c2, _, _, rfl, rfl, t2 _ _ y1, y2, ?_, fun ro G3 t3 o3 y3 => ?_⟩
            · have e1 := cutV_length xs none (some (k' : Int))
              have e2 := cutV_length xs (some ((k' : Int) + 1)) none
              rw [sizeLine_eq]
              omega
            have tG := tgx.same (t1.trans (t2.trans t3))
            obtain ⟨e1, g1, w1'⟩ := tG.cut none (some (k' : Int))
            obtain ⟨e2, g2, w2'⟩ := tG.cut (some ((k' : Int) + 1)) none
            exact ⟨ro, _, _, rfl, ((((B4.same t1).same t2).same t3).mono (by omega)), F14.trans (.of (t1.trans (t2.trans t3))), y3, avn (F14.trans (.of (t1.trans t2))) o3 (((B4.same t1).same t2).new o3), (g1.app g2).up (by omega) (by omega), by rw [wa_app]; omega⟩
          refine ite_bF (decide_eq_false fun e => c0 (by injection e)) ?_
          refine ⟨_, rfl, rfl, _, rfl, ?_⟩
          by_cases c1' : way = 1
          · refine ite_bT (decide_eq_true (by rw [c1'])) ?_
            refine ⟨_, rfl, _, rfl, _, rfl, r0, _, rfl, SqL.of hr4, fun c1 G1 t1 o1 y1 => ?_⟩
            refine ⟨_, rfl, _, rfl, _, rfl, _, rfl, _, _, rfl, rfl, _, rfl, r0, _, rfl, SqL.of (t1 _ _ hr4), fun c2 G2 t2 o2 y2 => ?_⟩
            refine ⟨c1, c2, _, _, rfl, rfl, t2 _ _ y1, y2, ?_, fun c3 G3 t3 o3 y3 => ?_⟩
            · have e1 := cutV_length xs none (some (k' : Int))
              have e2 := cutV_length xs (some (k' : Int)) (some ((k' : Int) + 1))
              rw [sizeLine_eq]
              omega
            refine ⟨_, rfl, _, rfl, _, rfl, r0, _, rfl, SqL.of ((t1.trans (t2.trans t3)) _ _ hr4), fun c4 G4 t4 o4 y4 => ?_⟩
            refine ⟨c3, c4, _, _, rfl, rfl, t4 _ _ y3, y4, ?_, fun ro G5 t5 o5 y5 => ?_⟩
            · have e1 := cutV_length xs none (some (k' : Int))
              have e2 := cutV_length xs (some (k' : Int)) (some ((k' : Int) + 1))
              have e3 := cutV_length xs (some (k' : Int)) none
              rw [sizeLine_eq, List.length_append]
              omega
            have t15 := t1.trans (t2.trans (t3.trans (t4.trans t5)))
            have tG := tgx.same t15
            obtain ⟨e1, g1, w1'⟩ := tG.cut none (some (k' : Int))
            obtain ⟨e2, g2, w2'⟩ := tG.cut (some (k' : Int)) (some ((k' : Int) + 1))
            obtain ⟨e3, g3, w3'⟩ := tG.cut (some (k' : Int)) none
            exact ⟨ro, _, _, rfl, (B4.same t15).mono (by omega), F14.trans (.of t15), y5, avn (F14.trans (.of (t1.trans (t2.trans (t3.trans t4))))) o5 ((B4.same (t1.trans (t2.trans (t3.trans t4)))).new o5), ((g1.app g2).app g3).up (by omega) (by omega), by rw [wa_app, wa_app]; omega⟩
          refine ite_bF (decide_eq_false fun e => c1' (by injection e)) ?_
          refine ⟨_, rfl, rfl, _, rfl, ?_⟩
          by_cases c2' : way = 2
          · refine ite_bT (decide_eq_true (by rw [c2'])) ?_
            refine ⟨_, rfl, _, rfl, _, rfl, r0, _, rfl, SqL.of hr4, fun c1 G1 t1 o1 y1 => ?_⟩
            refine ⟨_, rfl, _, rfl, _, rfl, _, rfl, _, _, rfl, rfl, _, rfl, r0, _, rfl, SqL.of (t1 _ _ hr4), fun c2 G2 t2 o2 y2 => ⟨c2, _, rfl, SqL.of y2, fun c3 nc3 => ?_⟩⟩
            have t3 : Same G2 (upd G2 c3 (.lst (cutV xs (some (k' : Int)) (some ((k' : Int) + 2))).reverse)) := same_new nc3
            have y3 : (upd G2 c3 (.lst (cutV xs (some (k' : Int)) (some ((k' : Int) + 2))).reverse)) c3 = some (.lst (cutV xs (some (k' : Int)) (some ((k' : Int) + 2))).reverse) := upd_same
            generalize upd G2 c3 (.lst (cutV xs (some (k' : Int)) (some ((k' : Int) + 2))).reverse) = G3 at t3 y3
            refine ⟨c1, c3, _, _, rfl, rfl, (t2.trans t3) _ _ y1, y3, ?_, fun c4 G4 t4 o4 y4 => ?_⟩
            · have e1 := cutV_length xs none (some (k' : Int))
              have e2 := cutV_length xs (some (k' : Int)) (some ((k' : Int) + 2))
              rw [sizeLine_eq, List.length_reverse]
              omega
            have t14 := t1.trans (t2.trans (t3.trans t4))
            refine ⟨_, rfl, _, rfl, _, _, rfl, rfl, _, rfl, r0, _, rfl, SqL.of (t14 _ _ hr4), fun c5 G5 t5 o5 y5 => ?_⟩
            refine ⟨c4, c5, _, _, rfl, rfl, t5 _ _ y4, y5, ?_, fun ro G6 t6 o6 y6 => ?_⟩
            · have e1 := cutV_length xs none (some (k' : Int))
              have e2 := cutV_length xs (some (k' : Int)) (some ((k' : Int) + 2))
              have e3 := cutV_length xs (some ((k' : Int) + 2)) none
              rw [sizeLine_eq, List.length_append, List.length_reverse]
              omega
            have t16 := t14.trans (t5.trans t6)
            have tG := tgx.same t16
            obtain ⟨e1, g1, w1'⟩ := tG.cut none (some (k' : Int))
            obtain ⟨e2, g2, w2'⟩ := tG.cut (some (k' : Int)) (some ((k' : Int) + 2))
            obtain ⟨e3, g3, w3'⟩ := tG.cut (some ((k' : Int) + 2)) none
            exact ⟨ro, _, _, rfl, (B4.same t16).mono (by omega), F14.trans (.of t16), y6, avn (F14.trans (.of (t14.trans t5))) o6 ((B4.same (t14.trans t5)).new o6), ((g1.app g2.rev).app g3).up (by omega) (by omega), by rw [wa_app, wa_app, wa_rev]; omega⟩
          refine ite_bF (decide_eq_false fun e => c2' (by injection e)) ?_
          refine ⟨_, rfl, rfl, _, rfl, ?_⟩
          by_cases c3' : way = 3
          · refine ite_bT (decide_eq_true (by rw [c3'])) ?_
            refine ⟨_, rfl, .inl ⟨rfl, _, SqL.of hr4⟩, _, rfl, rfl, fun e1 G1 t1 o1 y1 => ⟨rfl, fun e2 G2 t2 o2 y2 => ⟨rfl, fun l1 G3 t3 o3 y3 => ?_⟩⟩⟩
            have t13 := t1.trans (t2.trans t3)
            have e2p : e2 ≠ p := (B4.same t1).new o2; have e2a : ¬ Av e2 := avn (F14.trans (.of t1)) o2 e2p
            have l1p : l1 ≠ p := ((B4.same t1).same t2).new o3
            refine ⟨_, rfl, p, 6, _, rfl, B4.same t13, by omega, by decide, by decide, fun z G4 z0 z1 B5 F5 => ?_⟩
            have F15 : Fr p H1 G4 := (F14.trans (.of t13)).trans F5
            have hr5 := F5 _ _ r0p (t13 _ _ hr4)
            obtain ⟨y, e, ey, ty', we⟩ : ∃ (y : V) (e : PyData), atI ([.int 0, .non, .ref e1, .ref e2, .bl true, .str "0"] : List V) z = some y ∧ (∀ Hz, SqT K Hz e1 [] → Hz e2 = some (.lst []) → Tg K Av Hz (B + 1) (m + 1) y e) ∧ PyData.weight e ≤ 1 := by
              have cs : z = 0 ∨ z = 1 ∨ z = 2 ∨ z = 3 ∨ z = 4 ∨ z = 5 := by omega
              rcases cs with c | c | c | c | c | c <;> subst c
              · exact ⟨.int 0, .int 0, rfl, fun _ _ _ => .int _ _ (Nat.zero_le _), by decide⟩
              · exact ⟨.non, .none, rfl, fun _ _ _ => .non _, by decide⟩
              · exact ⟨.ref e1, .tuple [], rfl, fun Hz f1 _ => .tup f1 rfl fun i x d hx => by simp at hx, by decide⟩
              · exact ⟨.ref e2, .list [], rfl, fun Hz _ f2 => .lst f2 e2a rfl fun i x d hx => by simp at hx, by decide⟩
              · exact ⟨.bl true, .bool true, rfl, fun _ _ _ => .bl _ _, by decide⟩
              · exact ⟨.str "0", .str "0", rfl, fun _ _ _ => .str _ _ 0 (by decide +kernel) (by decide +kernel), by decide +kernel⟩
            refine ⟨l1, _, z, y, rfl, rfl, SqL.of (F5 _ _ l1p y3), ey, r0, _, (k' : Int), y, rfl, rfl, hr5, by rw [sizeLine_eq]; omega, by omega, by omega, ?_⟩
            rw [Int.toNat_natCast]
            have Fu := F15.put' (o := .lst (xs.take k' ++ [y] ++ xs.drop k')) n2
            have tgu := (TgAll.fr hAp tg hB1 Fu).up (B' := B + 1) (m := m + 1) (by omega) (by omega)
            have q1 : SqT K (upd G4 r0 (.lst (xs.take k' ++ [y] ++ xs.drop k'))) e1 [] := sqT_frL (sqT_fr (SqT.of ((t2.trans t3) _ _ y1)) (B4.same t13) F5) hr5 fr_upd
            have q2 : (upd G4 r0 (.lst (xs.take k' ++ [y] ++ xs.drop k'))) e2 = some (.lst []) := by
              rw [upd_ne (ne_of_none (t1 _ _ hr4) o2).symm]
              exact F5 _ _ e2p (t3 _ _ y2)
            refine ⟨r0, _, ds.take k' ++ [e] ++ ds.drop k', rfl, (B5.upd r0p).mono (by omega), Fu, upd_same, r0a, ((tgu.take k').app (.cons (ty' _ q1 q2) .nil)).app (tgu.drop k'), ?_⟩
            have wc := wa_cut ds k'
            rw [wa_app, wa_app]
            show _ + (PyData.weight e + 1 + 0) + _ ≤ _
            omega
          refine ite_bF (decide_eq_false fun e => c3' (by injection e)) ?_
          refine ⟨_, rfl, rfl, _, rfl, ?_⟩
          by_cases c4' : way = 4
          · refine ite_bT (decide_eq_true (by rw [c4'])) ?_
            refine ⟨_, rfl, _, _, _, _, _, rfl, .ty _, ty H4 nb hB1 F14, kit_ty kt, ?_⟩
            have FH : Fr p H H4 := (Fr.of s1).trans F14
            have tgu := tgx.up (B' := B + 1) (m := m + 1) (by omega) (by omega)
            cases bt with
            | true => exact ⟨_, rfl, iteT ⟨_, rfl, q _ (.list ds) H4 (B4.mono (by omega)) FH (.lst hr4 r0a tgu.1 tgu.2) (by show PyData.weightAll ds ≤ _; omega)⟩⟩
            | false => exact ⟨_, rfl, iteF ⟨_, rfl, r0, _, rfl, .inl ⟨SqL.of hr4, fun tn H6 s6 n6 h6 => q _ (.tuple ds) H6 ((B4.same s6).mono (by omega)) (FH.trans (.of s6)) (.tup (SqT.of h6) tgu.1 (tgu.same s6).2) (by show PyData.weightAll ds ≤ _; omega)⟩⟩⟩
          refine ite_bF (decide_eq_false fun e => c4' (by injection e)) ?_
          refine ⟨_, rfl, rfl, _, rfl, ?_⟩
          by_cases c5' : way = 5
          · refine ite_bT (decide_eq_true (by rw [c5'])) ?_
            refine ⟨_, rfl, .inl ⟨rfl, _, SqL.of hr4⟩, r0, _, rfl, rfl, hr4, ?_⟩
            have Fu := F14.put' (o := .lst xs.reverse) n2
            exact ⟨r0, _, ds.reverse, rfl, (B4.upd r0p).mono (by omega), Fu, upd_same, r0a, ((TgAll.fr hAp tg hB1 Fu).rev).up (by omega) (by omega), by rw [wa_rev]; omega⟩
          refine ite_bF (decide_eq_false fun e => c5' (by injection e)) ?_
          refine ⟨_, rfl, _, rfl, _, rfl, r0, _, rfl, SqL.of hr4, fun c1 G1 t1 o1 y1 => ?_⟩
          refine ⟨_, rfl, _, rfl, r0, r0, _, _, rfl, rfl, t1 _ _ hr4, t1 _ _ hr4, by rw [sizeLine_eq]; omega, fun c2 G2 t2 o2 y2 => ⟨rfl, fun c3 G3 t3 o3 y3 => ?_⟩⟩
          have t13 := t1.trans (t2.trans t3)
          have tG := tgx.same t13
          obtain ⟨e1, g1, w1'⟩ := tG.cut none (some (k' : Int))
          have cs : way = 6 ∨ way = 7 := by omega
          rcases cs with c | c
          · refine ⟨_, rfl, _, _, rfl, rfl, c3, _, 0, .ref c1, rfl, by rw [c] <;> rfl, SqL.of y3, at0, ?_⟩
            exact ⟨c1, _, _, rfl, (B4.same t13).mono (by omega), F14.trans (.of t13), (t2.trans t3) _ _ y1, avn F14 o1 (B4.new o1), g1.up (by omega) (by omega), by omega⟩
          · refine ⟨_, rfl, _, _, rfl, rfl, c3, _, 1, .ref c2, rfl, by rw [c] <;> rfl, SqL.of y3, at1, ?_⟩
            exact ⟨c2, _, _, rfl, (B4.same t13).mono (by omega), F14.trans (.of t13), t3 _ _ y2, avn (F14.trans (.of t1)) o2 ((B4.same t1).new o2), (tG.app tG).up (by omega) (by omega), by rw [wa_app]; omega⟩
theorem ok_l_bent (T : All K mg) : FnOk P w K mg base CX0 6 T.f_l_bent T.fd_l_bent ["_law_box_here", "_law_thing", "_law_deep"] (sp_l_bent K 6) := by
  have go : ∀ k, FnOk P w K mg base CX0 k T.f_l_bent T.fd_l_bent ["_law_box_here", "_law_thing", "_law_deep"] (sp_l_bent K k) := fun k => by
    induction k with
    | zero => exact none_l_bent (by omega)
    | succ k ih =>
      by_cases c : k = 0
      · subst c
        exact none_l_bent (by omega)
      · exact step_l_bent T (by omega) ih
  exact go _

end
end KR
namespace KR
open PySem PySem.Spec PyProof.Rows L2
section
variable {P : Program} {w : World} {K : PySem.W.Frag} {mg : Str → Option Value} {base : Heap}
/-- how many draws a made thing takes, and how much there is to it -/
def mdraws : Nat → Nat
  | 0 => 5
  | d + 1 => 5 + 3 * mdraws d
def mwt : Nat → Nat
  | 0 => 10
  | d + 1 => 20 + 6 * (mwt d + 1)
def sp_l_made (K : PySem.W.Frag) (k : Nat) : Sp := fun vs H Q _ => ∃ (p : Addr) (Av : Addr → Prop) (nb dp : Nat), vs = [.ref p, .int (dp : Int)] ∧ Av p ∧ (∀ a, Av a → ∃ o, H a = some o) ∧ BoxAt H p nb ∧ nb + mdraws dp ≤ 999000000 ∧ dp + 2 ≤ k ∧
  ∀ (v' : V) (d' : PyData) (H' : Hp), BoxAt H' p (nb + mdraws dp) → Fr p H H' → Tg K Av H' 1000 (2 * dp) v' d' → PyData.weight d' ≤ mwt dp → Q v' H'
theorem none_l_made {f : Addr} {fd : FuncData} {k : Nat} (hk : k < 2) : FnOk P w K mg base CX0 k f fd ["_law_box_here", "_law_deep"] (sp_l_made K k) := by
  have no : ∀ vs H Q E, ¬ sp_l_made K k vs H Q E := fun vs H Q E h => by
    obtain ⟨p, Av, nb, dp, _, _, _, _, _, h, _⟩ := h
    omega
  exact ⟨fun vs H Q E h => absurd h (no vs H Q E), fun A outer s H args us vs Q E _ _ _ _ h => absurd h (no vs H Q E)⟩
theorem step_l_made (T : All K mg) {k : Nat} (hk : 1 ≤ k) (ih : FnOk P w K mg base CX0 k T.f_l_made T.fd_l_made ["_law_box_here", "_law_deep"] (sp_l_made K k)) : FnOk P w K mg base CX0 (k + 1) T.f_l_made T.fd_l_made ["_law_box_here", "_law_deep"] (sp_l_made K (k + 1)) := by
  refine T.d_l_made.fn.ok sc_l_made (fun vs H Q E h => ?_) (fun cdv A outer s H vs Q E hr h => ?_)
  · obtain ⟨p, Av, nb, dp, rfl, _⟩ := h
    rfl
  · obtain ⟨p, Av, nb, dp, rfl, hAp, hAv, hB, hnb, hdp, q⟩ := h
    refine ⟨_, (pss_cons (ps_set (i := 2) sc_l_made.nd rfl (by first | exact Or.inl rfl | exact Or.inr rfl) (pe_call (ok_l_take T) (hr.mono (by omega)) (by rfl) T.d_l_take.mg T.d_l_take.fn.kp T.d_l_take.b .nil pass0 (pa_cons (pv 0) (pa_cons (pe_ifExp (pt_cmpR op_gt (pv 1) pe_int (nomark _)) pe_int pe_int) pa_nil))))
      (pss_cons (ps_if (pt_cmpR op_lt (pv 2) pe_int (nomark _)) (pss_one (ps_ret (pe_ix (ixL (K := K) rfl) (pe_lstI (pa_cons pe_int (pa_cons (pe_call (ok_l_take T) (hr.mono (by omega)) (by rfl) T.d_l_take.mg T.d_l_take.fn.kp T.d_l_take.b .nil pass0 (pa_cons (pv 0) (pa_cons pe_int pa_nil))) (pa_cons pe_bl (pa_cons pe_bl (pa_cons pe_non (pa_cons pe_str (pa_cons (pe_un un_neg pe_int) pa_nil)))))))) (pv 2) (fun _ _ => rfl)))) pss_nil)
      (pss_cons (ps_setLc (i := 3) (own := [("_law_k", 4)]) (g := gName 4) (tt := tYes) (by rfl) sc_l_made.nd rfl rfl (sw_true rfl rfl rfl (by decide +kernel)) (pi_range1 (by rfl) T.b_range (pa_cons (pe_call (ok_l_take T) (hr.mono (by omega)) (by rfl) T.d_l_take.mg T.d_l_take.fn.kp T.d_l_take.b .nil pass0 (pa_cons (pv 0) (pa_cons pe_int pa_nil))) pa_nil)) (blkOk_by (own := [("_law_k", 4)]) (N := ["_law_box_here", "_law_deep", "_law_way", "_law_some", "_law_k"]) (sc := defScope s_l_made) (by decide +kernel)) (fun _ _ _ _ _ => (pg_name (i := 4) sc_l_made.nd rfl (by first | exact Or.inl rfl | exact Or.inr rfl))) (fun _ _ _ _ _ => pts_nil) (fun _ _ _ _ _ => (pe_call ih hr (by rfl) T.d_l_made.mg T.d_l_made.fn.kp T.d_l_made.b .nil pass0 (pa_cons (pv 0) (pa_cons (pe_op op_sub (pv 1) pe_int) pa_nil)))))
      (pss_one (ps_ret (pe_ix (ixL (K := K) rfl) (pe_lstI (pa_cons (pv 3) (pa_cons (pe_callTy (tupJ (K := K) rfl) (by rfl) T.b_tuple (by decide +kernel) (pa_cons (pv 3) pa_nil)) (pa_cons (pe_tupI (pa_cons (pv 3) (pa_cons (pv 3) pa_nil))) (pa_cons (pe_lstI (pa_cons (pv 3) pa_nil)) (pa_cons (pe_tupI (pa_cons (pv 3) (pa_cons (pe_lstI pa_nil) (pa_cons (pv 3) pa_nil)))) pa_nil)))))) (pe_op op_sub (pv 2) pe_int) (fun _ _ => rfl))))))), ?_⟩
    have avo : ∀ {Ha : Hp} {b : Addr}, Fr p H Ha → Ha b = none → b ≠ p → ¬ Av b := fun {Ha b} F nb bp z => by
      obtain ⟨o, ho⟩ := hAv _ z
      rw [F _ _ bp ho] at nb
      cases nb
    have md1 : 5 ≤ mdraws dp := by
      cases dp with
      | zero => exact Nat.le_refl _
      | succ d => show 5 ≤ 5 + 3 * mdraws d; omega
    have mw1 : 10 ≤ mwt dp := by
      cases dp with
      | zero => exact Nat.le_refl _
      | succ d => show 10 ≤ 20 + 6 * (mwt d + 1); omega
    refine ⟨_, rfl, _, rfl, _, _, rfl, rfl, _, rfl, ?_⟩
    by_cases c : 0 < dp
    · refine ite_bT (decide_eq_true (by omega)) ?_
      refine ⟨p, 12, nb, rfl, hB, by omega, by decide, by decide, fun way H1 w0 w1 B1 F1 => ?_⟩
      refine ⟨_, rfl, _, _, rfl, rfl, _, rfl, ?_⟩
      by_cases c7 : way < 7
      · refine ite_bT (decide_eq_true c7) ?_
        refine ⟨_, rfl, p, 30, _, rfl, B1, by omega, by decide, by decide, fun t H2 t0 t1 B2 F2 => ⟨_, rfl, rfl, fun l H3 s3 n3 h3 => ?_⟩⟩
        obtain ⟨y, e, ey, ty, we⟩ : ∃ (y : V) (e : PyData), atI ([.int 0, .int t, .bl true, .bl false, .non, .str "takes", .int (-3)] : List V) way = some y ∧ Tg K Av H3 1000 (2 * dp) y e ∧ PyData.weight e ≤ 10 := by
          have cs : way = 0 ∨ way = 1 ∨ way = 2 ∨ way = 3 ∨ way = 4 ∨ way = 5 ∨ way = 6 := by omega
          rcases cs with c | c | c | c | c | c | c <;> subst c
          · exact ⟨.int 0, .int 0, rfl, .int _ _ (Nat.zero_le _), by decide⟩
          · refine ⟨.int t, .int t, rfl, .int _ _ (by omega), ?_⟩
            show (if t == 0 then 0 else t.natAbs.log2 + 1) ≤ 10
            by_cases c : t = 0
            · rw [c]
              decide
            · rw [if_neg (by simpa using c)]
              have := (Nat.log2_lt (show t.natAbs ≠ 0 by omega)).mpr (show t.natAbs < 2 ^ 5 by omega)
              omega
          · exact ⟨.bl true, .bool true, rfl, .bl _ _, by decide⟩
          · exact ⟨.bl false, .bool false, rfl, .bl _ _, by decide⟩
          · exact ⟨.non, .none, rfl, .non _, by decide⟩
          · exact ⟨.str "takes", .str "takes", rfl, .str _ _ 0 (by decide +kernel) (by decide +kernel), by decide +kernel⟩
          · exact ⟨.int (-3), .int (-3), rfl, .int _ _ (by decide), by decide +kernel⟩
        refine ⟨_, rfl, l, _, way, y, rfl, rfl, SqL.of h3, ey, ?_⟩
        exact q y e H3 ((B2.same s3).mono (by omega)) (F1.trans (F2.trans (.of s3))) ty (by omega)
      · refine ite_bF (decide_eq_false c7) ?_
        obtain ⟨d, rfl⟩ : ∃ d, dp = d + 1 := ⟨dp - 1, by omega⟩
        have md : mdraws (d + 1) = 5 + 3 * mdraws d := rfl
        have mw : mwt (d + 1) = 20 + 6 * (mwt d + 1) := rfl
        refine ⟨_, rfl, p, 4, _, rfl, B1, by omega, by decide, by decide, fun c H2 c0 c1 B2 F2 => ⟨c, rfl, by omega, by omega, fun D hD => ?_⟩⟩
        have Dp := B2.new hD
        have F12 : Fr p H H2 := F1.trans F2
        let Av' : Addr → Prop := fun a => Av a ∨ a = D
        have hAp' : Av' p := .inl hAp
        refine lc_range (lo := 0) (n := c.toNat) (fun i H' => ∃ (ys : List V) (es : List PyData), Fr p H2 H' ∧ BoxAt H' p (nb + 2 + i * mdraws d) ∧ H' D = some (.lst ys) ∧ ys.length = i ∧ TgAll K Av' H' 1000 (2 * d) ys es ∧ PyData.weightAll es ≤ i * (mwt d + 1))
          ⟨[], [], .of (same_new hD), (B2.same (same_new hD)).mono (by omega), upd_same, rfl, .nil, Nat.zero_le _⟩ (fun i H3 hi z => ?_) (fun H3 z => ?_)
        · obtain ⟨ys, es, F3, B3, hD3, ly, tg, wy⟩ := z
          have i3 : i + 1 ≤ 3 := by omega
          have im : (i + 1) * mdraws d ≤ 3 * mdraws d := Nat.mul_le_mul_right _ i3
          have ie : (i + 1) * mdraws d = i * mdraws d + mdraws d := Nat.succ_mul _ _
          have iw : (i + 1) * (mwt d + 1) = i * (mwt d + 1) + (mwt d + 1) := Nat.succ_mul _ _
          have hAv' : ∀ a, Av' a → ∃ o, H3 a = some o := fun a z => by
            rcases z with z | z
            · by_cases e : a = p
              · rw [e]
                exact B3.some
              · obtain ⟨o, ho⟩ := hAv a z
                exact ⟨o, F3 _ _ e (F12 _ _ e ho)⟩
            · rw [z]
              exact ⟨_, hD3⟩
          refine ⟨rfl, yesT ?_⟩
          refine ⟨_, rfl, _, rfl, _, _, rfl, rfl, ?_⟩
          refine ⟨p, Av', nb + 2 + i * mdraws d, d, by show [V.ref p, V.int (((d + 1 : Nat) : Int) - 1)] = _; rw [show ((d + 1 : Nat) : Int) - 1 = (d : Int) by omega], hAp', hAv', B3, by omega, by omega, fun v' d' H4 B4 F4 t4 w4 => ?_⟩
          have hD4 := F4 _ _ Dp hD3
          refine ⟨_, hD4, by rw [ly]; exact small' (by omega), ys ++ [v'], es ++ [d'], (F3.trans F4).put' hD, (B4.upd Dp).mono (by omega), upd_same, by rw [List.length_append, ly] <;> rfl, ((TgAll.fr hAp' tg B3 F4).app (.cons t4 .nil)).wr (.inr rfl) hD4, ?_⟩
          rw [wa_app]
          show _ + (PyData.weight d' + 1 + 0) ≤ _
          omega
        · obtain ⟨ys, es, F3, B3, hD3, ly, tg', wy⟩ := z
          have tg : TgAll K Av H3 1000 (2 * d) ys es := tg'.less fun a h => .inl h
          have F13 : Fr p H H3 := F12.trans F3
          have Da : ¬ Av D := avo F12 hD Dp
          have c3 : c.toNat ≤ 3 := by omega
          have cm : c.toNat * mdraws d ≤ 3 * mdraws d := Nat.mul_le_mul_right _ c3
          have cw : c.toNat * (mwt d + 1) ≤ 3 * (mwt d + 1) := Nat.mul_le_mul_right _ c3
          refine ⟨_, rfl, _, rfl, D, ys, rfl, .inl ⟨SqL.of hD3, fun t1 H4 s4 n4 h4 => ?_⟩⟩
          refine ⟨_, rfl, _, rfl, rfl, fun t2 H5 s5 n5 h5 => ?_⟩
          refine ⟨_, rfl, rfl, fun l3 H6 s6 n6 h6 => ?_⟩
          refine ⟨_, rfl, rfl, fun e4 H7 s7 n7 h7 => ⟨_, rfl, rfl, fun t5 H8 s8 n8 h8 => ⟨rfl, fun ll H9 s9 n9 h9 => ?_⟩⟩⟩
          refine ⟨_, rfl, _, _, rfl, rfl, ?_⟩
          have s35 := s4.trans s5
          have s79 := s7.trans (s8.trans s9)
          have s69 := s6.trans s79
          have s39 := s35.trans s69
          have l3a : ¬ Av l3 := avo (F13.trans (.of s35)) n6 ((B3.same s35).new n6)
          have e4a : ¬ Av e4 := avo (F13.trans (.of (s35.trans s6))) n7 ((B3.same (s35.trans s6)).new n7)
          have tD : Tg K Av H9 1000 (2 * d + 1) (.ref D) (.list es) := .lst (s39 _ _ hD3) Da tg.1 (tg.same s39).2
          have B9 := (B3.same s39).mono (m := nb + mdraws (d + 1)) (by omega)
          have F9 : Fr p H H9 := F13.trans (.of s39)
          obtain ⟨y, e, ey, ty, we⟩ : ∃ (y : V) (e : PyData), atI ([.ref D, .ref t1, .ref t2, .ref l3, .ref t5] : List V) (way - 7) = some y ∧ Tg K Av H9 1000 (2 * d + 1 + 1) y e ∧ PyData.weight e ≤ mwt (d + 1) := by
            have cs : way = 7 ∨ way = 8 ∨ way = 9 ∨ way = 10 ∨ way = 11 := by omega
            rcases cs with c | c | c | c | c
            · exact ⟨_, (.list es), (by rw [c] <;> rfl), (tD.up (Nat.le_refl _) (by omega)), (by show PyData.weightAll es ≤ _; omega)⟩
            · exact ⟨_, (.tuple es), (by rw [c] <;> rfl), ((Tg.tup (SqT.of ((s5.trans s69) _ _ h4)) tg.1 (tg.same s39).2).up (Nat.le_refl _) (by omega)), (by show PyData.weightAll es ≤ _; omega)⟩
            · exact ⟨_, (.tuple [.list es, .list es]), (by rw [c] <;> rfl), (Tg.tup (SqT.of (s69 _ _ h5)) rfl (TgAll.cons tD (.cons tD .nil)).2), (by show PyData.weightAll es + 1 + (PyData.weightAll es + 1 + 0) ≤ _; omega)⟩
            · exact ⟨_, (.list [.list es]), (by rw [c] <;> rfl), (Tg.lst (s79 _ _ h6) l3a rfl (TgAll.cons tD .nil).2), (by show PyData.weightAll es + 1 + 0 ≤ _; omega)⟩
            · exact ⟨_, (.tuple [.list es, .list [], .list es]), (by rw [c] <;> rfl), (Tg.tup (SqT.of (s9 _ _ h8)) rfl (TgAll.cons tD (.cons (.lst ((s8.trans s9) _ _ h7) e4a rfl fun i x d hx => by simp at hx) (.cons tD .nil))).2), (by show PyData.weightAll es + 1 + (0 + 1 + (PyData.weightAll es + 1 + 0)) ≤ _; omega)⟩
          refine ⟨ll, _, way - 7, y, rfl, rfl, SqL.of h9, ey, ?_⟩
          exact q y e H9 B9 F9 (ty.up (Nat.le_refl _) (by omega)) we
    · refine ite_bF (decide_eq_false (by omega)) ?_
      refine ⟨p, 7, nb, rfl, hB, by omega, by decide, by decide, fun way H1 w0 w1 B1 F1 => ?_⟩
      refine ⟨_, rfl, _, _, rfl, rfl, _, rfl, ?_⟩
      refine ite_bT (decide_eq_true w1) ?_
      refine ⟨_, rfl, p, 30, _, rfl, B1, by omega, by decide, by decide, fun t H2 t0 t1 B2 F2 => ⟨_, rfl, rfl, fun l H3 s3 n3 h3 => ?_⟩⟩
      obtain ⟨y, e, ey, ty, we⟩ : ∃ (y : V) (e : PyData), atI ([.int 0, .int t, .bl true, .bl false, .non, .str "takes", .int (-3)] : List V) way = some y ∧ Tg K Av H3 1000 (2 * dp) y e ∧ PyData.weight e ≤ 10 := by
        have cs : way = 0 ∨ way = 1 ∨ way = 2 ∨ way = 3 ∨ way = 4 ∨ way = 5 ∨ way = 6 := by omega
        rcases cs with c | c | c | c | c | c | c <;> subst c
        · exact ⟨.int 0, .int 0, rfl, .int _ _ (Nat.zero_le _), by decide⟩
        · refine ⟨.int t, .int t, rfl, .int _ _ (by omega), ?_⟩
          show (if t == 0 then 0 else t.natAbs.log2 + 1) ≤ 10
          by_cases c : t = 0
          · rw [c]
            decide
          · rw [if_neg (by simpa using c)]
            have := (Nat.log2_lt (show t.natAbs ≠ 0 by omega)).mpr (show t.natAbs < 2 ^ 5 by omega)
            omega
        · exact ⟨.bl true, .bool true, rfl, .bl _ _, by decide⟩
        · exact ⟨.bl false, .bool false, rfl, .bl _ _, by decide⟩
        · exact ⟨.non, .none, rfl, .non _, by decide⟩
        · exact ⟨.str "takes", .str "takes", rfl, .str _ _ 0 (by decide +kernel) (by decide +kernel), by decide +kernel⟩
        · exact ⟨.int (-3), .int (-3), rfl, .int _ _ (by decide), by decide +kernel⟩
      refine ⟨_, rfl, l, _, way, y, rfl, rfl, SqL.of h3, ey, ?_⟩
      exact q y e H3 ((B2.same s3).mono (by omega)) (F1.trans (F2.trans (.of s3))) ty (by omega)
theorem ok_l_made (T : All K mg) : FnOk P w K mg base CX0 6 T.f_l_made T.fd_l_made ["_law_box_here", "_law_deep"] (sp_l_made K 6) := by
  have go : ∀ k, FnOk P w K mg base CX0 k T.f_l_made T.fd_l_made ["_law_box_here", "_law_deep"] (sp_l_made K k) := fun k => by
    induction k with
    | zero => exact none_l_made (by omega)
    | succ k ih =>
      by_cases c : k = 0
      · subst c
        exact none_l_made (by omega)
      · exact step_l_made T (by omega) ih
  exact go _

end
end KR
namespace KR
open PySem PySem.Spec PyProof.Rows L2
section
variable {P : Program} {w : World} {K : PySem.W.Frag} {mg : Str → Option Value} {base : Heap}
theorem ixN_d {n i : Nat} (h : i < n) : ixN n (i : Int) = some i := by
  unfold ixN
  rw [if_pos (by omega), if_pos (by omega), Int.toNat_natCast]
theorem kt_mem {D : Dy} {p : Nat} (h : p < D.ks.length) : kt D p ∈ D.ks := by
  unfold kt
  rw [List.getD_eq_getElem?_getD, List.getElem?_eq_getElem h]
  exact List.getElem_mem h
def sp_l_drawn (K : PySem.W.Frag) : Sp := fun vs H Q _ => ∃ (p d : Addr) (nb : Nat) (x : DyP) (D : Dy), vs = [.ref p, .ref d] ∧ BoxAt H p nb ∧ nb ≤ 999000000 ∧ DayAt K H p d x D ∧ x.pc = true ∧ x.pk = true ∧ DyOk D ∧ DyNn D ∧
  ∀ (f : Addr) (Xs : List (List Int)) (H' : Hp), BoxAt H' p (nb + 900) → Fr p H H' → H f = none → Tg K (fun a => a = p) H' 1000000 2 (.ref f) (planX Xs) → PlanOk D Xs → PlanDo D Xs → (∀ r ∈ Xs, Ldl r) → Q (.ref f) H'
theorem ok_l_drawn (T : All K mg) : FnOk P w K mg base CX0 2 T.f_l_drawn T.fd_l_drawn ["_law_box_here", "_law_day_here"] (sp_l_drawn K) := by
  refine T.d_l_drawn.fn.ok sc_l_drawn (fun vs H Q E h => ?_) (fun cdv A outer s H vs Q E hr h => ?_)
  · obtain ⟨p, d, nb, x, D, rfl, _⟩ := h
    rfl
  · obtain ⟨p, d, nb, x, D, rfl, hB, hnb, hD, xc, xk, O, N, q⟩ := h
    refine ⟨_, (pss_cons (ps_asg (pv 1) (pg_tupK (K := K) rfl rfl (pgs_cons (pg_name (i := 2) sc_l_drawn.nd rfl (by first | exact Or.inl rfl | exact Or.inr rfl)) (pgs_cons (pg_name (i := 3) sc_l_drawn.nd rfl (by first | exact Or.inl rfl | exact Or.inr rfl)) (pgs_cons (pg_name (i := 4) sc_l_drawn.nd rfl (by first | exact Or.inl rfl | exact Or.inr rfl)) pgs_nil)))))
      (pss_cons (ps_par3 (i := 5) (j := 6) (l := 7) (by rfl) sc_l_drawn.nd rfl rfl rfl (by decide) (by decide) (by decide) rfl rfl rfl (pa_cons (pe_op op_rep (pe_lstI (pa_cons pe_int pa_nil)) (pe_callB (lenQ (K := K) rfl) (by rfl) T.b_len PySem.boot_len (pa_cons (pv 3) pa_nil))) (pa_cons pe_int (pa_cons (pe_lc (own := [("_law_place", 8)]) (g := gName 8) (tt := tYes) (by rfl) sc_l_drawn.nd (pi_range1 (by rfl) T.b_range (pa_cons (pe_op op_add (pe_callB (lenQ (K := K) rfl) (by rfl) T.b_len PySem.boot_len (pa_cons (pv 3) pa_nil)) pe_int) pa_nil)) (blkOk_by (own := [("_law_place", 8)]) (N := ["_law_box_here", "_law_day_here", "_law_comes", "_law_kettles", "_law_strikes", "_law_held", "_law_waiting", "_law_plan", "_law_place", "_law_way", "_law_hour", "_law_many", "_law_before", "_law_taken", "_law_ahead", "_law_most"]) (sc := defScope s_l_drawn) (by decide +kernel)) (fun _ _ _ _ _ => (pg_name (i := 8) sc_l_drawn.nd rfl (by first | exact Or.inl rfl | exact Or.inr rfl))) (fun _ _ _ _ _ => pts_nil) (fun _ _ _ _ _ => (pe_lstI pa_nil))) pa_nil))) (by rfl))
      (pss_cons (ps_set (i := 9) sc_l_drawn.nd rfl (by first | exact Or.inl rfl | exact Or.inr rfl) (pe_call (ok_l_take T) hr (by rfl) T.d_l_take.mg T.d_l_take.fn.kp T.d_l_take.b .nil pass0 (pa_cons (pv 0) (pa_cons pe_int pa_nil))))
      (pss_cons (ps_for PassesOwn.never rfl (pi_enumB (K := K) rfl (by rfl) T.b_enumerate (pa_cons (pv 2) pa_nil)) (pg_tupK (K := K) rfl rfl (pgs_cons (pg_name (i := 10) sc_l_drawn.nd rfl (by first | exact Or.inl rfl | exact Or.inr rfl)) (pgs_cons (pg_name (i := 11) sc_l_drawn.nd rfl (by first | exact Or.inl rfl | exact Or.inr rfl)) pgs_nil))) (pss_cons (ps_par3 (i := 6) (j := 12) (l := 13) (by rfl) sc_l_drawn.nd rfl rfl rfl (by decide) (by decide) (by decide) rfl rfl rfl (pa_cons (pe_op op_add (pv 6) (pv 11)) (pa_cons (pe_callTy (listI (K := K) rfl) (by rfl) T.b_list (by decide +kernel) (pa_cons (pv 5) pa_nil)) (pa_cons pe_int pa_nil))) (by rfl))
      (pss_cons (ps_for PassesOwn.never rfl (pi_range3 (by rfl) T.b_range (pa_cons (pe_callB (lenQ (K := K) rfl) (by rfl) T.b_len PySem.boot_len (pa_cons (pv 3) pa_nil)) (pa_cons (pe_un un_neg pe_int) (pa_cons (pe_un un_neg pe_int) pa_nil)))) (pg_name (i := 8) sc_l_drawn.nd rfl (by first | exact Or.inl rfl | exact Or.inr rfl)) (pss_cons (ps_J (ps_set (i := 14) sc_l_drawn.nd rfl (by first | exact Or.inl rfl | exact Or.inr rfl) (pe_ifExp (pt_cmpR op_gt (pv 8) pe_int (nomark _)) (pe_ix (ixL (K := K) rfl) (pv 12) (pe_op op_sub (pv 8) pe_int) (fun _ _ => rfl)) (pv 6))))
      (pss_cons (ps_J (ps_set (i := 15) sc_l_drawn.nd rfl (by first | exact Or.inl rfl | exact Or.inr rfl) (pe_callB (call_min2 rfl) (by rfl) T.b_min (by decide +kernel) (pa_cons (pe_ix (ixQ (K := K) rfl) (pe_ifExp (pt_cmpR op_eq (pv 8) (pe_callB (lenQ (K := K) rfl) (by rfl) T.b_len PySem.boot_len (pa_cons (pv 3) pa_nil)) (nomark _)) (pv 4) (pe_ix (ixT (K := K) rfl) (pe_ix (ixL (K := K) rfl) (pv 3) (pv 8) (fun _ _ => rfl)) pe_int (fun _ _ => rfl))) (pv 10) (fun _ _ => rfl)) (pa_cons (pv 14) pa_nil)))))
      (pss_cons (ps_J (ps_if (pt_cmpR op_lt (pv 8) (pe_callB (lenQ (K := K) rfl) (by rfl) T.b_len PySem.boot_len (pa_cons (pv 3) pa_nil)) (nomark _)) (pss_cons (ps_asg (pe_op op_sub (pe_ix (ixL (K := K) rfl) (pv 5) (pv 8) (fun _ _ => rfl)) (pv 13)) (pg_sub (pv 5) (pv 8) set_list))
      (pss_one (ps_set (i := 15) sc_l_drawn.nd rfl (by first | exact Or.inl rfl | exact Or.inr rfl) (pe_callB (call_min2 rfl) (by rfl) T.b_min (by decide +kernel) (pa_cons (pv 15) (pa_cons (pe_op op_sub (pe_ix (ixT (K := K) rfl) (pe_ix (ixL (K := K) rfl) (pv 3) (pv 8) (fun _ _ => rfl)) pe_int (fun _ _ => rfl)) (pe_ix (ixL (K := K) rfl) (pv 5) (pv 8) (fun _ _ => rfl))) pa_nil)))))) pss_nil))
      (pss_cons (ps_set (i := 13) sc_l_drawn.nd rfl (by first | exact Or.inl rfl | exact Or.inr rfl) (pe_ix (ixL (K := K) rfl) (pe_lstI (pa_cons (pv 15) (pa_cons (pe_call (ok_l_take T) hr (by rfl) T.d_l_take.mg T.d_l_take.fn.kp T.d_l_take.b .nil pass0 (pa_cons (pv 0) (pa_cons (pe_op op_add (pv 15) pe_int) pa_nil))) (pa_cons (pe_op op_mulX (pv 15) (pe_call (ok_l_take T) hr (by rfl) T.d_l_take.mg T.d_l_take.fn.kp T.d_l_take.b .nil pass0 (pa_cons (pv 0) (pa_cons pe_int pa_nil)))) pa_nil)))) (pv 9) (fun _ _ => rfl)))
      (pss_cons (ps_J (ps_if (pt_cmpR op_lt (pv 8) (pe_callB (lenQ (K := K) rfl) (by rfl) T.b_len PySem.boot_len (pa_cons (pv 3) pa_nil)) (nomark _)) (pss_one (ps_asg (pe_op op_add (pe_ix (ixL (K := K) rfl) (pv 5) (pv 8) (fun _ _ => rfl)) (pv 13)) (pg_sub (pv 5) (pv 8) set_list))) pss_nil))
      (pss_one (ps_expr (pe_bm PySem.F.plainAttrs_list PySem.F.slot_list_append PySem.F.type_list_append mt_append (pe_ix (ixL (K := K) rfl) (pv 7) (pv 8) (fun _ _ => rfl)) (pa_cons (pv 13) pa_nil))))))))))
      (pss_one (ps_set (i := 6) sc_l_drawn.nd rfl (by first | exact Or.inl rfl | exact Or.inr rfl) (pe_op op_sub (pv 6) (pv 13)))))))
      (pss_one (ps_ret (pv 7))))))), ?_⟩
    have k1 := O.k1
    have k2 := O.k2
    have h2 := O.h2
    have hk0 : SqL K H x.k (x.as.map V.ref) := by
      have z := hD.ks
      rw [xk] at z
      exact z
    refine ⟨_, rfl, d, _, rfl, hD.at_, rfl, _, _, rfl, _, _, rfl, _, _, rfl, rfl, ?_⟩
    refine ⟨rfl, fun l0 H1 s1 n1 h1 => ?_⟩
    refine ⟨_, rfl, x.k, _, rfl, .inl (Same.seq s1 hk0), ?_⟩
    rw [List.length_map, hD.len]
    refine ⟨l0, (D.ks.length : Int), _, rfl, rfl, h1, by omega, by omega, by show 1 * _ ≤ _; rw [sizeLine_eq]; omega, fun hl nhl => ?_⟩
    rw [rep_ints D.ks.length 0]
    have nhlH : H hl = none := same_none' s1 nhl
    have s2 : Same H (upd H1 hl (.lst ((List.replicate D.ks.length (0 : Int)).map V.int))) := s1.trans (same_new nhl)
    have hhl2 : (upd H1 hl (.lst ((List.replicate D.ks.length (0 : Int)).map V.int))) hl = some (.lst ((List.replicate D.ks.length (0 : Int)).map V.int)) := upd_same
    generalize upd H1 hl (.lst ((List.replicate D.ks.length (0 : Int)).map V.int)) = H2 at s2 hhl2
    have hlp : hl ≠ p := (hB.same s1).new nhl
    refine ⟨_, rfl, x.k, _, rfl, .inl (Same.seq s2 hk0), ?_⟩
    rw [List.length_map, hD.len]
    refine ⟨_, _, rfl, rfl, (D.ks.length : Int) + 1, rfl, by omega, by omega, fun g hg => ?_⟩
    have ngH : H g = none := same_none' s2 hg
    have hlg : hl ≠ g := ne_of_none hhl2 hg
    have gp : g ≠ p := (hB.same s2).new hg
    refine lc_range (lo := 0) (n := D.ks.length + 1) (fun j H' => ∃ rs : List Addr, Same H2 H' ∧ H' g = some (.lst (rs.map V.ref)) ∧ rs.length = j ∧ rs.Nodup ∧ ∀ r ∈ rs, H' r = some (.lst []) ∧ H2 r = none ∧ r ≠ g)
      ⟨[], same_new hg, upd_same, rfl, List.nodup_nil, fun r hr => absurd hr List.not_mem_nil⟩ (fun j H3 hj z => ?_) (fun H3 z => ?_)
    · obtain ⟨rs, s3, hg3, lr, nd, all⟩ := z
      refine ⟨rfl, yesT ?_⟩
      refine ⟨rfl, fun r H4 s4 n4 h4 => ?_⟩
      have hg4 := s4 _ _ hg3
      have rg : r ≠ g := (ne_of_none hg3 n4).symm
      refine ⟨_, hg4, by rw [List.length_map]; exact small' (by omega), rs ++ [r], Same.put (s3.trans s4) hg, by rw [upd_same, List.map_append] <;> rfl, by rw [List.length_append, lr] <;> rfl, ?_, fun r' hr' => ?_⟩
      · refine List.nodup_append.mpr ⟨nd, List.nodup_cons.mpr ⟨List.not_mem_nil, List.nodup_nil⟩, fun a ha b hb e => ?_⟩
        rw [List.mem_singleton.mp hb] at e
        have z := (all a ha).1
        rw [e, n4] at z
        cases z
      · rcases List.mem_append.mp hr' with m | m
        · obtain ⟨z1, z2, z3⟩ := all r' m
          exact ⟨by rw [upd_ne z3]; exact s4 _ _ z1, z2, z3⟩
        · rw [List.mem_singleton.mp m]
          exact ⟨by rw [upd_ne rg]; exact h4, same_none' s3 n4, rg⟩
    · obtain ⟨rs, s3, hg3, lr, nd, all⟩ := z
      have s03 := s2.trans s3
      have hhl3 := s3 _ _ hhl2
      have R3 : RowsH H3 H p hl g rs fun _ => [] := fun q' r e => by
        obtain ⟨z1, z2, z3⟩ := all r (List.mem_of_getElem? e)
        exact ⟨z1, same_none' s2 z2, (hB.same s2).new z2, (ne_of_none hhl2 z2).symm, z3⟩
      refine ⟨_, _, _, rfl, ?_⟩
      refine ⟨_, rfl, p, 3, nb, rfl, hB.same s03, by omega, by decide, by decide, fun way H4 w0 w1 B4 F4 => ?_⟩
      obtain ⟨wy, rfl⟩ : ∃ wy : Nat, way = (wy : Int) := ⟨way.toNat, by omega⟩
      have F04 : Fr p H H4 := (Fr.of s03).trans F4
      refine ⟨_, rfl, x.c, _, x.pc, rfl, (hD.fr hB F04).cs.1, for_it (walk_enumB (K := K) (a := x.c) (xs := D.cs.map V.int) (p := x.pc)) (fun t σ H' => ∃ (f : Nat → List Int) (wt : Int) (v8 v10 v11 v12 v13 v14 v15 : Option V), σ = [some (.ref p), some (.ref d), some (.ref x.c), some (.ref x.k), some (.ref x.s), some (.ref hl), some (.int wt), some (.ref g), v8, some (.int (wy : Int)), v10, v11, v12, v13, v14, v15] ∧ Fr p H H' ∧ BoxAt H' p (nb + 1 + 18 * t) ∧ H' hl = some (.lst ((heldV D f t).map V.int)) ∧ wt = csum D t - PS f 0 t ∧ H' g = some (.lst (rs.map V.ref)) ∧ RowsH H' H p hl g rs f ∧ (∀ q, q ≤ D.ks.length → (f q).length = t) ∧ (∀ q, q ≤ D.ks.length → Ldl (f q)) ∧ ∀ pl t', pl ≤ D.ks.length → t' < t → PlAt D f pl t')
        ⟨fun _ => [], 0, _, _, _, _, _, _, _, rfl, F04, B4, by rw [heldV_zero]; exact F4 _ _ hlp hhl3, by rw [PS_zero] <;> rfl, F4 _ _ gp hg3, R3.fr F4, fun q _ => rfl, fun q _ z hz => absurd hz List.not_mem_nil, fun pl t' _ lt => absurd lt (Nat.not_lt_zero _)⟩ (fun t σ H' _ ⟨_, _, _, _, _, _, _, _, _, _, F, _⟩ => (hD.fr hB F).cs.1) ?_ ?_⟩
      · rintro t v σ H5 H6 ht ⟨f, wt, v8, v10, v11, v12, v13, v14, v15, rfl, F5, B5, h5, rfl, hg5, R5, len5, ldl5, done5⟩ ⟨T0, x0, y0, rfl, hT, rfl, e0, ex⟩
        rw [List.length_map] at ht
        obtain rfl := Option.some.inj e0
        have ex' : (D.cs.map V.int)[t]? = some y0 := ex
        rw [ints_get ht] at ex'
        obtain rfl := Option.some.inj ex'
        have sT : Same H5 (upd H5 T0 (.tup [.int (t : Nat), .int (D.cs.getD t 0)])) := same_new hT
        have hT5 : (upd H5 T0 (.tup [.int (t : Nat), .int (D.cs.getD t 0)])) T0 = some (.tup [.int (t : Nat), .int (D.cs.getD t 0)]) := upd_same
        generalize upd H5 T0 (.tup [.int (t : Nat), .int (D.cs.getD t 0)]) = H6 at sT hT5
        refine ⟨T0, _, rfl, SqT.of hT5, rfl, _, _, rfl, _, _, rfl, rfl, ?_⟩
        have h6 := sT _ _ h5
        have B6 := B5.same sT
        refine ⟨_, rfl, _, rfl, _, _, rfl, rfl, _, rfl, hl, _, rfl, .inl (SqL.of h6), fun bf H7 s7 n7 h7 => ⟨_, _, _, rfl, ?_⟩⟩
        have s57 := sT.trans s7
        have F7 : Fr p H H7 := F5.trans (.of s57)
        have bfl : bf ≠ hl := (ne_of_none h6 n7).symm
        have bfp : bf ≠ p := B6.new n7
        have nbf : H bf = none := fr_new' (F5.trans (.of sT)) n7 bfp
        have bfg : bf ≠ g := (ne_of_none (sT _ _ hg5) n7).symm
        have rbf : ∀ {q' : Nat} {r : Addr}, rs[q']? = some r → r ≠ bf := fun e => ne_of_none ((R5.same sT) _ _ e).1 n7
        have hk7 : SqL K H7 x.k (x.as.map V.ref) := by
          have z := (hD.fr hB F7).ks
          rw [xk] at z
          exact z
        have cS := csum_stepW ht
        have eW : csum D t - PS f 0 t + D.cs.getD t 0 = csum D (t + 1) - PS f 0 t := by omega
        refine ⟨_, rfl, x.k, _, rfl, .inl hk7, ?_⟩
        rw [List.length_map, hD.len]
        have eN : ((D.ks.length : Int) - -1).toNat = D.ks.length + 1 := by omega
        refine ⟨_, rfl, _, rfl, (D.ks.length : Int), -1, -1, _, rfl, RgC.neg (by omega) (by omega) (by decide) (by decide), for_rangeC (lo := (D.ks.length : Int)) (c := -1) (n := ((D.ks.length : Int) - -1).toNat) (fun j σ H' => ∃ (gg : Nat → List Int) (W tk : Int) (v8 v14 v15 : Option V), σ = [some (.ref p), some (.ref d), some (.ref x.c), some (.ref x.k), some (.ref x.s), some (.ref hl), some (.int W), some (.ref g), v8, some (.int (wy : Int)), some (.int (t : Nat)), some (.int (D.cs.getD t 0)), some (.ref bf), some (.int tk), v14, v15] ∧ Fr p H H' ∧ BoxAt H' p (nb + 1 + 18 * t + 2 * j) ∧ H' hl = some (.lst ((heldW D gg t j).map V.int)) ∧ H' bf = some (.lst ((heldV D gg t).map V.int)) ∧ W = csum D (t + 1) - PS gg 0 t ∧ H' g = some (.lst (rs.map V.ref)) ∧ RowsH H' H p hl g rs gg ∧ (∀ q, q ≤ D.ks.length → (gg q).length = if D.ks.length < q + j then t + 1 else t) ∧ (∀ q, q ≤ D.ks.length → Ldl (gg q)) ∧ (∀ pl t', pl ≤ D.ks.length → t' < t → PlAt D gg pl t') ∧ (∀ pl, pl ≤ D.ks.length → D.ks.length < pl + j → PlAt D gg pl t) ∧ tk = if j = 0 then 0 else PX gg (D.ks.length + 1 - j) t)
          ⟨f, _, 0, _, _, _, rfl, F7, (B6.same s7).mono (by omega), by rw [heldW_zero]; exact s7 _ _ h6, h7, eW, s57 _ _ hg5, R5.same s57, fun q hq => by rw [if_neg (by omega)]; exact len5 q hq, ldl5, done5, fun pl hp lt => absurd lt (by omega), rfl⟩ ?_ ?_⟩
        · rintro j σ H8 hj ⟨gg, W, tk, v8, v14, v15, rfl, F8, B8, h8, hb8, eW8, hg8, R8, len8, ldl8, done8, cur8, etk⟩
          obtain ⟨pl, epl, lpl⟩ : ∃ pl : Nat, (D.ks.length : Int) + (j : Int) * -1 = (pl : Int) ∧ pl + j = D.ks.length := ⟨D.ks.length - j, by omega, by omega⟩
          rw [epl]
          have hp : pl ≤ D.ks.length := by omega
          have lenp : (gg pl).length = t := by rw [len8 pl hp, if_neg (by omega)]
          have lent : ∀ q, q ≤ D.ks.length → t ≤ (gg q).length := fun q hq => by rw [len8 q hq]; split <;> omega
          have nn8 : ∀ q, q ≤ D.ks.length → ∀ z ∈ gg q, 0 ≤ z := fun q hq z hz => (ldl8 q hq z hz).1
          have hD8 := hD.fr hB F8
          have hk8 : SqL K H8 x.k (x.as.map V.ref) := by
            have z := hD8.ks
            rw [xk] at z
            exact z
          have cs0 : 0 ≤ D.cs.getD t 0 := (ldl_at N.cs t).1
          have W0 : 0 ≤ W := by
            have := wait_nn done8
            omega
          refine ⟨fun σ' H' => ∃ A : Int, σ' = [some (.ref p), some (.ref d), some (.ref x.c), some (.ref x.k), some (.ref x.s), some (.ref hl), some (.int W), some (.ref g), some (.int (pl : Int)), some (.int (wy : Int)), some (.int (t : Nat)), some (.int (D.cs.getD t 0)), some (.ref bf), some (.int tk), some (.int A), v15] ∧ H' = H8 ∧ PS gg pl t + A = (if pl = 0 then csum D (t + 1) else PS gg (pl - 1) t) ∧ 0 ≤ A, ?_, ?_⟩
          rotate_left
          · refine ⟨_, rfl, _, _, rfl, rfl, _, rfl, ?_⟩
            by_cases c0 : pl = 0
            · refine ite_bF (decide_eq_false (by omega)) ?_
              refine ⟨_, rfl, ?_⟩
              exact ⟨W, rfl, rfl, by rw [if_pos c0, c0]; omega, W0⟩
            · refine ite_bT (decide_eq_true (by omega)) ?_
              have eh : ((heldV D gg t).map V.int)[pl - 1]? = some (.int (PS gg (pl - 1) t - PS gg pl t)) := by
                rw [List.getElem?_map, heldV_at (by omega), show pl - 1 + 1 = pl by omega] <;> rfl
              refine ⟨_, rfl, _, rfl, _, _, rfl, rfl, bf, _, (pl : Int) - 1, _, rfl, rfl, SqL.of hb8, at_of (j := pl - 1) (by omega) eh, ?_⟩
              have := held_nn (p := pl - 1) nn8 (by omega) done8
              rw [show pl - 1 + 1 = pl by omega] at this
              exact ⟨_, rfl, rfl, by rw [if_neg c0]; omega, by omega⟩
          rintro σ H9 ⟨A, rfl, e9, eA, A0⟩
          obtain rfl := e9.symm
          refine ⟨fun σ' H' => ∃ M : Int, σ' = [some (.ref p), some (.ref d), some (.ref x.c), some (.ref x.k), some (.ref x.s), some (.ref hl), some (.int W), some (.ref g), some (.int (pl : Int)), some (.int (wy : Int)), some (.int (t : Nat)), some (.int (D.cs.getD t 0)), some (.ref bf), some (.int tk), some (.int A), some (.int M)] ∧ H' = H8 ∧ M ≤ A ∧ M ≤ (if pl = D.ks.length then D.ss.getD t 0 else (kt D pl).2.getD t 0) ∧ 0 ≤ M ∧ M ≤ 1000000, ?_, ?_⟩
          rotate_left
          · refine ⟨_, rfl, _, rfl, x.k, _, rfl, .inl hk8, ?_⟩
            rw [List.length_map, hD.len]
            refine ⟨rfl, _, rfl, ?_⟩
            by_cases c : pl = D.ks.length
            · refine ite_bT (decide_eq_true (by rw [c])) ?_
              refine ⟨_, rfl, _, rfl, ix_b (i := t) hD8.ss.1 rfl (ints_get (by rw [O.sl]; exact ht)) ?_⟩
              refine ⟨_, rfl, _, _, rfl, ?_⟩
              have := ldl_at N.ss t
              refine ⟨_, rfl, rfl, ?_, ?_, ?_, ?_⟩ <;> (try rw [if_pos c]) <;> split <;> omega
            · refine ite_bF (decide_eq_false fun e => c (by injection e with e; omega)) ?_
              obtain ⟨ka, tk', b', gk, hka, hta⟩ := hD8.pot (j := pl) (by omega)
              refine ⟨_, rfl, _, rfl, x.k, _, _, _, rfl, rfl, hk8, at_of rfl gk, ka, _, 1, _, rfl, rfl, hka, at1, _, rfl, ix_b (i := t) hta.1 rfl (ints_get (by rw [kt_len O (by omega)]; exact ht)) ?_⟩
              refine ⟨_, rfl, _, _, rfl, ?_⟩
              have := ldl_at (N.ks _ (kt_mem (p := pl) (by omega))).2.2 t
              refine ⟨_, rfl, rfl, ?_, ?_, ?_, ?_⟩ <;> (try rw [if_neg c]) <;> split <;> omega
          rintro σ H9 ⟨M, rfl, e9, MA, MT, M0, M6⟩
          obtain rfl := e9.symm
          have ep : ∀ {q : Nat}, q ≤ D.ks.length → q = pl + 1 → PS gg q (t + 1) = PS gg q t + tk ∧ 0 ≤ tk := fun {q} hq eq => by
            have l1 := len8 q hq
            rw [if_pos (by omega)] at l1
            have e1 := PS_succ (f := gg) (p := q) (t := t) (by omega)
            rw [if_neg (by omega), show D.ks.length + 1 - j = q by omega] at etk
            have := PS_mono (t := t) (nn8 q hq)
            omega
          refine ⟨fun σ' H' => ∃ (M' : Int) (L : List Int), σ' = [some (.ref p), some (.ref d), some (.ref x.c), some (.ref x.k), some (.ref x.s), some (.ref hl), some (.int W), some (.ref g), some (.int (pl : Int)), some (.int (wy : Int)), some (.int (t : Nat)), some (.int (D.cs.getD t 0)), some (.ref bf), some (.int tk), some (.int A), some (.int M')] ∧ 0 ≤ M' ∧ M' ≤ M ∧ Fr p H H' ∧ BoxAt H' p (nb + 1 + 18 * t + 2 * j) ∧ H' hl = some (.lst (L.map V.int)) ∧ H' bf = some (.lst ((heldV D gg t).map V.int)) ∧ H' g = some (.lst (rs.map V.ref)) ∧ RowsH H' H p hl g rs gg ∧ (pl < D.ks.length → L = (heldW D gg t j).set pl (PS gg pl t - PS gg (pl + 1) (t + 1)) ∧ M' ≤ (kt D pl).1 - (PS gg pl t - PS gg (pl + 1) (t + 1))) ∧ (¬ pl < D.ks.length → L = heldW D gg t j), ?_, ?_⟩
          rotate_left
          · refine ⟨_, rfl, _, rfl, x.k, _, rfl, .inl hk8, ?_⟩
            rw [List.length_map, hD.len]
            refine ⟨_, _, rfl, rfl, _, rfl, ?_⟩
            by_cases c : pl < D.ks.length
            · refine ite_bT (decide_eq_true (by omega)) ?_
              obtain ⟨e1, tk0⟩ := ep (q := pl + 1) (by omega) rfl
              have eh8 : ((heldW D gg t j).map V.int)[pl]? = some (.int (PS gg pl t - PS gg (pl + 1) t)) := by
                rw [List.getElem?_map, heldW_at c, if_neg (by omega)] <;> rfl
              refine ⟨_, rfl, _, rfl, hl, _, (pl : Int), _, rfl, rfl, SqL.of h8, at_of rfl eh8, _, rfl, _, _, rfl, rfl, _, rfl, _, rfl, hl, _, (pl : Int), pl, rfl, rfl, h8, ixN_d (by rw [List.length_map, heldW_len]; exact c), ?_⟩
              have eL : ((heldW D gg t j).map V.int).set pl (.int (PS gg pl t - PS gg (pl + 1) t - tk)) = ((heldW D gg t j).set pl (PS gg pl t - PS gg (pl + 1) (t + 1))).map V.int := by
                rw [List.map_set, show PS gg pl t - PS gg (pl + 1) t - tk = PS gg pl t - PS gg (pl + 1) (t + 1) by omega]
              rw [eL]
              have FU : Fr p H (upd H8 hl (.lst (((heldW D gg t j).set pl (PS gg pl t - PS gg (pl + 1) (t + 1))).map V.int))) := F8.put' nhlH
              have BU := B8.upd (o := .lst (((heldW D gg t j).set pl (PS gg pl t - PS gg (pl + 1) (t + 1))).map V.int)) hlp
              have hU : (upd H8 hl (.lst (((heldW D gg t j).set pl (PS gg pl t - PS gg (pl + 1) (t + 1))).map V.int))) hl = some (.lst (((heldW D gg t j).set pl (PS gg pl t - PS gg (pl + 1) (t + 1))).map V.int)) := upd_same
              have bU : (upd H8 hl (.lst (((heldW D gg t j).set pl (PS gg pl t - PS gg (pl + 1) (t + 1))).map V.int))) bf = some (.lst ((heldV D gg t).map V.int)) := by rw [upd_ne bfl]; exact hb8
              have gU : (upd H8 hl (.lst (((heldW D gg t j).set pl (PS gg pl t - PS gg (pl + 1) (t + 1))).map V.int))) g = some (.lst (rs.map V.ref)) := by rw [upd_ne hlg.symm]; exact hg8
              have RU := R8.put (o := .lst (((heldW D gg t j).set pl (PS gg pl t - PS gg (pl + 1) (t + 1))).map V.int))
              generalize upd H8 hl (.lst (((heldW D gg t j).set pl (PS gg pl t - PS gg (pl + 1) (t + 1))).map V.int)) = HU at FU BU hU bU gU RU
              have hDU := hD.fr hB FU
              have hkU : SqL K HU x.k (x.as.map V.ref) := by
                have z := hDU.ks
                rw [xk] at z
                exact z
              obtain ⟨ka, tk', b', gk, hka, hta⟩ := hDU.pot (j := pl) c
              have eU : (((heldW D gg t j).set pl (PS gg pl t - PS gg (pl + 1) (t + 1))).map V.int)[pl]? = some (.int (PS gg pl t - PS gg (pl + 1) (t + 1))) := by
                rw [List.getElem?_map, List.getElem?_set_self (by rw [heldW_len]; exact c)] <;> rfl
              refine ⟨_, rfl, _, rfl, _, rfl, x.k, _, _, _, rfl, rfl, hkU, at_of rfl gk, ka, _, 0, _, rfl, rfl, hka, at0, _, rfl, _, rfl, hl, _, (pl : Int), _, rfl, rfl, SqL.of hU, at_of rfl eU, _, _, rfl, rfl, _, _, rfl, ?_⟩
              have r1 := (N.ks _ (kt_mem c)).1
              have hr' := held_room (p := pl) (t := t) c (by omega) done8
              refine ⟨_, _, rfl, ?_, ?_, FU, BU, hU, bU, gU, RU, fun _ => ⟨rfl, ?_⟩, fun z => absurd c z⟩ <;> split <;> omega
            · refine ite_bF (decide_eq_false (by omega)) ?_
              exact ⟨M, heldW D gg t j, rfl, M0, Int.le_refl _, F8, B8, h8, hb8, hg8, R8, fun z => absurd z c, fun _ => rfl⟩
          rintro σ H9 ⟨M', L, rfl, M0', MM, F9, B9, h9, hb9, hg9, R9, eL, eL'⟩
          -- how many it takes
          refine ⟨_, rfl, _, rfl, _, rfl, _, _, rfl, rfl, p, M' + 1, _, rfl, B9, by omega, by omega, by omega, fun z1 H10 z10 z11 B10 F10 => ?_⟩
          refine ⟨_, rfl, _, rfl, p, 2, _, rfl, B10, by omega, by decide, by decide, fun z2 H11 z20 z21 B11 F11 => ?_⟩
          refine ⟨_, _, rfl, rfl, mulR (by omega), rfl, fun lv H12 s12 n12 h12 => ?_⟩
          obtain ⟨val, ev, v0, vM⟩ : ∃ val : Int, atI ([.int M', .int z1, .int (M' * z2)] : List V) (wy : Int) = some (.int val) ∧ 0 ≤ val ∧ val ≤ M' := by
            have cs : wy = 0 ∨ wy = 1 ∨ wy = 2 := by omega
            rcases cs with c | c | c <;> subst c
            · exact ⟨M', rfl, M0', Int.le_refl _⟩
            · exact ⟨z1, rfl, z10, by omega⟩
            · have cz : z2 = 0 ∨ z2 = 1 := by omega
              rcases cz with e | e <;> subst e
              · exact ⟨M' * 0, rfl, by omega, by omega⟩
              · exact ⟨M' * 1, rfl, by omega, by omega⟩
          refine ⟨_, rfl, lv, _, (wy : Int), _, rfl, rfl, SqL.of h12, ev, ?_⟩
          have F912 : Fr p H9 H12 := F10.trans (F11.trans (.of s12))
          have F12 : Fr p H H12 := F9.trans F912
          have B12 := B11.same s12
          have h12' := F912 _ _ hlp h9
          have hb12 := F912 _ _ bfp hb9
          have hg12 := F912 _ _ gp hg9
          have R12 := R9.fr F912
          have eApp := heldW_app (D := D) (g := gg) (pl := pl) (t := t) (j := j) (v := val) lpl len8
          refine ⟨fun σ' H' => σ' = [some (.ref p), some (.ref d), some (.ref x.c), some (.ref x.k), some (.ref x.s), some (.ref hl), some (.int W), some (.ref g), some (.int (pl : Int)), some (.int (wy : Int)), some (.int (t : Nat)), some (.int (D.cs.getD t 0)), some (.ref bf), some (.int val), some (.int A), some (.int M')] ∧ Fr p H H' ∧ BoxAt H' p (nb + 1 + 18 * t + 2 * (j + 1)) ∧ H' hl = some (.lst ((heldW D (appF gg pl val) t (j + 1)).map V.int)) ∧ H' bf = some (.lst ((heldV D gg t).map V.int)) ∧ H' g = some (.lst (rs.map V.ref)) ∧ RowsH H' H p hl g rs gg, ?_, ?_⟩
          rotate_left
          · have hk12 : SqL K H12 x.k (x.as.map V.ref) := by
              have z := (hD.fr hB F12).ks
              rw [xk] at z
              exact z
            refine ⟨_, rfl, _, rfl, x.k, _, rfl, .inl hk12, ?_⟩
            rw [List.length_map, hD.len]
            refine ⟨_, _, rfl, rfl, _, rfl, ?_⟩
            by_cases c : pl < D.ks.length
            · refine ite_bT (decide_eq_true (by omega)) ?_
              obtain ⟨eL1, _⟩ := eL c
              subst eL1
              have eU : (((heldW D gg t j).set pl (PS gg pl t - PS gg (pl + 1) (t + 1))).map V.int)[pl]? = some (.int (PS gg pl t - PS gg (pl + 1) (t + 1))) := by
                rw [List.getElem?_map, List.getElem?_set_self (by rw [heldW_len]; exact c)] <;> rfl
              refine ⟨_, rfl, _, rfl, hl, _, (pl : Int), _, rfl, rfl, SqL.of h12', at_of rfl eU, _, rfl, _, _, rfl, rfl, _, rfl, _, rfl, hl, _, (pl : Int), pl, rfl, rfl, h12', ixN_d (by rw [List.length_map, List.length_set, heldW_len]; exact c), ?_⟩
              rw [if_pos c] at eApp
              have eS : (((heldW D gg t j).set pl (PS gg pl t - PS gg (pl + 1) (t + 1))).map V.int).set pl (.int (PS gg pl t - PS gg (pl + 1) (t + 1) + val)) = (heldW D (appF gg pl val) t (j + 1)).map V.int := by
                rw [eApp, ← List.map_set, List.set_set, show PS gg pl t - PS gg (pl + 1) (t + 1) + val = PS gg pl t + val - PS gg (pl + 1) (t + 1) by omega]
              rw [eS]
              exact ⟨rfl, F12.put' nhlH, (B12.upd hlp).mono (by omega), upd_same, by rw [upd_ne bfl]; exact hb12, by rw [upd_ne hlg.symm]; exact hg12, R12.put⟩
            · refine ite_bF (decide_eq_false (by omega)) ?_
              rw [if_neg c] at eApp
              rw [eL' c, ← eApp] at h12'
              exact ⟨rfl, F12, B12.mono (by omega), h12', hb12, hg12, R12⟩
          rintro σ HU ⟨rfl, FU, BU, hU, bU, gU, RU⟩
          obtain ⟨r, er⟩ : ∃ r, rs[pl]? = some r := ⟨rs[pl]'(by omega), List.getElem?_eq_getElem _⟩
          have Rr := RU pl r er
          refine ⟨_, rfl, _, rfl, g, _, (pl : Int), _, rfl, rfl, SqL.of gU, at_of rfl (show (rs.map V.ref)[pl]? = some (.ref r) by rw [List.getElem?_map, er] <;> rfl), .inl ⟨rfl, _, SqL.of Rr.1⟩, _, rfl, r, _, _, rfl, rfl, Rr.1, by rw [List.length_map, lenp]; exact small' (by omega), ?_⟩
          refine ⟨appF gg pl val, W, val, _, _, _, rfl, FU.put' Rr.2.1, BU.upd Rr.2.2.1, by rw [upd_ne Rr.2.2.2.1.symm]; exact hU, by rw [upd_ne (rbf er).symm, heldV_app lent]; exact bU, by rw [PS_le (lent 0 (Nat.zero_le _))]; exact eW8, by rw [upd_ne Rr.2.2.2.2.symm]; exact gU, RU.row nd er, fun q hq => ?_, fun q hq => ?_, fun pl' t' hp' lt => ?_, fun pl' hp' lt => ?_, ?_⟩
          · by_cases c : q = pl
            · subst c
              rw [appF_eq, List.length_append, if_pos (by omega), lenp] <;> rfl
            · rw [appF_ne c, len8 q hq]
              by_cases c2 : D.ks.length < q + j
              · rw [if_pos c2, if_pos (by omega)]
              · rw [if_neg c2, if_neg (by omega)]
          · by_cases c : q = pl
            · subst c
              rw [appF_eq]
              intro z hz
              rcases List.mem_append.mp hz with m | m
              · exact ldl8 q hq z m
              · rw [List.mem_singleton.mp m]
                omega
            · rw [appF_ne c]
              exact ldl8 q hq
          · exact (done8 pl' t' hp' lt).app hp' (by have := lent pl' hp'; omega) (fun q hq => by have := lent q hq; omega) fun z => by have := lent (pl' + 1) (by omega); omega
          · by_cases c : pl' = pl
            · subst c
              refine ⟨?_, ?_, fun z => ?_⟩
              · rw [PS_new lenp]
                by_cases c0 : pl' = 0
                · rw [if_pos c0] at eA ⊢
                  omega
                · rw [if_neg c0] at eA ⊢
                  rw [PS_le (lent (pl' - 1) (by omega))]
                  omega
              · rw [PX_new lenp]
                omega
              · rw [PS_new lenp, PS_ne (by omega)]
                have := (eL z).2
                omega
            · exact (cur8 pl' hp' (by omega)).app hp' (by rw [len8 pl' hp', if_pos (by omega)]; omega) lent fun z => by rw [len8 (pl' + 1) (by omega), if_pos (by omega)]; omega
          · rw [if_neg (Nat.succ_ne_zero _), show D.ks.length + 1 - (j + 1) = pl by omega, PX_new lenp]
        · rintro σ H8 ⟨gg, W, tk, v8, v14, v15, rfl, F8, B8, h8, hb8, eW8, hg8, R8, len8, ldl8, done8, cur8, etk⟩
          rw [eN] at h8 len8 cur8 etk B8
          rw [if_neg (Nat.succ_ne_zero _), Nat.sub_self] at etk
          refine ⟨_, rfl, _, rfl, _, _, rfl, rfl, ?_⟩
          have l0 := len8 0 (Nat.zero_le _)
          rw [if_pos (by omega)] at l0
          have e0 := PS_succ (f := gg) (p := 0) (t := t) (by omega)
          refine ⟨gg, _, _, _, _, _, _, _, _, rfl, F8, B8.mono (by omega), by rw [← heldW_all]; exact h8, by omega, hg8, R8, fun q hq => by rw [len8 q hq, if_pos (by omega)], ldl8, fun pl t' hp lt => ?_⟩
          by_cases c : t' < t
          · exact done8 pl t' hp c
          · obtain rfl : t' = t := by omega
            exact cur8 pl hp (by omega)
      · rintro σ H5 ⟨f, wt, v8, v10, v11, v12, v13, v14, v15, rfl, F5, B5, h5, rfl, hg5, R5, len5, ldl5, done5⟩
        rw [List.length_map] at len5 done5 B5
        refine ⟨_, rfl, ?_⟩
        have eG : ∀ q, q ≤ D.ks.length → ((List.range (D.ks.length + 1)).map f)[q]? = some (f q) := fun q hq => by rw [List.getElem?_map, List.getElem?_range (by omega)] <;> rfl
        have eF : ∀ q, q ≤ D.ks.length → rowF ((List.range (D.ks.length + 1)).map f) q = f q := fun q hq => rowF_at (eG q hq)
        have PO : PlanOk D ((List.range (D.ks.length + 1)).map f) := ⟨by rw [List.length_map, List.length_range], fun r hr => by
          obtain ⟨q, hq, rfl⟩ := List.mem_map.mp hr
          have hq := List.mem_range.mp hq
          exact ⟨len5 q (by omega), fun z hz => (ldl5 q (by omega) z hz).1⟩⟩
        have eS : ∀ q u, q ≤ D.ks.length → PS (rowF ((List.range (D.ks.length + 1)).map f)) q u = PS f q u := fun q u hq => by unfold PS; rw [eF q hq]
        have eX : ∀ q u, q ≤ D.ks.length → PX (rowF ((List.range (D.ks.length + 1)).map f)) q u = PX f q u := fun q u hq => by unfold PX; rw [eF q hq]
        have lds : ∀ r ∈ (List.range (D.ks.length + 1)).map f, Ldl r := fun r hr => by
          obtain ⟨q, hq, rfl⟩ := List.mem_map.mp hr
          have hq := List.mem_range.mp hq
          exact ldl5 q (by omega)
        refine q g _ H5 (B5.mono (by omega)) F5 ngH (tg_plan hg5 gp ⟨by rw [List.length_map, List.length_range, lr], fun q' r xs er exs => ?_⟩ fun xs hx z hz => by have := lds xs hx z hz; omega) PO (fun pl t hp ht => ?_) lds
        · have hq : q' ≤ D.ks.length := by have := (List.getElem?_eq_some_iff.mp er).1; omega
          rw [eG q' hq] at exs
          cases exs
          exact ⟨(R5 q' r er).1, (R5 q' r er).2.2.1⟩
        · obtain ⟨a1, a2, a3⟩ := done5 pl t hp ht
          refine ⟨?_, ?_, fun lt => ?_⟩
          · rw [eS pl _ hp]
            by_cases c : pl = 0
            · rw [if_pos c] at a1 ⊢
              exact a1
            · rw [if_neg c] at a1 ⊢
              rw [eS (pl - 1) _ (by omega)]
              exact a1
          · rw [eX pl _ hp]
            exact a2
          · rw [eS pl _ hp, eS (pl + 1) _ (by omega)]
            exact a3 lt

end
end KR
namespace KR
open PySem PySem.Spec PyProof.Rows L2
section
variable {P : Program} {w : World} {K : PySem.W.Frag} {mg : Str → Option Value} {base : Heap}
theorem ixN_s {n i : Nat} (h : i < n) : ixN n (i : Int) = some i := by
  unfold ixN
  rw [if_pos (by omega), if_pos (by omega), Int.toNat_natCast]
def sp_l_step (K : PySem.W.Frag) : Sp := fun vs H Q _ => ∃ (p : Addr) (nb B n : Nat) (v : V) (Xs : List (List Int)), vs = [.ref p, v] ∧ BoxAt H p nb ∧ nb ≤ 999000000 ∧ Tg K (fun a => a = p) H B n v (planX Xs) ∧ 1 ≤ Xs.length ∧ Xs.length ≤ 9 ∧ (∀ r ∈ Xs, 1 ≤ r.length ∧ r.length ≤ 48 ∧ ∀ z ∈ r, z.natAbs ≤ B) ∧
  ∀ (f : Addr) (Ys : List (List Int)) (H' : Hp), BoxAt H' p (nb + 3) → Fr p H H' → Tg K (fun a => a = p) H' (B + 1) 2 (.ref f) (planX Ys) → Ys.length = Xs.length → (∀ r ∈ Ys, 1 ≤ r.length ∧ r.length ≤ 48 ∧ ∀ z ∈ r, z.natAbs ≤ B + 1) → Q (.ref f) H'
theorem ok_l_step (T : All K mg) : FnOk P w K mg base CX0 2 T.f_l_step T.fd_l_step ["_law_box_here", "_law_plan"] (sp_l_step K) := by
  refine T.d_l_step.fn.ok sc_l_step (fun vs H Q E h => ?_) (fun cdv A outer s H vs Q E hr h => ?_)
  · obtain ⟨p, nb, B, n, v, Xs, rfl, _⟩ := h
    rfl
  · obtain ⟨p, nb, B, n, v, Xs, rfl, hB, hnb, hv, x1, x9, rows, q⟩ := h
    refine ⟨_, (pss_cons (ps_setLc (i := 2) (own := [("_law_row", 3)]) (g := gName 3) (tt := tYes) (by rfl) sc_l_step.nd rfl rfl (sw_true rfl rfl rfl (by decide +kernel)) (pi_listK (K := K) rfl (pv 1)) (blkOk_by (own := [("_law_row", 3)]) (N := ["_law_box_here", "_law_plan", "_law_found", "_law_row", "_law_at", "_law_way"]) (sc := defScope s_l_step) (by decide +kernel)) (fun _ _ _ _ _ => (pg_name (i := 3) sc_l_step.nd rfl (by first | exact Or.inl rfl | exact Or.inr rfl))) (fun _ _ _ _ _ => pts_nil) (fun _ _ _ _ _ => (pe_callTy (listI (K := K) rfl) (by rfl) T.b_list (by decide +kernel) (pa_cons (pv 3) pa_nil))))
      (pss_cons (ps_set (i := 3) sc_l_step.nd rfl (by first | exact Or.inl rfl | exact Or.inr rfl) (pe_ix (ixL (K := K) rfl) (pv 2) (pe_call (ok_l_take T) hr (by rfl) T.d_l_take.mg T.d_l_take.fn.kp T.d_l_take.b .nil pass0 (pa_cons (pv 0) (pa_cons (pe_callB (lenQ (K := K) rfl) (by rfl) T.b_len PySem.boot_len (pa_cons (pv 2) pa_nil)) pa_nil))) (fun _ _ => rfl)))
      (pss_cons (ps_par (i := 4) (j := 5) (by rfl) sc_l_step.nd rfl rfl (by decide) rfl rfl (pa_cons (pe_call (ok_l_take T) hr (by rfl) T.d_l_take.mg T.d_l_take.fn.kp T.d_l_take.b .nil pass0 (pa_cons (pv 0) (pa_cons (pe_callB (lenQ (K := K) rfl) (by rfl) T.b_len PySem.boot_len (pa_cons (pv 3) pa_nil)) pa_nil))) (pa_cons (pe_call (ok_l_take T) hr (by rfl) T.d_l_take.mg T.d_l_take.fn.kp T.d_l_take.b .nil pass0 (pa_cons (pv 0) (pa_cons pe_int pa_nil))) pa_nil)) (by rfl))
      (pss_cons (ps_asg (pe_op op_add (pe_ix (ixL (K := K) rfl) (pv 3) (pv 4) (fun _ _ => rfl)) (pe_ix (ixL (K := K) rfl) (pe_lstI (pa_cons pe_int (pa_cons (pe_un un_neg pe_int) (pa_cons pe_int (pa_cons (pe_un un_neg pe_int) pa_nil))))) (pv 5) (fun _ _ => rfl))) (pg_sub (pv 3) (pv 4) set_list))
      (pss_cons (ps_J (ps_if (PW.pt (pw_and (pt_cmpR op_gt (pv 5) pe_int (nomark _)) (pw_and1 (pt_cmpR op_lt (pe_op op_add (pv 4) pe_int) (pe_callB (lenQ (K := K) rfl) (by rfl) T.b_len PySem.boot_len (pa_cons (pv 3) pa_nil)) (nomark _))))) (pss_one (ps_asg (pe_op op_sub (pe_ix (ixL (K := K) rfl) (pv 3) (pe_op op_add (pv 4) pe_int) (fun _ _ => rfl)) (pe_ix (ixL (K := K) rfl) (pe_lstI (pa_cons pe_int (pa_cons (pe_un un_neg pe_int) pa_nil))) (pe_op op_sub (pv 5) pe_int) (fun _ _ => rfl))) (pg_sub (pv 3) (pe_op op_add (pv 4) pe_int) set_list))) pss_nil))
      (pss_one (ps_ret (pv 2)))))))), ?_⟩
    obtain ⟨f, rs, rfl, hf, nf, R⟩ := plan_tg hv
    have lr : rs.length = Xs.length := R.1
    refine ⟨_, rfl, f, rfl, ⟨_, SqL.of hf⟩, fun g hg => ?_⟩
    have gp : g ≠ p := hB.new hg
    refine lc_it (walk_list (K := K) (a := f) (xs := rs.map V.ref)) (fun j H' => ∃ cs : List Addr, Same H H' ∧ H' g = some (.lst (cs.map V.ref)) ∧ cs.length = j ∧ cs.Nodup ∧ ∀ (i : Nat) (c : Addr) (xs : List Int), cs[i]? = some c → Xs[i]? = some xs → H' c = some (.lst (xs.map V.int)) ∧ H c = none ∧ c ≠ g)
      ⟨[], same_new hg, upd_same, rfl, List.nodup_nil, fun i c xs e => by simp at e⟩ (fun j H' _ ⟨_, s, _⟩ => SqL.of (s _ _ hf)) ?_ ?_
    · rintro j v H3 H4 hj ⟨cs, s3, hg3, lc, nd, all⟩ ⟨rfl, hv'⟩
      rw [List.getElem?_map] at hv'
      obtain ⟨r, er, rfl⟩ := Option.map_eq_some_iff.mp hv'
      rw [List.length_map] at hj
      obtain ⟨xs, exs⟩ : ∃ xs, Xs[j]? = some xs := ⟨_, List.getElem?_eq_getElem (by omega)⟩
      have hr' := (R.2 j r xs er exs).1
      refine ⟨rfl, yesT ?_⟩
      refine ⟨_, rfl, r, _, rfl, .inl (SqL.of (s3 _ _ hr')), fun c H5 s5 n5 h5 => ?_⟩
      have hg5 := s5 _ _ hg3
      have cg : c ≠ g := (ne_of_none hg3 n5).symm
      refine ⟨_, hg5, by rw [List.length_map]; exact small' (by omega), cs ++ [c], Same.put (s3.trans s5) hg, by rw [upd_same, List.map_append] <;> rfl, by rw [List.length_append, lc] <;> rfl, ?_, fun i c' xs' e1 e2 => ?_⟩
      · refine List.nodup_append.mpr ⟨nd, List.nodup_cons.mpr ⟨List.not_mem_nil, List.nodup_nil⟩, fun a ha b hb e => ?_⟩
        rw [List.mem_singleton.mp hb] at e
        obtain ⟨i, hi⟩ := List.mem_iff_getElem?.mp ha
        have li := (List.getElem?_eq_some_iff.mp hi).1
        obtain ⟨ys, eys⟩ : ∃ ys, Xs[i]? = some ys := ⟨_, List.getElem?_eq_getElem (by omega)⟩
        have z := (all i a ys hi eys).1
        rw [e, n5] at z
        cases z
      · by_cases ci : i < cs.length
        · rw [List.getElem?_append_left ci] at e1
          obtain ⟨z1, z2, z3⟩ := all i c' xs' e1 e2
          exact ⟨by rw [upd_ne z3]; exact s5 _ _ z1, z2, z3⟩
        · have il : i = cs.length := by
            have := (List.getElem?_eq_some_iff.mp e1).1
            rw [List.length_append, List.length_singleton] at this
            omega
          subst il
          rw [List.getElem?_append_right (Nat.le_refl _), Nat.sub_self] at e1
          cases e1
          rw [lc, exs] at e2
          cases e2
          exact ⟨by rw [upd_ne cg]; exact h5, same_none' s3 n5, cg⟩
    · rintro H3 ⟨cs, s3, hg3, lc, nd, all⟩
      rw [List.length_map, lr] at lc
      have B3 := hB.same s3
      refine ⟨_, rfl, _, rfl, _, rfl, g, _, rfl, .inl (SqL.of hg3), p, _, nb, rfl, B3, by omega, by rw [List.length_map]; omega, by rw [List.length_map]; omega, fun a H4 a0 a1 B4 F4 => ?_⟩
      rw [List.length_map, lc] at a1
      obtain ⟨i, rfl⟩ : ∃ i : Nat, a = (i : Int) := ⟨a.toNat, by omega⟩
      have iX : i < Xs.length := by omega
      obtain ⟨c, ec⟩ : ∃ c, cs[i]? = some c := ⟨cs[i]'(by omega), List.getElem?_eq_getElem _⟩
      obtain ⟨xs, exs⟩ : ∃ xs, Xs[i]? = some xs := ⟨Xs[i], List.getElem?_eq_getElem iX⟩
      obtain ⟨r1, r2, r3⟩ := rows xs (List.mem_of_getElem? exs)
      obtain ⟨hc3, nc, cg⟩ := all i c xs ec exs
      have cp : c ≠ p := hB.new nc
      have hg4 := F4 _ _ gp hg3
      have hc4 := F4 _ _ cp hc3
      refine ⟨g, _, (i : Int), _, rfl, rfl, SqL.of hg4, at_of rfl (show (cs.map V.ref)[i]? = some (.ref c) by rw [List.getElem?_map, ec] <;> rfl), ?_⟩
      refine ⟨_, rfl, _, rfl, c, _, rfl, .inl (SqL.of hc4), p, _, _, rfl, B4, by omega, by rw [List.length_map]; omega, by rw [List.length_map]; omega, fun b H5 b0 b1 B5 F5 => ?_⟩
      rw [List.length_map] at b1
      obtain ⟨k, rfl⟩ : ∃ k : Nat, b = (k : Int) := ⟨b.toNat, by omega⟩
      have kx : k < xs.length := by omega
      refine ⟨_, rfl, p, 4, _, rfl, B5, by omega, by decide, by decide, fun way H6 w0 w1 B6 F6 => ⟨_, _, rfl, ?_⟩⟩
      have F46 : Fr p H3 H6 := F4.trans (F5.trans F6)
      have hc6 := F46 _ _ cp hc3
      refine ⟨_, rfl, _, rfl, c, _, (k : Int), _, rfl, rfl, SqL.of hc6, at_of rfl (ints_get kx), _, rfl, _, rfl, rfl, fun l1 H7 s7 n7 h7 => ?_⟩
      obtain ⟨δ, eδ, δ1⟩ : ∃ δ : Int, atI ([.int 1, .int (-1), .int 1, .int (-1)] : List V) way = some (.int δ) ∧ δ.natAbs ≤ 1 := by
        have cs : way = 0 ∨ way = 1 ∨ way = 2 ∨ way = 3 := by omega
        rcases cs with e | e | e | e <;> subst e <;> exact ⟨_, rfl, by decide⟩
      have hc7 := s7 _ _ hc6
      refine ⟨_, rfl, l1, _, way, _, rfl, rfl, SqL.of h7, eδ, _, _, rfl, rfl, _, rfl, _, rfl, c, _, (k : Int), k, rfl, rfl, hc7, ixN_s (by rw [List.length_map]; exact kx), ?_⟩
      have e8 : (xs.map V.int).set k (.int (xs.getD k 0 + δ)) = (xs.set k (xs.getD k 0 + δ)).map V.int := by rw [List.map_set]
      rw [e8]
      have lx : ∀ z ∈ xs, z.natAbs ≤ B := r3
      have gd : ∀ u, u < xs.length → (xs.getD u 0).natAbs ≤ B := fun u hu => by
        rw [List.getD_eq_getElem?_getD, List.getElem?_eq_getElem hu]
        exact lx _ (List.getElem_mem hu)
      have A1 : ∀ z ∈ xs.set k (xs.getD k 0 + δ), z.natAbs ≤ B + 1 := fun z hz => by
        rcases List.mem_or_eq_of_mem_set hz with m | m
        · have := lx z m
          omega
        · rw [m]
          have := gd k kx
          omega
      have L1 : (xs.set k (xs.getD k 0 + δ)).length = xs.length := List.length_set
      have FU : Fr p H (upd H7 c (.lst ((xs.set k (xs.getD k 0 + δ)).map V.int))) := ((Fr.of s3).trans (F46.trans (.of s7))).put' nc
      have BU := (B6.same s7).upd (o := .lst ((xs.set k (xs.getD k 0 + δ)).map V.int)) cp
      have cU : (upd H7 c (.lst ((xs.set k (xs.getD k 0 + δ)).map V.int))) c = some (.lst ((xs.set k (xs.getD k 0 + δ)).map V.int)) := upd_same
      have kU : ∀ a o, a ≠ p → a ≠ c → H3 a = some o → (upd H7 c (.lst ((xs.set k (xs.getD k 0 + δ)).map V.int))) a = some o := fun a o ap ac e => by
        rw [upd_ne ac]
        exact s7 _ _ (F46 _ _ ap e)
      generalize hz : xs.set k (xs.getD k 0 + δ) = zs at *
      generalize upd H7 c (.lst (zs.map V.int)) = H8 at FU BU cU kU
      refine ⟨fun σ' H' => ∃ ys : List Int, σ' = [some (.ref p), some (.ref f), some (.ref g), some (.ref c), some (.int (k : Int)), some (.int way)] ∧ Fr p H H' ∧ BoxAt H' p (nb + 3) ∧ H' c = some (.lst (ys.map V.int)) ∧ (∀ a o, a ≠ p → a ≠ c → H3 a = some o → H' a = some o) ∧ ys.length = xs.length ∧ ∀ z ∈ ys, z.natAbs ≤ B + 1, ?_, ?_⟩
      · rintro σ' H' ⟨ys, rfl, F', B', hc', keep, ly, ly2⟩
        refine ⟨_, rfl, ?_⟩
        have Rg : ∀ z ∈ Xs.set i ys, 1 ≤ z.length ∧ z.length ≤ 48 ∧ ∀ y ∈ z, y.natAbs ≤ B + 1 := fun z hz => by
          rcases List.mem_or_eq_of_mem_set hz with m | m
          · obtain ⟨q1, q2, q3⟩ := rows z m
            exact ⟨q1, q2, fun y hy => by have := q3 y hy; omega⟩
          · rw [m]
            exact ⟨by omega, by omega, ly2⟩
        refine q g (Xs.set i ys) H' B' F' (tg_plan (keep g _ gp (fun e => cg e.symm) hg3) gp ⟨by rw [List.length_set]; exact lc, fun u cu zs' e1 e2 => ?_⟩ fun xs' hx => (Rg xs' hx).2.2) List.length_set Rg
        rw [List.getElem?_set] at e2
        by_cases cu' : i = u
        · subst cu'
          rw [ec] at e1
          cases e1
          rw [if_pos rfl, if_pos iX] at e2
          cases e2
          exact ⟨hc', cp⟩
        · rw [if_neg cu'] at e2
          obtain ⟨z1, z2, z3⟩ := all u cu zs' e1 e2
          have ne : cu ≠ c := fun z => by
            rw [z, ← ec] at e1
            exact cu' ((List.getElem?_inj (List.getElem?_eq_some_iff.mp (e1.trans ec)).1 nd).mp e1).symm
          exact ⟨keep _ _ (hB.new z2) ne z1, hB.new z2⟩
      · refine ⟨_, rfl, _, _, rfl, rfl, _, rfl, ?_⟩
        by_cases cw : 1 < way
        rotate_left
        · exact ite_bF (decide_eq_false cw) ⟨zs, rfl, FU, BU, cU, kU, L1, A1⟩
        refine ite_bT (decide_eq_true cw) ?_
        refine ⟨_, rfl, _, _, rfl, rfl, _, rfl, c, _, rfl, .inl (SqL.of cU), _, _, rfl, rfl, _, rfl, ?_⟩
        rw [List.length_map]
        by_cases ck : k + 1 < zs.length
        rotate_left
        · exact ite_bF (decide_eq_false (by omega)) ⟨zs, rfl, FU, BU, cU, kU, L1, A1⟩
        refine ite_bT (decide_eq_true (by omega)) ?_
        obtain ⟨ε, eε, ε1⟩ : ∃ ε : Int, atI ([.int 1, .int (-1)] : List V) (way - 2) = some (.int ε) ∧ ε.natAbs ≤ 1 := by
          have cs : way = 2 ∨ way = 3 := by omega
          rcases cs with e | e <;> subst e <;> exact ⟨_, rfl, by decide⟩
        refine ⟨_, rfl, _, rfl, _, _, rfl, rfl, c, _, (k : Int) + 1, _, rfl, rfl, SqL.of cU, at_of (j := k + 1) (by omega) (ints_get ck), _, rfl, rfl, fun l2 H9 s9 n9 h9 => ?_⟩
        have hc9 := s9 _ _ cU
        refine ⟨_, rfl, _, _, rfl, rfl, l2, _, way - 2, _, rfl, rfl, SqL.of h9, eε, _, _, rfl, rfl, _, rfl, _, rfl, _, _, rfl, rfl, c, _, (k : Int) + 1, k + 1, rfl, rfl, hc9, ixN_s (by rw [List.length_map]; exact ck), ?_⟩
        have e10 : (zs.map V.int).set (k + 1) (.int (zs.getD (k + 1) 0 - ε)) = (zs.set (k + 1) (zs.getD (k + 1) 0 - ε)).map V.int := by rw [List.map_set]
        rw [e10]
        have eo : zs.getD (k + 1) 0 = xs.getD (k + 1) 0 := by
          rw [← hz, List.getD_eq_getElem?_getD, List.getElem?_set, if_neg (by omega), ← List.getD_eq_getElem?_getD]
        refine ⟨zs.set (k + 1) (zs.getD (k + 1) 0 - ε), rfl, (FU.trans (.of s9)).put' nc, (BU.same s9).upd cp, upd_same, fun a o ap ac e => ?_, by rw [List.length_set]; exact L1, fun z hz' => ?_⟩
        · rw [upd_ne ac]
          exact s9 _ _ (kU a o ap ac e)
        · rcases List.mem_or_eq_of_mem_set hz' with m | m
          · exact A1 z m
          · rw [m, eo]
            have := gd (k + 1) (by omega)
            omega

end
end KR
namespace KR
open PySem PySem.Spec PyProof.Rows L2
section
variable {P : Program} {w : World} {K : PySem.W.Frag} {mg : Str → Option Value} {base : Heap}
def sp_p_places_in (K : PySem.W.Frag) : Sp := fun vs H Q _ => ∃ (p d : Addr) (x : DyP) (D : Dy), vs = [.ref d] ∧ DayAt K H p d x D ∧ Q (.int ((D.ks.length : Int) + 1)) H
theorem ok_p_places_in (T : All K mg) : FnOk P w K mg base CX0 1 T.f_p_places_in T.fd_p_places_in ["day"] (sp_p_places_in K) := by
  refine T.d_p_places_in.fn.ok sc_p_places_in (fun vs H Q E h => ?_) (fun cdv A outer s H vs Q E hr h => ?_)
  · obtain ⟨p, d, x, D, rfl, _⟩ := h
    rfl
  · obtain ⟨p, d, x, D, rfl, hD, q⟩ := h
    refine ⟨_, (pss_one (ps_ret (pe_op op_add (pe_callB (lenA (K := K) rfl) (by rfl) T.b_len PySem.boot_len (pa_cons (pe_ix (ixT (K := K) rfl) (pv 0) pe_int (fun _ _ => rfl)) pa_nil)) pe_int))), ?_⟩
    refine ⟨_, rfl, d, _, 1, _, rfl, rfl, hD.at_, at1, _, _, rfl, lenV_b hD.ks, _, _, rfl, rfl, ?_⟩
    rw [List.length_map, hD.len]
    exact q

end
end KR
namespace KR
open PySem PySem.Spec PyProof.Rows L2
section
variable {P : Program} {w : World} {K : PySem.W.Frag} {mg : Str → Option Value} {base : Heap}
def sp_p_hours_in (K : PySem.W.Frag) : Sp := fun vs H Q _ => ∃ (p d : Addr) (x : DyP) (D : Dy), vs = [.ref d] ∧ DayAt K H p d x D ∧ Q (.int (D.cs.length : Int)) H
theorem ok_p_hours_in (T : All K mg) : FnOk P w K mg base CX0 1 T.f_p_hours_in T.fd_p_hours_in ["day"] (sp_p_hours_in K) := by
  refine T.d_p_hours_in.fn.ok sc_p_hours_in (fun vs H Q E h => ?_) (fun cdv A outer s H vs Q E hr h => ?_)
  · obtain ⟨p, d, x, D, rfl, _⟩ := h
    rfl
  · obtain ⟨p, d, x, D, rfl, hD, q⟩ := h
    refine ⟨_, (pss_one (ps_ret (pe_callB (lenA (K := K) rfl) (by rfl) T.b_len PySem.boot_len (pa_cons (pe_ix (ixT (K := K) rfl) (pv 0) pe_int (fun _ _ => rfl)) pa_nil)))), ?_⟩
    refine ⟨_, rfl, d, _, 0, _, rfl, rfl, hD.at_, at0, _, _, rfl, lenV_b hD.cs.1, ?_⟩
    rw [List.length_map]
    exact q

end
end KR
namespace KR
open PySem PySem.Spec PyProof.Rows L2
section
variable {P : Program} {w : World} {K : PySem.W.Frag} {mg : Str → Option Value} {base : Heap}
def sp_p_bounds_at (K : PySem.W.Frag) : Sp := fun vs H Q _ => ∃ (p d : Addr) (x : DyP) (D : Dy) (pl t : Nat) (h : Int), vs = [.ref d, .int (pl : Int), .int h] ∧ h = (t : Int) - 1 ∧ DayAt K H p d x D ∧ DyOk D ∧ pl ≤ D.ks.length ∧ t ≤ D.cs.length ∧
  ∀ (b : Addr) (kvs : List (Key × V)) (H' : Hp), Same H H' → H b = none → H' b = some (.dK kvs) → AllBd H' kvs (bnds D pl t) → Q (.ref b) H'
theorem ok_p_bounds_at (T : All K mg) : FnOk P w K mg base CX0 1 T.f_p_bounds_at T.fd_p_bounds_at ["day", "place", "hour"] (sp_p_bounds_at K) := by
  refine T.d_p_bounds_at.fn.ok sc_p_bounds_at (fun vs H Q E h => ?_) (fun cdv A outer s H vs Q E hr h => ?_)
  · obtain ⟨p, d, x, D, pl, t, h, rfl, _⟩ := h
    rfl
  · obtain ⟨p, d, x, D, pl, t, h, rfl, eh, hD, O, lp, lt, q⟩ := h
    refine ⟨_, (pss_cons (ps_if (pt_cmpR op_eq (pv 2) (pe_glob (v := .int (-1)) rfl T.c_AHEAD_OF_ALL ⟨_, rfl⟩) (nomark _)) (pss_one (ps_ret (pe_disp (pps_cons pe_str (pe_tupI (pa_cons pe_non (pa_cons pe_int pa_nil))) pps_nil) rfl rfl (by simp) (by decide)))) pss_nil)
      (pss_cons (ps_asg (pv 0) (pg_tupK (K := K) rfl rfl (pgs_cons (pg_name (i := 3) sc_p_bounds_at.nd rfl (by first | exact Or.inl rfl | exact Or.inr rfl)) (pgs_cons (pg_name (i := 4) sc_p_bounds_at.nd rfl (by first | exact Or.inl rfl | exact Or.inr rfl)) (pgs_cons (pg_name (i := 5) sc_p_bounds_at.nd rfl (by first | exact Or.inl rfl | exact Or.inr rfl)) pgs_nil)))))
      (pss_cons (ps_J (ps_if (pt_cmpR op_eq (pv 1) pe_int (nomark _)) (pss_one (ps_set (i := 6) sc_p_bounds_at.nd rfl (by first | exact Or.inl rfl | exact Or.inr rfl) (pe_disp (pps_cons pe_str (pe_tupI (pa_cons pe_non (pa_cons (pe_callB (sumBK (K := K) rfl rfl) (by rfl) T.b_sum (by decide +kernel) (pa_cons (pe_slice (slBK (K := K) rfl) (pv 3) po_none (po_some (pe_op op_add (pv 2) pe_int))) pa_nil)) pa_nil))) pps_nil) rfl rfl (by simp) (by decide)))) (pss_one (ps_set (i := 6) sc_p_bounds_at.nd rfl (by first | exact Or.inl rfl | exact Or.inr rfl) (pe_disp (pps_cons pe_str (pe_tupI (pa_cons (pe_tupI (pa_cons (pe_op op_sub (pv 1) pe_int) (pa_cons (pe_op op_sub (pv 2) pe_int) pa_nil))) (pa_cons pe_int pa_nil))) pps_nil) rfl rfl (by simp) (by decide))))))
      (pss_cons (ps_if (pt_cmpR op_eq (pv 1) (pe_callB (lenA (K := K) rfl) (by rfl) T.b_len PySem.boot_len (pa_cons (pv 4) pa_nil)) (nomark _)) (pss_one (ps_asg (pe_tupI (pa_cons (pe_tupI (pa_cons (pv 1) (pa_cons (pe_op op_sub (pv 2) pe_int) pa_nil))) (pa_cons (pe_ix (ixQ (K := K) rfl) (pv 5) (pv 2) (fun _ _ => rfl)) pa_nil))) (pg_sub (pv 6) pe_str (set_dict (hu_of hr))))) (pss_cons (ps_asg (pe_ix (ixQ (K := K) rfl) (pv 4) (pv 1) (fun _ _ => rfl)) (pg_tupK (K := K) rfl rfl (pgs_cons (pg_name (i := 7) sc_p_bounds_at.nd rfl (by first | exact Or.inl rfl | exact Or.inr rfl)) (pgs_cons (pg_name (i := 8) sc_p_bounds_at.nd rfl (by first | exact Or.inl rfl | exact Or.inr rfl)) pgs_nil))))
      (pss_cons (ps_asg (pe_tupI (pa_cons (pe_tupI (pa_cons (pv 1) (pa_cons (pe_op op_sub (pv 2) pe_int) pa_nil))) (pa_cons (pe_ix (ixQ (K := K) rfl) (pv 8) (pv 2) (fun _ _ => rfl)) pa_nil))) (pg_sub (pv 6) pe_str (set_dict (hu_of hr))))
      (pss_one (ps_asg (pe_tupI (pa_cons (pe_tupI (pa_cons (pe_op op_add (pv 1) pe_int) (pa_cons (pv 2) pa_nil))) (pa_cons (pv 7) pa_nil))) (pg_sub (pv 6) pe_str (set_dict (hu_of hr))))))))
      (pss_one (ps_ret (pv 6))))))), ?_⟩
    refine ⟨_, rfl, rfl, _, rfl, ?_⟩
    cases t with
    | zero =>
      refine ite_iT (by omega) ?_
      refine fun b nb => ?_
      refine ⟨rfl, fun tu H1 s1 n1 h1 => ?_⟩
      refine ⟨s1 _ _ upd_same, [(.inr "begin", .ref tu)], rfl, by show 1 ≤ 15; decide, ?_⟩
      have tb : tu ≠ b := fun e => by
        rw [e, upd_same] at n1
        cases n1
      exact q b _ _ (Same.put ((same_new nb).trans s1) nb) nb upd_same (.cons ⟨rfl, tu, .non, rfl, by rw [upd_ne tb]; exact h1, rfl⟩ .nil)
    | succ t =>
      obtain rfl : h = (t : Int) := by omega
      refine ite_iF (by omega) ?_
      refine ⟨_, rfl, d, _, rfl, hD.at_, rfl, _, _, rfl, _, _, rfl, _, _, rfl, rfl, ?_⟩
      refine ⟨fun σ' H' => ∃ (b tu : Addr) (l : V), σ' = [some (.ref d), some (.int (pl : Int)), some (.int (t : Int)), some (.ref x.c), some (.ref x.k), some (.ref x.s), some (.ref b), none, none] ∧ Same H H' ∧ H b = none ∧ H' b = some (.dK [(.inr (firstB D pl t).word, .ref tu)]) ∧ H' tu = some (.tup [l, .int (firstB D pl t).more]) ∧ leadV H' l (firstB D pl t).lead ∧ tu ≠ b ∧ (∀ q, l = .ref q → q ≠ b), ?_, ?_⟩
      · rintro σ' H1 ⟨b, tu, l, rfl, s1, nb, hb, htu, hl, tub, lb⟩
        have hD1 := hD.same s1
        have fb : (pl = 0 ∧ (firstB D pl t).word = "comes") ∨ (pl ≠ 0 ∧ (firstB D pl t).word = "ahead") := by
          unfold firstB
          by_cases c : pl = 0
          · rw [if_pos c]
            exact .inl ⟨c, rfl⟩
          · rw [if_neg c]
            exact .inr ⟨c, rfl⟩
        have nt : ∀ w : Str, (w = "takes" ∨ w = "room") → (firstB D pl t).word ≠ w := by
          intro w hw e
          rcases fb with ⟨_, f⟩ | ⟨_, f⟩ <;> rw [f] at e <;> rcases hw with rfl | rfl <;> exact absurd e (by decide)
        have leadK : ∀ {H' : Hp}, Same H1 H' → leadV (upd H' b (.dK [])) l (firstB D pl t).lead → True := fun _ _ => trivial
        have keep : ∀ {H' : Hp} {o : HO}, Same H1 H' → leadV (upd H' b o) l (firstB D pl t).lead := fun {H' o} s => by
          cases e : (firstB D pl t).lead with
          | none =>
            rw [e] at hl
            exact hl
          | some y =>
            rw [e] at hl
            obtain ⟨q0, e0, h0⟩ := hl
            exact ⟨q0, e0, by rw [upd_ne (lb q0 e0)]; exact s _ _ h0⟩
        refine ⟨_, rfl, _, rfl, _, _, rfl, lenV_b hD1.ks, rfl, _, rfl, ?_⟩
        rw [List.length_map, hD.len]
        by_cases c : pl = D.ks.length
        · refine ite_iT (by omega) ?_
          refine ⟨_, rfl, _, rfl, _, _, rfl, rfl, rfl, fun q1 H2 s2 n2 h2 => ?_⟩
          refine ⟨_, rfl, _, rfl, ix_b (i := t) (hD1.ss.1.same s2) rfl (ints_get (by rw [O.sl]; omega)) ?_⟩
          refine ⟨rfl, fun t2 H3 s3 n3 h3 => ?_⟩
          have s13 := s2.trans s3
          have hb3 := s13 _ _ hb
          refine ⟨_, rfl, b, _, rfl, .k (k := .inr "takes") hb3 (by show 1 < sizeLine; rw [sizeLine_eq]; decide), ?_⟩
          have pn : putK [((.inr (firstB D pl t).word : Key), V.ref tu)] (.inr "takes") (.ref t2) = [((.inr (firstB D pl t).word : Key), V.ref tu), (.inr "takes", .ref t2)] := putK_new _ (by rw [valV_neg (fun e => nt "takes" (.inl rfl) (Sum.inr.inj e))] <;> rfl)
          rw [pn]
          have q1b : q1 ≠ b := (ne_of_none hb n2).symm
          have t2b : t2 ≠ b := (ne_of_none (s2 _ _ hb) n3).symm
          refine ⟨_, rfl, q b _ _ (Same.put (s1.trans s13) nb) nb upd_same ?_⟩
          rw [show bnds D pl (t + 1) = [firstB D pl t, ⟨"takes", some ((pl : Int), (t : Int) - 1), D.ss.getD t 0⟩] from if_pos c]
          exact .cons ⟨rfl, tu, l, rfl, by rw [upd_ne tub]; exact s13 _ _ htu, keep s13⟩ (.cons ⟨rfl, t2, .ref q1, rfl, by rw [upd_ne t2b]; exact h3, q1, rfl, by rw [upd_ne q1b]; exact s3 _ _ h2⟩ .nil)
        · refine ite_iF (by omega) ?_
          obtain ⟨ka, ta, bb, gk, hk, ht⟩ := hD1.pot (j := pl) (by omega)
          refine ⟨_, rfl, _, rfl, ix_b (i := pl) hD1.ks rfl gk ?_⟩
          refine ⟨ka, _, rfl, hk, rfl, _, _, rfl, _, _, rfl, rfl, ?_⟩
          refine ⟨_, rfl, _, rfl, _, _, rfl, rfl, rfl, fun q1 H2 s2 n2 h2 => ?_⟩
          refine ⟨_, rfl, _, rfl, ix_b (i := t) (ht.1.same s2) rfl (ints_get (by rw [kt_len O (by omega)]; omega)) ?_⟩
          refine ⟨rfl, fun t2 H3 s3 n3 h3 => ?_⟩
          have s13 := s2.trans s3
          have hb3 := s13 _ _ hb
          refine ⟨_, rfl, b, _, rfl, .k (k := .inr "takes") hb3 (by show 1 < sizeLine; rw [sizeLine_eq]; decide), ?_⟩
          have pn : putK [((.inr (firstB D pl t).word : Key), V.ref tu)] (.inr "takes") (.ref t2) = [((.inr (firstB D pl t).word : Key), V.ref tu), (.inr "takes", .ref t2)] := putK_new _ (by rw [valV_neg (fun e => nt "takes" (.inl rfl) (Sum.inr.inj e))] <;> rfl)
          rw [pn]
          have q1b : q1 ≠ b := (ne_of_none hb n2).symm
          have t2b : t2 ≠ b := (ne_of_none (s2 _ _ hb) n3).symm
          have s4 : Same H (upd H3 b (.dK [((.inr (firstB D pl t).word : Key), V.ref tu), (.inr "takes", .ref t2)])) := Same.put (s1.trans s13) nb
          have hb4 : (upd H3 b (.dK [((.inr (firstB D pl t).word : Key), V.ref tu), (.inr "takes", .ref t2)])) b = some (.dK [((.inr (firstB D pl t).word : Key), V.ref tu), (.inr "takes", .ref t2)]) := upd_same
          have htu4 : (upd H3 b (.dK [((.inr (firstB D pl t).word : Key), V.ref tu), (.inr "takes", .ref t2)])) tu = some (.tup [l, .int (firstB D pl t).more]) := by rw [upd_ne tub]; exact s13 _ _ htu
          have ht24 : (upd H3 b (.dK [((.inr (firstB D pl t).word : Key), V.ref tu), (.inr "takes", .ref t2)])) t2 = some (.tup [.ref q1, .int ((kt D pl).2.getD t 0)]) := by rw [upd_ne t2b]; exact h3
          have hq14 : (upd H3 b (.dK [((.inr (firstB D pl t).word : Key), V.ref tu), (.inr "takes", .ref t2)])) q1 = some (.tup [.int (pl : Int), .int ((t : Int) - 1)]) := by rw [upd_ne q1b]; exact s3 _ _ h2
          have kp4 : leadV (upd H3 b (.dK [((.inr (firstB D pl t).word : Key), V.ref tu), (.inr "takes", .ref t2)])) l (firstB D pl t).lead := keep s13
          generalize upd H3 b (.dK [((.inr (firstB D pl t).word : Key), V.ref tu), (.inr "takes", .ref t2)]) = H4 at s4 hb4 htu4 ht24 hq14 kp4
          refine ⟨_, rfl, _, _, rfl, rfl, _, rfl, rfl, fun q2 H5 s5 n5 h5 => ?_⟩
          refine ⟨_, rfl, rfl, fun t3 H6 s6 n6 h6 => ?_⟩
          have s46 := s5.trans s6
          have hb6 := s46 _ _ hb4
          refine ⟨_, rfl, b, _, rfl, .k (k := .inr "room") hb6 (by show 2 < sizeLine; rw [sizeLine_eq]; decide), ?_⟩
          have pn2 : putK [((.inr (firstB D pl t).word : Key), V.ref tu), (.inr "takes", .ref t2)] (.inr "room") (.ref t3) = [((.inr (firstB D pl t).word : Key), V.ref tu), (.inr "takes", .ref t2), (.inr "room", .ref t3)] := putK_new _ (by rw [valV_neg (fun e => nt "room" (.inr rfl) (Sum.inr.inj e)), valV_neg (fun e => absurd (Sum.inr.inj e) (by decide))] <;> rfl)
          rw [pn2]
          have q2b : q2 ≠ b := (ne_of_none hb4 n5).symm
          have t3b : t3 ≠ b := (ne_of_none (s5 _ _ hb4) n6).symm
          refine ⟨_, rfl, q b _ _ (Same.put (s4.trans s46) nb) nb upd_same ?_⟩
          rw [show bnds D pl (t + 1) = [firstB D pl t, ⟨"takes", some ((pl : Int), (t : Int) - 1), (kt D pl).2.getD t 0⟩, ⟨"room", some ((pl : Int) + 1, (t : Int)), (kt D pl).1⟩] from if_neg c]
          have kp6 : leadV (upd H6 b (.dK [((.inr (firstB D pl t).word : Key), V.ref tu), (.inr "takes", .ref t2), (.inr "room", .ref t3)])) l (firstB D pl t).lead := by
            cases e : (firstB D pl t).lead with
            | none =>
              rw [e] at kp4
              exact kp4
            | some y =>
              rw [e] at kp4
              obtain ⟨q0, e0, h0⟩ := kp4
              exact ⟨q0, e0, by rw [upd_ne (lb q0 e0)]; exact s46 _ _ h0⟩
          exact .cons ⟨rfl, tu, l, rfl, by rw [upd_ne tub]; exact s46 _ _ htu4, kp6⟩ (.cons ⟨rfl, t2, .ref q1, rfl, by rw [upd_ne t2b]; exact s46 _ _ ht24, q1, rfl, by rw [upd_ne q1b]; exact s46 _ _ hq14⟩ (.cons ⟨rfl, t3, .ref q2, rfl, by rw [upd_ne t3b]; exact h6, q2, rfl, by rw [upd_ne q2b]; exact s6 _ _ h5⟩ .nil))
      · refine ⟨_, rfl, rfl, _, rfl, ?_⟩
        by_cases c : pl = 0
        · refine ite_iT (by omega) ?_
          refine fun b nb => ?_
          refine ⟨_, rfl, _, rfl, _, _, rfl, rfl, _, rfl, x.c, _, x.pc, rfl, hD.cs.1.same (same_new nb), fun cu H1 s1 hcu => ?_⟩
          rw [show (t : Int) + 1 = ((t + 1 : Nat) : Int) by omega, cut_to' (by rw [List.length_map]; omega), ← List.map_take] at hcu
          refine ⟨cu, _, x.pc, rfl, hcu, rfl, fun tu H2 s2 n2 h2 => ?_⟩
          have s12 := s1.trans s2
          refine ⟨s12 _ _ upd_same, [(.inr "comes", .ref tu)], rfl, by show 1 ≤ 15; decide, ?_⟩
          have tb : tu ≠ b := (ne_of_none (s1 _ _ upd_same) n2).symm
          have e1 : firstB D pl t = ⟨"comes", none, csum D (t + 1)⟩ := if_pos c
          rw [e1]
          exact ⟨b, tu, .non, rfl, Same.put ((same_new nb).trans s12) nb, nb, upd_same, by rw [upd_ne tb]; exact h2, rfl, tb, fun q e => by cases e⟩
        · refine ite_iF (by omega) ?_
          refine fun b nb => ?_
          refine ⟨_, rfl, _, _, rfl, rfl, _, rfl, _, _, rfl, rfl, rfl, fun q1 H1 s1 n1 h1 => ⟨rfl, fun tu H2 s2 n2 h2 => ?_⟩⟩
          have s12 := s1.trans s2
          refine ⟨s12 _ _ upd_same, [(.inr "ahead", .ref tu)], rfl, by show 1 ≤ 15; decide, ?_⟩
          have tb : tu ≠ b := (ne_of_none (s1 _ _ upd_same) n2).symm
          have qb : q1 ≠ b := fun e => by
            rw [e, upd_same] at n1
            cases n1
          have e1 : firstB D pl t = ⟨"ahead", some ((pl : Int) - 1, (t : Int) - 1), 0⟩ := if_neg c
          rw [e1]
          exact ⟨b, tu, .ref q1, rfl, Same.put ((same_new nb).trans s12) nb, nb, upd_same, by rw [upd_ne tb]; exact h2, ⟨q1, rfl, by rw [upd_ne qb]; exact s2 _ _ h1⟩, tb, fun q e => by cases e; exact qb⟩

end
end KR
namespace KR
open PySem PySem.Spec PyProof.Rows L2
section
variable {P : Program} {w : World} {K : PySem.W.Frag} {mg : Str → Option Value} {base : Heap}
def sp_p_reached (K : PySem.W.Frag) : Sp := fun vs H Q _ => ∃ (ta t : Addr) (l : V) (b : Bd) (kvs : List (List Key × V)) (u : Int), vs = [.ref ta, .ref t] ∧ H t = some (.tup [l, .int b.more]) ∧ leadV H l b.lead ∧ Rd H ta (.dT kvs) ∧ (b.lead = none → u = 0) ∧ (∀ p h, b.lead = some (p, h) → valV kvs [.inl p, .inl h] = some (.int u)) ∧ Q (.int (u + b.more)) H
theorem ok_p_reached (T : All K mg) : FnOk P w K mg base CX0 1 T.f_p_reached T.fd_p_reached ["taken", "bound"] (sp_p_reached K) := by
  refine T.d_p_reached.fn.ok sc_p_reached (fun vs H Q E h => ?_) (fun cdv A outer s H vs Q E hr h => ?_)
  · obtain ⟨ta, t, l, b, kvs, u, rfl, _⟩ := h
    rfl
  · obtain ⟨ta, t, l, b, kvs, u, rfl, ht, hl, hta, z0, val, q⟩ := h
    refine ⟨_, (pss_cons (ps_asg (pv 1) (pg_tupK (K := K) rfl rfl (pgs_cons (pg_name (i := 2) sc_p_reached.nd rfl (by first | exact Or.inl rfl | exact Or.inr rfl)) (pgs_cons (pg_name (i := 3) sc_p_reached.nd rfl (by first | exact Or.inl rfl | exact Or.inr rfl)) pgs_nil))))
      (pss_cons (ps_if (pt_cmpR op_isN (pv 2) pe_non (nomark _)) (pss_one (ps_ret (pv 3))) pss_nil)
      (pss_one (ps_ret (pe_op op_add (pe_dget (hu_of hr) (pv 0) (pv 2) (fun _ _ => rfl)) (pv 3)))))), ?_⟩
    obtain ⟨w, le, mo⟩ := b
    refine ⟨_, rfl, t, _, rfl, SqT.of ht, rfl, _, _, rfl, _, _, rfl, rfl, ?_⟩
    cases le with
    | none =>
      obtain rfl : l = .non := hl
      obtain rfl := z0 rfl
      rw [Int.zero_add] at q
      exact ⟨_, rfl, rfl, _, rfl, iteT ⟨_, rfl, q⟩⟩
    | some y =>
      obtain ⟨p, h⟩ := y
      obtain ⟨q0, rfl, hq⟩ := hl
      refine ⟨_, rfl, rfl, _, rfl, iteF ?_⟩
      have g : DGet H ta (.ref q0) (some (.int u)) := .inr ⟨kvs, [.inl p, .inl h], q0, hta, rfl, hq, (val p h rfl).symm⟩
      refine ⟨_, rfl, _, rfl, ta, _, rfl, g, ?_⟩
      exact ⟨_, rfl, _, _, rfl, rfl, q⟩

end
end KR
namespace KR
open PySem PySem.Spec PyProof.Rows L2
section
variable {P : Program} {w : World} {K : PySem.W.Frag} {mg : Str → Option Value} {base : Heap}
def sp_p_is_number (K : PySem.W.Frag) : Sp := fun vs H Q _ => ∃ (Av : Addr → Prop) (B n : Nat) (v : V) (d : PyData), vs = [v] ∧ Tg K Av H B n v d ∧ Q (.bl (isI d)) H
theorem ok_p_is_number (T : All K mg) : FnOk P w K mg base CX0 1 T.f_p_is_number T.fd_p_is_number ["thing"] (sp_p_is_number K) := by
  refine T.d_p_is_number.fn.ok sc_p_is_number (fun vs H Q E h => ?_) (fun cdv A outer s H vs Q E hr h => ?_)
  · obtain ⟨Av, B, n, v, d, rfl, _⟩ := h
    rfl
  · obtain ⟨Av, B, n, v, d, rfl, h, q⟩ := h
    refine ⟨_, (pss_one (ps_ret (pe_and (pe_callB (isiK (K := K) rfl) (by rfl) T.b_isinstance (by decide +kernel) (pa_cons (pv 0) (pa_cons (pe_bltn (v := .ty "int") (by rfl) T.b_int (by decide +kernel) rfl) pa_nil))) (pe_one (pe_not (pe_callB (isiK (K := K) rfl) (by rfl) T.b_isinstance (by decide +kernel) (pa_cons (pv 0) (pa_cons (pe_bltn (v := .ty "bool") (by rfl) T.b_bool (by decide +kernel) rfl) pa_nil)))))))), ?_⟩
    obtain ⟨t, ty, _, _, ki, kb, _⟩ := h.ty
    cases e : isBo d with
    | true =>
      rw [boI e] at q
      rw [e, Bool.or_true] at ki
      rw [e] at kb
      refine ⟨_, rfl, _, _, _, _, _, rfl, .ty _, ty, kit_ty ki, _, rfl, ?_⟩
      refine iteT ?_
      refine ⟨_, rfl, _, _, _, _, _, rfl, .ty _, ty, kit_ty kb, _, rfl, ?_⟩
      exact q
    | false =>
      rw [e, Bool.or_false] at ki
      rw [e] at kb
      refine ⟨_, rfl, _, _, _, _, _, rfl, .ty _, ty, kit_ty ki, _, rfl, ?_⟩
      cases e2 : isI d with
      | true =>
        rw [e2] at q
        refine iteT ?_
        refine ⟨_, rfl, _, _, _, _, _, rfl, .ty _, ty, kit_ty kb, _, rfl, ?_⟩
        exact q
      | false =>
        rw [e2] at q
        refine iteF ?_
        exact q

end
end KR
namespace KR
open PySem PySem.Spec PyProof.Rows L2
section
variable {P : Program} {w : World} {K : PySem.W.Frag} {mg : Str → Option Value} {base : Heap}
def sp_p__is_place_of_plan (K : PySem.W.Frag) (P : Addr) : Sp := fun vs H Q _ => ∃ (Av : Addr → Prop) (B n : Nat) (v : V) (d : PyData) (h : Int), vs = [v, .int h] ∧ Tg K Av H B n v d ∧ GxR.TabG H P ∧ ∀ H', Sm H H' → Q (.bl (placeB h d)) H'
theorem ok_p__is_place_of_plan (T : All K mg) (B : Tabs T base) : FnOk P w K mg base CX0 3 T.f_p__is_place_of_plan T.fd_p__is_place_of_plan ["thing", "hours"] (sp_p__is_place_of_plan K T.P_p__is_place_of_plan) := by
  refine T.k_p__is_place_of_plan.ok sc_p__is_place_of_plan (fun vs H Q E h => ?_) (fun cdv A outer s H vs Q E hc hr h => ?_)
  · obtain ⟨Av, Bn, n, v, d, h, rfl, _⟩ := h
    rfl
  · obtain ⟨Av, Bn, n, v, d, h, rfl, hv, hT, q⟩ := h
    refine ⟨_, (pss_cons (ps_if (PW.pt (pw_or (pt_not (pt_val (pe_callB (isiK (K := K) rfl) (by rfl) T.b_isinstance (by decide +kernel) (pa_cons (pv 0) (pa_cons (pe_bltn (v := .ty "list") (by rfl) T.b_list (by decide +kernel) rfl) pa_nil))))) (pw_or1 (pt_cmpR op_ne (pe_callB (lenQ (K := K) rfl) (by rfl) T.b_len PySem.boot_len (pa_cons (pv 0) pa_nil)) (pv 1) (nomark _))))) (pss_one (ps_ret pe_bl)) pss_nil)
      (pss_one (ps_ret (pe_allG hr (by rfl) T.b_all (by decide +kernel) B.t_p__is_place_of_plan hc ⟨rfl, rfl, by decide +kernel, by decide +kernel, rfl, rfl⟩ (pi_listK (K := K) rfl (pv 0)) (fun _ _ _ _ _ _ => (pe_and (pe_call (ok_p_is_number T) (room_gen hr) (by rfl) T.d_p_is_number.mg T.d_p_is_number.fn.kp T.d_p_is_number.b .nil pass0 (pa_cons (pv 0) pa_nil)) (pe_one (pe_cmpR op_ge (pv 0) pe_int (nomark _))))) (by intro _; rfl))))), ?_⟩
    obtain ⟨ty, hty, kl, _, _, _, _⟩ := hv.ty
    refine ⟨_, rfl, _, _, _, _, _, rfl, .ty _, hty, kit_ty kl, ?_⟩
    cases el : isL d with
    | false =>
      rw [placeB_no el] at q
      exact ⟨_, rfl, iteT (q _ .refl)⟩
    | true =>
    obtain ⟨f, xs, ds, m, rfl, rfl, rfl, hf, tg⟩ := hv.lstI el
    refine ⟨_, rfl, iteF ?_⟩
    refine ⟨_, rfl, f, _, rfl, .inl (SqL.of hf), _, rfl, rfl, _, rfl, ?_⟩
    have q2 : ∀ H', Sm H H' → Q (.bl (decide ((ds.length : Int) = h) && ds.all nnB)) H' := q
    by_cases cl : (xs.length : Int) = h
    rotate_left
    · rw [decide_eq_false (show ¬ (ds.length : Int) = h by rw [← tg.1]; exact cl)] at q2
      exact ite_nT cl (q2 _ .refl)
    rw [decide_eq_true (show (ds.length : Int) = h by rw [← tg.1]; exact cl)] at q2
    refine ite_nF cl ?_
    refine ⟨_, rfl, f, rfl, ⟨_, SqL.of hf⟩, hT, xs.length, fun i H' => Sm H H' ∧ i ≤ xs.length ∧ (ds.take i).all nnB = true, fun H2 tb => ⟨Sm.tabbed tb hT, Nat.zero_le _, rfl⟩, fun i H2 ⟨sm, le, al⟩ => ?_⟩
    by_cases c : i = xs.length
    · rw [List.take_of_length_le (by rw [← tg.1]; omega)] at al
      rw [al] at q2
      exact .inl ⟨⟨_, sm.seq (SqL.of hf), by omega⟩, q2 H2 sm⟩
    · obtain ⟨x, e, ex, ee, tx⟩ := tg.at_ (i := i) (by omega)
      refine .inr ⟨⟨_, _, sm.seq (SqL.of hf), ex⟩, by omega, fun y H3 ⟨e3, hy⟩ => ?_⟩
      subst e3
      obtain rfl := Option.some.inj ((hy _ (sm.seq (SqL.of hf))).symm.trans ex)
      have no : nnB e = false → Q (.bl false) H3 := fun z => by
        rw [all_at ee z] at q2
        exact q2 H3 sm
      refine ⟨_, rfl, Av, Bn, m, y, e, rfl, tx.sm sm, _, rfl, ?_⟩
      cases ei : isI e with
      | false => exact iteF ⟨false, rfl, no (nnB_no ei)⟩
      | true =>
        obtain ⟨z, rfl, rfl, _⟩ := tx.intI ei
        refine iteT ?_
        refine ⟨_, rfl, _, _, rfl, rfl, _, rfl, ?_⟩
        by_cases c0 : 0 ≤ z
        · exact ite_bT (decide_eq_true c0) ⟨sm, by omega, all_up al ee (decide_eq_true c0)⟩
        · exact ite_bF (decide_eq_false c0) (no (decide_eq_false c0))

end
end KR
namespace KR
open PySem PySem.Spec PyProof.Rows L2
section
variable {P : Program} {w : World} {K : PySem.W.Frag} {mg : Str → Option Value} {base : Heap}
def sp_p__taken_by (K : PySem.W.Frag) : Sp := fun vs H Q _ => ∃ (Av : Addr → Prop) (f : Addr) (rs : List Addr) (Xs : List (List Int)) (h : Nat), vs = [.ref f] ∧ H f = some (.lst (rs.map V.ref)) ∧ RowsP H Av rs Xs ∧ Xs.length ≤ 9 ∧ h ≤ 48 ∧ (∀ r ∈ Xs, r.length = h) ∧ ∀ (ta : Addr) (kvs : List (List Key × V)) (H' : Hp), Same H H' → H ta = none → H' ta = some (.dT kvs) → TakenX (rowF Xs) kvs (fun p t => p < Xs.length ∧ t ≤ h) → Q (.ref ta) H'
theorem ok_p__taken_by (T : All K mg) : FnOk P w K mg base CX0 1 T.f_p__taken_by T.fd_p__taken_by ["plan"] (sp_p__taken_by K) := by
  refine T.d_p__taken_by.fn.ok sc_p__taken_by (fun vs H Q E h => ?_) (fun cdv A outer s H vs Q E hr h => ?_)
  · obtain ⟨Av, f, rs, Xs, h, rfl, _⟩ := h
    rfl
  · obtain ⟨Av, f, rs, Xs, h, rfl, hf, R, x9, h48, lens, q⟩ := h
    refine ⟨_, (pss_cons (ps_set (i := 1) sc_p__taken_by.nd rfl (by first | exact Or.inl rfl | exact Or.inr rfl) pe_dnewT)
      (pss_cons (ps_for PassesOwn.never rfl (pi_enumB (K := K) rfl (by rfl) T.b_enumerate (pa_cons (pv 0) pa_nil)) (pg_tupK (K := K) rfl rfl (pgs_cons (pg_name (i := 2) sc_p__taken_by.nd rfl (by first | exact Or.inl rfl | exact Or.inr rfl)) (pgs_cons (pg_name (i := 3) sc_p__taken_by.nd rfl (by first | exact Or.inl rfl | exact Or.inr rfl)) pgs_nil))) (pss_cons (ps_asg pe_int (pg_sub (pv 1) (pe_tupI (pa_cons (pv 2) (pa_cons (pe_glob (v := .int (-1)) rfl T.c_AHEAD_OF_ALL ⟨_, rfl⟩) pa_nil))) (set_dict (hu_of hr))))
      (pss_one (ps_for PassesOwn.never rfl (pi_enumB (K := K) rfl (by rfl) T.b_enumerate (pa_cons (pv 3) pa_nil)) (pg_tupK (K := K) rfl rfl (pgs_cons (pg_name (i := 4) sc_p__taken_by.nd rfl (by first | exact Or.inl rfl | exact Or.inr rfl)) (pgs_cons (pg_name (i := 5) sc_p__taken_by.nd rfl (by first | exact Or.inl rfl | exact Or.inr rfl)) pgs_nil))) (pss_one (ps_asg (pe_op op_add (pe_dget (hu_of hr) (pv 1) (pe_tupI (pa_cons (pv 2) (pa_cons (pe_op op_sub (pv 4) pe_int) pa_nil))) (fun _ _ => rfl)) (pv 5)) (pg_sub (pv 1) (pe_tupI (pa_cons (pv 2) (pa_cons (pv 4) pa_nil))) (set_dict (hu_of hr)))))))))
      (pss_one (ps_ret (pv 1))))), ?_⟩
    refine fun ta nta => ?_
    have fta : f ≠ ta := ne_of_none hf nta
    have lr : rs.length = Xs.length := R.1
    have s0 : Same H (upd H ta (.dT [])) := same_new nta
    have h0 : (upd H ta (.dT [])) ta = some (.dT []) := upd_same
    generalize upd H ta (.dT []) = H1 at s0 h0
    refine ⟨_, rfl, f, _, true, rfl, SqL.of (s0 _ _ hf), for_it (walk_enumB (K := K) (a := f) (xs := rs.map V.ref) (p := true)) (fun i σ H' => ∃ (kvs : List (List Key × V)) (v2 v3 v4 v5 : Option V), σ = [some (.ref f), some (.ref ta), v2, v3, v4, v5] ∧ Same H H' ∧ H' ta = some (.dT kvs) ∧ kvs.length ≤ 49 * i ∧ TakenX (rowF Xs) kvs fun p t => p < i ∧ t ≤ h)
      ⟨[], none, none, none, none, rfl, s0, h0, Nat.zero_le _, ⟨fun kv m => absurd m List.not_mem_nil, fun p t d => absurd d.1 (Nat.not_lt_zero _)⟩⟩ (fun i σ H' _ ⟨_, _, _, _, _, _, s, _⟩ => SqL.of (s _ _ hf)) ?_ ?_⟩
    · rintro i v σ H2 H3 hi ⟨kvs, v2, v3, v4, v5, rfl, s2, hta, kl, tx⟩ ⟨T0, x0, y0, rfl, hT, rfl, e0, ex⟩
      rw [List.length_map] at hi
      obtain rfl := Option.some.inj e0
      have ex' : (rs.map V.ref)[i]? = some y0 := ex
      rw [List.getElem?_map] at ex'
      obtain ⟨r, er, rfl⟩ := Option.map_eq_some_iff.mp ex'
      have hi' : i < Xs.length := by omega
      obtain ⟨xs, exs⟩ : ∃ xs, Xs[i]? = some xs := ⟨_, List.getElem?_eq_getElem hi'⟩
      have lx := lens xs (List.mem_of_getElem? exs)
      have eF := rowF_at exs
      have hr0 := (R.2 i r xs er exs).1
      have sT : Same H2 (upd H2 T0 (.tup [.int (i : Nat), .ref r])) := same_new hT
      have hT5 : (upd H2 T0 (.tup [.int (i : Nat), .ref r])) T0 = some (.tup [.int (i : Nat), .ref r]) := upd_same
      generalize upd H2 T0 (.tup [.int (i : Nat), .ref r]) = H3 at sT hT5
      refine ⟨T0, _, rfl, SqT.of hT5, rfl, _, _, rfl, _, _, rfl, rfl, ?_⟩
      refine ⟨_, rfl, _, rfl, rfl, fun k0 H4 s4 n4 h4 => ?_⟩
      have s24 := sT.trans s4
      have hta4 := s24 _ _ hta
      refine ⟨ta, _, rfl, .t (k := kk i 0) hta4 h4 (small' (by omega)), ?_⟩
      have sU : Same H (upd H4 ta (.dT (putK kvs (kk i 0) (.int 0)))) := Same.put (s2.trans s24) nta
      have hU : (upd H4 ta (.dT (putK kvs (kk i 0) (.int 0)))) ta = some (.dT (putK kvs (kk i 0) (.int 0))) := upd_same
      generalize upd H4 ta (.dT (putK kvs (kk i 0) (.int 0))) = H5 at sU hU
      have tx0 : TakenX (rowF Xs) (putK kvs (kk i 0) (.int 0)) (fun p t => (p < i ∧ t ≤ h) ∨ (p = i ∧ t ≤ 0)) := by
        have z := tx.put (d' := fun p t => (p < i ∧ t ≤ h) ∨ (p = i ∧ t ≤ 0)) i 0 (fun z => absurd z.1 (Nat.lt_irrefl _)) fun p' t' => by omega
        rw [PS_zero] at z
        exact z
      have kl0 := length_putK kvs (kk i 0) (.int 0)
      refine ⟨_, rfl, r, _, true, rfl, SqL.of (sU _ _ hr0), for_it (walk_enumB (K := K) (a := r) (xs := xs.map V.int) (p := true)) (fun t σ H' => ∃ (kvs : List (List Key × V)) (v4 v5 : Option V), σ = [some (.ref f), some (.ref ta), some (.int (i : Nat)), some (.ref r), v4, v5] ∧ Same H H' ∧ H' ta = some (.dT kvs) ∧ kvs.length ≤ 49 * i + 1 + t ∧ TakenX (rowF Xs) kvs fun p t' => (p < i ∧ t' ≤ h) ∨ (p = i ∧ t' ≤ t))
        ⟨_, _, _, rfl, sU, hU, by omega, tx0⟩ (fun i σ H' _ ⟨_, _, _, _, s, _⟩ => SqL.of (s _ _ hr0)) ?_ ?_⟩
      · rintro t v σ H6 H7 ht ⟨kvs, v4, v5, rfl, s6, hta6, kl6, tx6⟩ ⟨T1, x1, y1, rfl, hT1, rfl, e1, ex1⟩
        rw [List.length_map] at ht
        obtain rfl := Option.some.inj e1
        have ex2 : (xs.map V.int)[t]? = some y1 := ex1
        rw [ints_get ht] at ex2
        obtain rfl := Option.some.inj ex2
        have sT1 : Same H6 (upd H6 T1 (.tup [.int (t : Nat), .int (xs.getD t 0)])) := same_new hT1
        have hT6 : (upd H6 T1 (.tup [.int (t : Nat), .int (xs.getD t 0)])) T1 = some (.tup [.int (t : Nat), .int (xs.getD t 0)]) := upd_same
        generalize upd H6 T1 (.tup [.int (t : Nat), .int (xs.getD t 0)]) = H7 at sT1 hT6
        refine ⟨T1, _, rfl, SqT.of hT6, rfl, _, _, rfl, _, _, rfl, rfl, ?_⟩
        refine ⟨_, rfl, _, rfl, _, rfl, _, _, rfl, rfl, rfl, fun k1 H8 s8 n8 h8 => ?_⟩
        have s68 := sT1.trans s8
        have hta8 := s68 _ _ hta6
        have g : DGet H8 ta (.ref k1) (some (.int (PS (rowF Xs) i t))) := by
          rw [← tx6.at_ i t (.inr ⟨rfl, Nat.le_refl _⟩)]
          exact .t (k := kk i t) hta8 h8
        refine ⟨ta, _, rfl, g, ?_⟩
        refine ⟨_, rfl, _, _, rfl, rfl, ?_⟩
        refine ⟨_, rfl, _, rfl, _, rfl, rfl, fun k2 H9 s9 n9 h9 => ?_⟩
        have h9' : H9 k2 = some (.tup [.int (i : Int), .int (((t + 1 : Nat) : Int) - 1)]) := by
          rw [show ((t + 1 : Nat) : Int) - 1 = (t : Int) by omega]
          exact h9
        have s69 := s68.trans s9
        have hta9 := s69 _ _ hta6
        have ev : PS (rowF Xs) i t + xs.getD t 0 = PS (rowF Xs) i (t + 1) := by
          rw [PS_succ (by rw [eF]; exact ht)]
          unfold PX
          rw [eF]
        show rSetD (V.ref ta) _ (V.int (PS (rowF Xs) i t + xs.getD t 0)) H9 _
        rw [ev]
        refine ⟨ta, _, rfl, .t (k := kk i (t + 1)) hta9 h9' (small' (by omega)), ?_⟩
        have kl9 := length_putK kvs (kk i (t + 1)) (.int (PS (rowF Xs) i (t + 1)))
        exact ⟨_, _, _, rfl, Same.put (s6.trans s69) nta, upd_same, by omega, tx6.put i (t + 1) (fun z => by omega) fun p' t' => by omega⟩
      · rintro σ H6 ⟨kvs, v4, v5, rfl, s6, hta6, kl6, tx6⟩
        rw [List.length_map] at kl6 tx6
        exact ⟨kvs, _, _, _, _, rfl, s6, hta6, by omega, ⟨fun kv m => by
          obtain ⟨p, t, a1, a2, a3⟩ := tx6.all kv m
          exact ⟨p, t, a1, by omega, a3⟩, fun p t d => tx6.at_ p t (by omega)⟩⟩
    · rintro σ H2 ⟨kvs, v2, v3, v4, v5, rfl, s2, hta, kl, tx⟩
      rw [List.length_map, lr] at tx
      exact ⟨_, rfl, q ta kvs H2 s2 nta hta tx⟩

end
end KR
namespace KR
open PySem PySem.Spec PyProof.Rows L2
section
variable {P : Program} {w : World} {K : PySem.W.Frag} {mg : Str → Option Value} {base : Heap}
def sp_p_shows_plan (K : PySem.W.Frag) (Ps : List Addr) : Sp := fun vs H Q _ => ∃ (p d : Addr) (x : DyP) (D : Dy) (Av : Addr → Prop) (B n : Nat) (v : V) (e : PyData), vs = [.ref d, v] ∧ DayAt K H p d x D ∧ DyOk D ∧ Tg K Av H B n v e ∧ Tbs Ps H ∧ ∀ (b : Bool) (H' : Hp), (b = true ↔ IsPlan D e) → Sm H H' → Q (.bl b) H'
theorem DayAt.sm {K : PySem.W.Frag} {H H' : Hp} {p a : Addr} {x : DyP} {D : Dy} (h : DayAt K H p a x D) (s : Sm H H') : DayAt K H' p a x D := by
  have sb : ∀ {a : Addr} {xs : List V} {b : Bool}, SqB K H a xs b → SqB K H' a xs b := fun {a xs b} h => by
    cases b with
    | true => exact s.seq h
    | false => exact s.tup h
  exact ⟨s.tup h.at_, ⟨sb h.cs.1, h.cs.2⟩, sb h.ks, h.kp, ⟨sb h.ss.1, h.ss.2⟩, h.len, fun j a k e1 e2 => by
    obtain ⟨t, b, h1, h2⟩ := (h.kt j a k e1 e2).ex
    exact ⟨t, b, s.tup h1, ⟨sb h2.1, h2.2⟩⟩⟩
theorem ok_p_shows_plan (T : All K mg) (B : Tabs T base) : FnOk P w K mg base CX0 5 T.f_p_shows_plan T.fd_p_shows_plan ["day", "thing"] (sp_p_shows_plan K T.Ps) := by
  refine T.k_p_shows_plan.ok sc_p_shows_plan (fun vs H Q E h => ?_) (fun cdv A outer s H vs Q E hc hr h => ?_)
  · obtain ⟨p, d, x, D, Av, Bn, n, v, e, rfl, _⟩ := h
    rfl
  · obtain ⟨p, d, x, D, Av, Bn, n, v, e, rfl, hD, O, hv, hT, q⟩ := h
    have t1 : GxR.TabG H T.P_p_shows_plan := hT _ (by simp [All.Ps])
    have t2 : GxR.TabG H T.P_p__is_place_of_plan := hT _ (by simp [All.Ps])
    refine ⟨_, (pss_cons (ps_if (PW.pt (pw_or (pt_not (pt_val (pe_callB (isiK (K := K) rfl) (by rfl) T.b_isinstance (by decide +kernel) (pa_cons (pv 1) (pa_cons (pe_bltn (v := .ty "list") (by rfl) T.b_list (by decide +kernel) rfl) pa_nil))))) (pw_or1 (pt_cmpR op_ne (pe_callB (lenQ (K := K) rfl) (by rfl) T.b_len PySem.boot_len (pa_cons (pv 1) pa_nil)) (pe_call (ok_p_places_in T) (hr.mono (by decide)) (by rfl) T.d_p_places_in.mg T.d_p_places_in.fn.kp T.d_p_places_in.b .nil pass0 (pa_cons (pv 0) pa_nil)) (nomark _))))) (pss_one (ps_ret pe_bl)) pss_nil)
      (pss_cons (ps_if (pt_not (pt_val (pe_allF (jy := 0) hr (by rfl) T.b_all (by decide +kernel) B.t_p_shows_plan hc ⟨rfl, rfl, by decide +kernel, by decide +kernel, fun _ => rfl, rfl, rfl, rfl⟩ rfl rfl (pi_listK (K := K) rfl (pv 1)) (fun _ _ _ _ _ _ _ => (pe_call (ok_p__is_place_of_plan T B) (room_gen hr) (by rfl) T.d_p__is_place_of_plan.mg T.d_p__is_place_of_plan.fn.kp T.d_p__is_place_of_plan.b .nil pass0 (pa_cons (pv 0) (pa_cons (pe_call (ok_p_hours_in T) ((room_gen hr).mono (by decide)) (by rfl) T.d_p_hours_in.mg T.d_p_hours_in.fn.kp T.d_p_hours_in.b .nil pass0 (pa_cons (pv 1) pa_nil)) pa_nil)))) (by intro _; rfl)))) (pss_one (ps_ret pe_bl)) pss_nil)
      (pss_cons (ps_set (i := 3) sc_p_shows_plan.nd rfl (by first | exact Or.inl rfl | exact Or.inr rfl) (pe_call (ok_p__taken_by T) (hr.mono (by decide)) (by rfl) T.d_p__taken_by.mg T.d_p__taken_by.fn.kp T.d_p__taken_by.b .nil pass0 (pa_cons (pv 1) pa_nil)))
      (pss_cons (ps_lock (ps_for PassesOwn.never rfl (pi_keys (pv 3)) (pg_tupK (K := K) rfl rfl (pgs_cons (pg_name (i := 4) sc_p_shows_plan.nd rfl (by first | exact Or.inl rfl | exact Or.inr rfl)) (pgs_cons (pg_name (i := 5) sc_p_shows_plan.nd rfl (by first | exact Or.inl rfl | exact Or.inr rfl)) pgs_nil))) (pss_one (ps_for PassesOwn.never rfl (pi_values (pe_frz (pe_call (ok_p_bounds_at T) (hr.mono (by decide)) (by rfl) T.d_p_bounds_at.mg T.d_p_bounds_at.fn.kp T.d_p_bounds_at.b .nil pass0 (pa_cons (pv 0) (pa_cons (pv 4) (pa_cons (pv 5) pa_nil)))))) (pg_name (i := 6) sc_p_shows_plan.nd rfl (by first | exact Or.inl rfl | exact Or.inr rfl)) (pss_one (ps_if (pt_cmpR op_gt (pe_dget (hu_of hr) (pv 3) (pe_tupI (pa_cons (pv 4) (pa_cons (pv 5) pa_nil))) (fun _ _ => rfl)) (pe_call (ok_p_reached T) (hr.mono (by decide)) (by rfl) T.d_p_reached.mg T.d_p_reached.fn.kp T.d_p_reached.b .nil pass0 (pa_cons (pv 3) (pa_cons (pv 6) pa_nil))) (nomark _)) (pss_one (ps_ret pe_bl)) pss_nil))))))
      (pss_one (ps_ret pe_bl)))))), ?_⟩
    have k1 := O.k1
    have k2 := O.k2
    have h2 := O.h2
    obtain ⟨ty, hty, kl, _, _, _, _⟩ := hv.ty
    refine ⟨_, rfl, _, _, _, _, _, rfl, .ty _, hty, kit_ty kl, ?_⟩
    cases el : isL e with
    | false => exact ⟨_, rfl, iteT (q false _ ⟨(fun z => nomatch z), fun z => absurd z (isPlan_L el)⟩ .refl)⟩
    | true =>
    obtain ⟨f, xs, ds, m, rfl, rfl, rfl, hf, tg⟩ := hv.lstI el
    have lx : xs.length = ds.length := tg.1
    refine ⟨_, rfl, iteF ?_⟩
    refine ⟨_, rfl, f, _, rfl, .inl (SqL.of hf), _, rfl, p, d, x, D, rfl, hD, rfl, _, rfl, ?_⟩
    by_cases cl : ds.length = D.ks.length + 1
    rotate_left
    · exact ite_nT (by omega) (q false _ ⟨(fun z => nomatch z), fun z => absurd (isPlan_rows z).1 cl⟩ .refl)
    refine ite_nF (by omega) ?_
    refine ⟨_, rfl, f, rfl, ⟨_, SqL.of hf⟩, t1, .ref d, xs.length, fun i H' => Sm H H' ∧ i ≤ xs.length ∧ (ds.take i).all (placeB (D.cs.length : Int)) = true, rfl, fun H3 tb => ⟨Sm.tabbed tb t1, Nat.zero_le _, rfl⟩, fun i H3 ⟨sm, le, al⟩ => ?_⟩
    by_cases c : i = xs.length
    rotate_left
    · obtain ⟨x0, e, ex, ee, tx⟩ := tg.at_ (i := i) (by omega)
      refine .inr ⟨⟨_, _, sm.seq (SqL.of hf), ex⟩, by omega, fun y H4 ⟨e3, hy⟩ => ?_⟩
      subst e3
      obtain rfl := Option.some.inj ((hy _ (sm.seq (SqL.of hf))).symm.trans ex)
      refine ⟨_, rfl, _, rfl, p, d, x, D, rfl, hD.sm sm, Av, Bn, m, y, e, (D.cs.length : Int), rfl, tx.sm sm, sm.tab _ t2, fun H5 s5 => ?_⟩
      cases ck : placeB (D.cs.length : Int) e with
      | true => exact ⟨true, rfl, sm.trans s5, by omega, all_up al ee ck⟩
      | false =>
        exact ⟨false, rfl, _, rfl, iteT (q false H5 ⟨(fun z => nomatch z), fun z => by
          have a := (isPlan_rows z).2
          rw [all_at ee ck] at a
          cases a⟩ (sm.trans s5))⟩
    rw [List.take_of_length_le (by omega)] at al
    refine .inl ⟨⟨_, sm.seq (SqL.of hf), by omega⟩, _, rfl, iteF ?_⟩
    obtain ⟨Xs, rfl, okr⟩ := rows_of al
    have PO : PlanOk D Xs := ⟨by rw [← cl, List.length_map], okr⟩
    have hv3 : Tg K Av H3 Bn (m + 1) (.ref f) (planX Xs) := hv.sm sm
    obtain ⟨f', rs, ef, hf3, nf, R⟩ := plan_tg hv3
    cases ef
    have hD3 := hD.sm sm
    refine ⟨_, rfl, Av, f, rs, Xs, D.cs.length, rfl, hf3, R, by rw [PO.len]; omega, h2, fun r hr => (okr r hr).1, fun ta kvs H4 s4 nta hta tx => ?_⟩
    refine ⟨ta, .dT kvs, hta, trivial, fun od => ?_⟩
    have sL : Same H3 (upd H4 ta (.frz od (.dT kvs))) := Same.put s4 nta
    have hL : (upd H4 ta (.frz od (.dT kvs))) ta = some (.frz od (.dT kvs)) := upd_same
    generalize upd H4 ta (.frz od (.dT kvs)) = H5 at sL hL
    have back : ∀ {H' : Hp}, Same H3 H' → Sm H (upd H' ta (.dT kvs)) := fun {H'} s => sm.trans (.of (Same.put s nta))
    refine ⟨_, rfl, ta, od, rfl, .inr ⟨kvs, hL, for_it (walk_keysT (d := ta) (o := od) (kvs := kvs)) (fun j σ H' => ∃ (v4 v5 v6 : Option V), σ = [some (.ref d), some (.ref f), none, some (.ref ta), v4, v5, v6] ∧ Same H3 H' ∧ H' ta = some (.frz od (.dT kvs)) ∧ ∀ (i : Nat) (pl t : Nat) (v : V), i < j → kvs[i]? = some (kk pl t, v) → ∀ b ∈ bnds D pl t, PS (rowF Xs) pl t ≤ valX (rowF Xs) b)
      ⟨none, none, none, rfl, sL, hL, fun i pl t v lt => absurd lt (Nat.not_lt_zero _)⟩ (fun j σ H' _ ⟨_, _, _, _, _, h, _⟩ => h) ?_ ?_⟩⟩
    · rintro j v σ H6 H7 hj ⟨v4, v5, v6, rfl, s6, hL6, done⟩ ⟨rfl, k, w, q0, ek, rfl, hq0⟩
      obtain ⟨pl, t, e1, ⟨hpl, ht⟩, e2⟩ := tx.all _ (List.mem_of_getElem? ek)
      have e1 : k = kk pl t := e1
      have e2 : w = .int (PS (rowF Xs) pl t) := e2
      subst e1
      subst e2
      have hpl' : pl ≤ D.ks.length := by rw [PO.len] at hpl; omega
      have hq0' : H7 q0 = some (.tup [.int (pl : Int), .int ((t : Int) - 1)]) := hq0
      refine ⟨q0, _, rfl, SqT.of hq0', rfl, _, _, rfl, _, _, rfl, rfl, ?_⟩
      refine ⟨_, rfl, _, rfl, _, rfl, p, d, x, D, pl, t, (t : Int) - 1, rfl, rfl, hD3.same s6, O, hpl', ht, fun bx kb H8 s8 nb hb ab => ?_⟩
      refine ⟨bx, .dK kb, rfl, hb, trivial, fun od2 => ?_⟩
      have s9 : Same H7 (upd H8 bx (.frz od2 (.dK kb))) := Same.put s8 nb
      have hb9 : (upd H8 bx (.frz od2 (.dK kb))) bx = some (.frz od2 (.dK kb)) := upd_same
      have tab9 : ∀ {a : Addr} {o : HO}, H8 a = some o → (∀ z, o ≠ .dK z) → (upd H8 bx (.frz od2 (.dK kb))) a = some o := fun {a o} e n => by
        rw [upd_ne (fun z => by rw [z, hb] at e; exact n _ (Option.some.inj e).symm)]
        exact e
      generalize upd H8 bx (.frz od2 (.dK kb)) = H9 at s9 hb9 tab9
      have klen := ab.len
      refine ⟨bx, od2, kb, rfl, hb9, for_it (walk_values (d := bx) (o := od2) (kvs := kb)) (fun a σ H' => ∃ (v6 : Option V), σ = [some (.ref d), some (.ref f), none, some (.ref ta), some (.int (pl : Int)), some (.int ((t : Int) - 1)), v6] ∧ Same H9 H' ∧ ∀ b ∈ (bnds D pl t).take a, PS (rowF Xs) pl t ≤ valX (rowF Xs) b)
        ⟨_, rfl, .refl _, fun b m => absurd m (by rw [List.take_zero]; exact List.not_mem_nil)⟩ (fun a σ H' _ ⟨_, _, s, _⟩ => s _ _ hb9) ?_ ?_⟩
      · rintro a v σ G1 G2 ha ⟨v6', rfl, sg, ok⟩ ⟨rfl, ky, hk⟩
        obtain ⟨bd, ebd, e1, tt, ll, e2, htt, hll⟩ := ab.get hk
        obtain rfl : v = .ref tt := e2
        have htt9 := sg _ _ (tab9 htt nofun)
        have hll9 : leadV G2 ll bd.lead := by
          cases el : bd.lead with
          | none =>
            rw [el] at hll
            exact hll
          | some y =>
            rw [el] at hll
            obtain ⟨qq, eq, hqq⟩ := hll
            exact ⟨qq, eq, sg _ _ (tab9 hqq nofun)⟩
        have hL9 : G2 ta = some (.frz od (.dT kvs)) := sg _ _ (s9 _ _ hL6)
        refine ⟨_, rfl, _, rfl, _, rfl, rfl, fun k1 G3 g3 o3 y3 => ?_⟩
        have hL10 := g3 _ _ hL9
        have g : DGet G3 ta (.ref k1) (some (.int (PS (rowF Xs) pl t))) := .inr ⟨kvs, kk pl t, k1, .inr ⟨od, hL10⟩, rfl, y3, (tx.at_ pl t ⟨hpl, ht⟩).symm⟩
        refine ⟨ta, _, rfl, g, ?_⟩
        obtain ⟨u, eu, uz, us⟩ : ∃ u : Int, valX (rowF Xs) bd = u + bd.more ∧ (bd.lead = none → u = 0) ∧ (∀ p' h', bd.lead = some (p', h') → valV kvs [.inl p', .inl h'] = some (.int u)) := by
          cases el : bd.lead with
          | none => exact ⟨0, by unfold valX; rw [el, Int.zero_add], fun _ => rfl, fun p' h' z => nomatch z⟩
          | some y =>
            obtain ⟨p', h'⟩ := y
            obtain ⟨pn, tn, rfl, rfl, pk, tt'⟩ := bnds_lead hpl' (List.mem_of_getElem? ebd) el
            refine ⟨PS (rowF Xs) pn tn, ?_, (fun z => nomatch z), fun p' h' z => ?_⟩
            · unfold valX
              rw [el]
              show PS (rowF Xs) ((pn : Int)).toNat ((tn : Int) - 1 + 1).toNat + bd.more = _
              rw [Int.toNat_natCast, show ((tn : Int) - 1 + 1).toNat = tn by omega]
            · obtain ⟨rfl, rfl⟩ := Prod.mk.inj (Option.some.inj z)
              exact tx.at_ pn tn ⟨by rw [PO.len]; omega, by omega⟩
        refine ⟨_, rfl, _, rfl, ta, tt, ll, bd, kvs, u, rfl, g3 _ _ htt9, hll9.same g3, .inr ⟨od, hL10⟩, uz, us, ?_⟩
        rw [← eu]
        refine ⟨_, _, rfl, rfl, _, rfl, ?_⟩
        have s3g : Same H3 G3 := s6.trans (s9.trans (sg.trans g3))
        by_cases cv : valX (rowF Xs) bd < PS (rowF Xs) pl t
        · refine ite_bT (decide_eq_true cv) ?_
          refine ⟨hL10, q false _ ⟨(fun z => nomatch z), fun z => ?_⟩ (back s3g)⟩
          have dd := (isPlan_iff PO).mp z
          cases t with
          | zero =>
            have eb : bd = ⟨"begin", none, 0⟩ := List.mem_singleton.mp (List.mem_of_getElem? ebd)
            rw [eb, PS_zero] at cv
            exact absurd cv (by show ¬ ((0 : Int) < 0); decide)
          | succ t =>
            have := (plAt_bnds hpl' (by rw [PO.lenF hpl']; omega)).mp (dd pl t hpl' (by omega)) bd (List.mem_of_getElem? ebd)
            omega
        · refine ite_bF (decide_eq_false cv) ?_
          refine ⟨_, rfl, sg.trans g3, fun b mb => ?_⟩
          rw [take_one ebd] at mb
          rcases List.mem_append.mp mb with z | z
          · exact ok b z
          · rw [List.mem_singleton.mp z]
            omega
      · rintro σ G1 ⟨v6', rfl, sg, ok⟩
        rw [klen, List.take_length] at ok
        refine ⟨_, _, _, rfl, s6.trans (s9.trans sg), sg _ _ (s9 _ _ hL6), fun i pl' t' v lt ei => ?_⟩
        by_cases c : i < j
        · exact done i pl' t' v c ei
        · obtain rfl : i = j := by omega
          rw [ek] at ei
          obtain ⟨e1, _⟩ := Prod.mk.inj (Option.some.inj ei)
          obtain ⟨rfl, rfl⟩ := kk_inj e1
          exact ok
    · rintro σ H6 ⟨v4, v5, v6, rfl, s6, hL6, done⟩
      refine ⟨hL6, q true _ ⟨fun _ => (isPlan_iff PO).mpr fun pl t hpl ht => ?_, fun _ => rfl⟩ (back s6)⟩
      obtain ⟨i, v, ei⟩ := tx.mem (p := pl) (t := t + 1) ⟨by rw [PO.len]; omega, by omega⟩
      exact (plAt_bnds hpl (by rw [PO.lenF hpl]; exact ht)).mpr (done i pl (t + 1) v (List.getElem?_eq_some_iff.mp ei).1 ei)

end
end KR
namespace KR
open PySem PySem.Spec PyProof.Rows L2
section
variable {P : Program} {w : World} {K : PySem.W.Frag} {mg : Str → Option Value} {base : Heap}
theorem SqB.fs {K : PySem.W.Frag} {H H' : Hp} {a p : Addr} {xs : List V} {b : Bool} {n : Nat} (h : SqB K H a xs b) (ne : a ≠ p) (B : BoxAt H p n) (F : Fs p H H') : SqB K H' a xs b := by
  cases b with
  | true =>
    rcases h with (h | ⟨o, h⟩) | h
    · exact .inl (.inl (F.keep _ _ ne h nofun))
    · exact .inl (.inr ⟨o, F.keep _ _ ne h nofun⟩)
    · exact .inr h
  | false => exact sqT_fs h B F
theorem DayAt.fs {K : PySem.W.Frag} {H H' : Hp} {p a : Addr} {x : DyP} {D : Dy} {n : Nat} (h : DayAt K H p a x D) (B : BoxAt H p n) (F : Fs p H H') : DayAt K H' p a x D :=
  ⟨sqT_fs h.at_ B F, ⟨SqB.fs h.cs.1 h.cs.2 B F, h.cs.2⟩, SqB.fs h.ks h.kp B F, h.kp, ⟨SqB.fs h.ss.1 h.ss.2 B F, h.ss.2⟩, h.len, fun j a k e1 e2 => by
    obtain ⟨t, b, h1, h2⟩ := (h.kt j a k e1 e2).ex
    exact ⟨t, b, sqT_fs h1 B F, ⟨SqB.fs h2.1 h2.2 B F, h2.2⟩⟩⟩
theorem planX_wt {Xs : List (List Int)} (x9 : Xs.length ≤ 9) (h : ∀ r ∈ Xs, r.length ≤ 48 ∧ ∀ z ∈ r, z.natAbs < 2 ^ 21) : PyData.weight (planX Xs) ≤ 9600 := by
  have one : ∀ {r : List Int}, (∀ z ∈ r, z.natAbs < 2 ^ 21) → PyData.weightAll (r.map PyData.int) ≤ 22 * r.length := fun {r} => by
    induction r with
    | nil => exact fun _ => Nat.zero_le _
    | cons z r ih =>
      intro h
      have a := wt_int (h z List.mem_cons_self)
      have b := ih fun y hy => h y (List.mem_cons_of_mem _ hy)
      rw [List.map_cons, List.length_cons]
      show PyData.weight (.int z) + 1 + PyData.weightAll (r.map PyData.int) ≤ _
      omega
  have all : ∀ {Xs : List (List Int)}, (∀ r ∈ Xs, r.length ≤ 48 ∧ ∀ z ∈ r, z.natAbs < 2 ^ 21) → PyData.weightAll (Xs.map din) ≤ 1057 * Xs.length := fun {Xs} => by
    induction Xs with
    | nil => exact fun _ => Nat.zero_le _
    | cons r Xs ih =>
      intro h
      have a := one (h r List.mem_cons_self).2
      have l := (h r List.mem_cons_self).1
      have b := ih fun y hy => h y (List.mem_cons_of_mem _ hy)
      rw [List.map_cons, List.length_cons]
      show PyData.weightAll (r.map PyData.int) + 1 + PyData.weightAll (Xs.map din) ≤ _
      omega
  have := all h
  show PyData.weightAll (Xs.map din) ≤ _
  omega
theorem zero_do {D : Dy} (O : DyOk D) (N : DyNn D) : PlanOk D (List.replicate (D.ks.length + 1) (List.replicate D.cs.length 0)) ∧ PlanDo D (List.replicate (D.ks.length + 1) (List.replicate D.cs.length 0)) := by
  have eF : ∀ q, q ≤ D.ks.length → rowF (List.replicate (D.ks.length + 1) (List.replicate D.cs.length (0 : Int))) q = List.replicate D.cs.length 0 := fun q hq => rowF_at (by rw [List.getElem?_replicate, if_pos (by omega)])
  have s0 : ∀ n : Nat, (List.replicate n (0 : Int)).sum = 0 := fun n => by
    induction n with
    | zero => rfl
    | succ n ih => rw [List.replicate_succ, List.sum_cons, ih] <;> rfl
  have eS : ∀ q u, q ≤ D.ks.length → PS (rowF (List.replicate (D.ks.length + 1) (List.replicate D.cs.length (0 : Int)))) q u = 0 := fun q u hq => by
    unfold PS
    rw [eF q hq, List.take_replicate, s0]
  have eX : ∀ q u, q ≤ D.ks.length → PX (rowF (List.replicate (D.ks.length + 1) (List.replicate D.cs.length (0 : Int)))) q u = 0 := fun q u hq => by
    unfold PX
    rw [eF q hq, List.getD_eq_getElem?_getD, List.getElem?_replicate]
    split <;> rfl
  refine ⟨⟨List.length_replicate, fun r hr => by
    rw [List.eq_of_mem_replicate hr]
    exact ⟨List.length_replicate, fun z hz => by rw [List.eq_of_mem_replicate hz]; exact Int.le_refl _⟩⟩, fun p t hp ht => ⟨?_, ?_, fun lt => ?_⟩⟩
  · rw [eS p _ hp]
    split
    · exact csum_nn N _
    · rw [eS (p - 1) _ (by omega)]
      exact Int.le_refl _
  · rw [eX p _ hp]
    split
    · exact (ldl_at N.ss t).1
    · rename_i c
      have m : kt D p ∈ D.ks := by
        unfold kt
        rw [List.getD_eq_getElem?_getD, List.getElem?_eq_getElem (show p < D.ks.length by omega)]
        exact List.getElem_mem _
      exact (ldl_at (N.ks _ m).2.2 t).1
  · rw [eS p _ hp, eS (p + 1) _ (by omega)]
    have m : kt D p ∈ D.ks := by
      unfold kt
      rw [List.getD_eq_getElem?_getD, List.getElem?_eq_getElem lt]
      exact List.getElem_mem _
    have := (N.ks _ m).1
    omega
/-- a plan that can be done -/
def PlanT (K : PySem.W.Frag) (D : Dy) (p : Addr) (H : Hp) (v : V) : Prop := ∃ Xs, Tg K (fun a => a = p) H 1000000 2 v (planX Xs) ∧ PlanOk D Xs ∧ PlanDo D Xs ∧ ∀ r ∈ Xs, Ldl r
theorem PlanT.same {K : PySem.W.Frag} {D : Dy} {p : Addr} {H H' : Hp} {v : V} (h : PlanT K D p H v) (s : Same H H') : PlanT K D p H' v := by
  obtain ⟨Xs, h1, h2⟩ := h
  exact ⟨Xs, h1.same s, h2⟩
theorem PlanT.sm {K : PySem.W.Frag} {D : Dy} {p : Addr} {H H' : Hp} {v : V} (h : PlanT K D p H v) (s : Sm H H') : PlanT K D p H' v := by
  obtain ⟨Xs, h1, h2⟩ := h
  exact ⟨Xs, h1.sm s, h2⟩
theorem PlanT.fs {K : PySem.W.Frag} {D : Dy} {p : Addr} {n : Nat} {H H' : Hp} {v : V} (h : PlanT K D p H v) (B : BoxAt H p n) (F : Fs p H H') : PlanT K D p H' v := by
  obtain ⟨Xs, h1, h2⟩ := h
  exact ⟨Xs, Tg.fs (p := fun a => a = p) (q := p) rfl B F h1, h2⟩
def sp_p_law (K : PySem.W.Frag) (Ps : List Addr) : Sp := fun vs H Q _ => ∃ (a : Addr) (ns : List Int), vs = [.ref a] ∧ SqL K H a (ns.map V.int) ∧ ns.length ≤ 63 ∧ Tbs Ps H ∧ ∀ H', Q (.bl true) H'
theorem ok_p_law (T : All K mg) (B : Tabs T base) : FnG P w K mg base 7 T.f_p_law T.fd_p_law ["_law_script"] (sp_p_law K T.Ps) := by
  refine okG T.d_p_law.fn sc_p_law (fun vs H Q E h => ?_) (fun cdv A outer s H vs Q E hr hg h => ?_)
  · obtain ⟨a, ns, rfl, _⟩ := h
    rfl
  · obtain ⟨a, ns, rfl, hS, hlen, hT, q⟩ := h
    refine ⟨_, (pss_cons (ps_for PassesOwn.never rfl (pi_range1 (by rfl) T.b_range (pa_cons (pe_callB (call_max2 rfl) (by rfl) T.b_max (by decide +kernel) (pa_cons pe_int (pa_cons (pe_callB (call_min2 rfl) (by rfl) T.b_min (by decide +kernel) (pa_cons (pe_callB (lenQ (K := K) rfl) (by rfl) T.b_len PySem.boot_len (pa_cons (pv 0) pa_nil)) (pa_cons pe_int pa_nil))) pa_nil))) pa_nil)) (pg_name (i := 1) sc_p_law.nd rfl (by first | exact Or.inl rfl | exact Or.inr rfl)) (pss_cons (ps_set (i := 2) sc_p_law.nd rfl (by first | exact Or.inl rfl | exact Or.inr rfl) (pe_call (ok_l_box T) (hr.mono (by decide)) (by rfl) T.d_l_box.mg T.d_l_box.fn.kp T.d_l_box.b .nil pass0 (pa_cons (pv 0) (pa_cons (pv 1) pa_nil))))
      (pss_cons (ps_set (i := 3) sc_p_law.nd rfl (by first | exact Or.inl rfl | exact Or.inr rfl) (pe_call (ok_l_some_day T) (hr.mono (by decide)) (by rfl) T.d_l_some_day.mg T.d_l_some_day.fn.kp T.d_l_some_day.b .nil pass0 (pa_cons (pv 2) pa_nil)))
      (pss_cons (ps_set (i := 4) sc_p_law.nd rfl (by first | exact Or.inl rfl | exact Or.inr rfl) (pe_tupI (pa_cons (pe_callTy (tupJ (K := K) rfl) (by rfl) T.b_tuple (by decide +kernel) (pa_cons (pe_ix (ixT (K := K) rfl) (pv 3) pe_int (fun _ _ => rfl)) pa_nil)) (pa_cons (pe_callTy (tupJ (K := K) rfl) (by rfl) T.b_tuple (by decide +kernel) (pa_cons (pe_lc (own := [("_law_room", 5), ("_law_takes", 6)]) (g := gTup K 2 (gCons (gName 5) (gCons (gName 6) gNil))) (tt := tYes) (by rfl) sc_p_law.nd (pi_listK (K := K) rfl (pe_ix (ixT (K := K) rfl) (pv 3) pe_int (fun _ _ => rfl))) (blkOk_by (own := [("_law_room", 5), ("_law_takes", 6)]) (N := ["_law_script", "_law_k", "_law_box_here", "_law_day_here", "_law_loose", "_law_room", "_law_takes", "_law_plans", "_law_place", "_law_one", "_law_plan", "_law_turn", "_law_thing", "_law_seen", "_law_told"]) (sc := defScope s_p_law) (by decide +kernel)) (fun _ _ _ _ _ => (pg_tupK (K := K) rfl rfl (pgs_cons (pg_name (i := 5) sc_p_law.nd rfl (by first | exact Or.inl rfl | exact Or.inr rfl)) (pgs_cons (pg_name (i := 6) sc_p_law.nd rfl (by first | exact Or.inl rfl | exact Or.inr rfl)) pgs_nil)))) (fun _ _ _ _ _ => pts_nil) (fun _ _ _ _ _ => (pe_tupI (pa_cons (pv 5) (pa_cons (pe_callTy (tupJ (K := K) rfl) (by rfl) T.b_tuple (by decide +kernel) (pa_cons (pv 6) pa_nil)) pa_nil))))) pa_nil)) (pa_cons (pe_callTy (tupJ (K := K) rfl) (by rfl) T.b_tuple (by decide +kernel) (pa_cons (pe_ix (ixT (K := K) rfl) (pv 3) pe_int (fun _ _ => rfl)) pa_nil)) pa_nil)))))
      (pss_cons (ps_set (i := 7) sc_p_law.nd rfl (by first | exact Or.inl rfl | exact Or.inr rfl) (pe_lstI (pa_cons (pe_call (ok_l_drawn T) (hr.mono (by decide)) (by rfl) T.d_l_drawn.mg T.d_l_drawn.fn.kp T.d_l_drawn.b .nil pass0 (pa_cons (pv 2) (pa_cons (pv 3) pa_nil))) (pa_cons (pe_call (ok_l_drawn T) (hr.mono (by decide)) (by rfl) T.d_l_drawn.mg T.d_l_drawn.fn.kp T.d_l_drawn.b .nil pass0 (pa_cons (pv 2) (pa_cons (pv 3) pa_nil))) (pa_cons (pe_lc (own := [("_law_place", 8)]) (g := gName 8) (tt := tYes) (by rfl) sc_p_law.nd (pi_range1 (by rfl) T.b_range (pa_cons (pe_op op_add (pe_callB (lenA (K := K) rfl) (by rfl) T.b_len PySem.boot_len (pa_cons (pe_ix (ixT (K := K) rfl) (pv 3) pe_int (fun _ _ => rfl)) pa_nil)) pe_int) pa_nil)) (blkOk_by (own := [("_law_place", 8)]) (N := ["_law_script", "_law_k", "_law_box_here", "_law_day_here", "_law_loose", "_law_room", "_law_takes", "_law_plans", "_law_place", "_law_one", "_law_plan", "_law_turn", "_law_thing", "_law_seen", "_law_told"]) (sc := defScope s_p_law) (by decide +kernel)) (fun _ _ _ _ _ => (pg_name (i := 8) sc_p_law.nd rfl (by first | exact Or.inl rfl | exact Or.inr rfl))) (fun _ _ _ _ _ => pts_nil) (fun _ _ _ _ _ => (pe_op op_rep (pe_lstI (pa_cons pe_int pa_nil)) (pe_callB (lenA (K := K) rfl) (by rfl) T.b_len PySem.boot_len (pa_cons (pe_ix (ixT (K := K) rfl) (pv 3) pe_int (fun _ _ => rfl)) pa_nil))))) pa_nil)))))
      (pss_cons (ps_if (pt_not (pt_val (pe_callB (allK (K := K) rfl rfl) (by rfl) T.b_all (by decide +kernel) (pa_cons (pe_lc (own := [("_law_one", 9), ("_law_plan", 10)]) (g := gTup K 2 (gCons (gName 9) (gCons (gName 10) gNil))) (tt := tYes) (by rfl) sc_p_law.nd (pi_zipB (K := K) rfl (by rfl) T.b_zip (pa_cons (pe_lstI (pa_cons (pv 3) (pa_cons (pv 4) (pa_cons (pv 3) pa_nil)))) (pa_cons (pv 7) pa_nil))) (blkOk_by (own := [("_law_one", 9), ("_law_plan", 10)]) (N := ["_law_script", "_law_k", "_law_box_here", "_law_day_here", "_law_loose", "_law_room", "_law_takes", "_law_plans", "_law_place", "_law_one", "_law_plan", "_law_turn", "_law_thing", "_law_seen", "_law_told"]) (sc := defScope s_p_law) (by decide +kernel)) (fun _ _ _ _ _ => (pg_tupK (K := K) rfl rfl (pgs_cons (pg_name (i := 9) sc_p_law.nd rfl (by first | exact Or.inl rfl | exact Or.inr rfl)) (pgs_cons (pg_name (i := 10) sc_p_law.nd rfl (by first | exact Or.inl rfl | exact Or.inr rfl)) pgs_nil)))) (fun _ _ _ _ _ => pts_nil) (fun _ _ _ _ _ => (pe_cmpR op_isBl (pe_call (ok_p_shows_plan T B) (hr.mono (by decide)) (by rfl) T.d_p_shows_plan.mg T.d_p_shows_plan.fn.kp T.d_p_shows_plan.b .nil pass0 (pa_cons (pv 9) (pa_cons (pv 10) pa_nil))) pe_bl (nomark _)))) pa_nil)))) (pss_one (ps_ret pe_bl)) pss_nil)
      (pss_one (ps_for PassesOwn.never rfl (pi_range1 (by rfl) T.b_range (pa_cons pe_int pa_nil)) (pg_name (i := 11) sc_p_law.nd rfl (by first | exact Or.inl rfl | exact Or.inr rfl)) (pss_cons (ps_set (i := 10) sc_p_law.nd rfl (by first | exact Or.inl rfl | exact Or.inr rfl) (pe_ix (ixL (K := K) rfl) (pv 7) (pe_call (ok_l_take T) (hr.mono (by decide)) (by rfl) T.d_l_take.mg T.d_l_take.fn.kp T.d_l_take.b .nil pass0 (pa_cons (pv 2) (pa_cons pe_int pa_nil))) (fun _ _ => rfl)))
      (pss_cons (ps_J (ps_if (pt_cmpR op_lt (pv 11) pe_int (nomark _)) (pss_one (ps_set (i := 12) sc_p_law.nd rfl (by first | exact Or.inl rfl | exact Or.inr rfl) (pe_call (ok_l_step T) (hr.mono (by decide)) (by rfl) T.d_l_step.mg T.d_l_step.fn.kp T.d_l_step.b .nil pass0 (pa_cons (pv 2) (pa_cons (pv 10) pa_nil))))) (pss_one (ps_set (i := 12) sc_p_law.nd rfl (by first | exact Or.inl rfl | exact Or.inr rfl) (pe_ifExp (pt_cmpR op_lt (pv 11) pe_int (nomark _)) (pe_call (ok_l_bent T) hr (by rfl) T.d_l_bent.mg T.d_l_bent.fn.kp T.d_l_bent.b .nil pass0 (pa_cons (pv 2) (pa_cons (pv 10) (pa_cons pe_int pa_nil)))) (pe_call (ok_l_made T) hr (by rfl) T.d_l_made.mg T.d_l_made.fn.kp T.d_l_made.b .nil pass0 (pa_cons (pv 2) (pa_cons pe_int pa_nil))))))))
      (pss_cons (ps_J (ps_if (pt_cmpR (inQ (K := K) rfl) (pv 11) (pe_tupI (pa_cons pe_int (pa_cons pe_int pa_nil))) (by with_unfolding_all rfl)) (pss_one (ps_set (i := 12) sc_p_law.nd rfl (by first | exact Or.inl rfl | exact Or.inr rfl) (pe_call (ok_l_step T) (hr.mono (by decide)) (by rfl) T.d_l_step.mg T.d_l_step.fn.kp T.d_l_step.b .nil pass0 (pa_cons (pv 2) (pa_cons (pv 12) pa_nil))))) pss_nil))
      (pss_cons (ps_par (i := 13) (j := 14) (by rfl) sc_p_law.nd rfl rfl (by decide) rfl rfl (pa_cons (pe_callB (cr_reprV (K := K) rfl hg hr.units) (by rfl) T.b_repr (by decide +kernel) (pa_cons (pv 12) pa_nil)) (pa_cons (pe_call (ok_p_shows_plan T B) (hr.mono (by decide)) (by rfl) T.d_p_shows_plan.mg T.d_p_shows_plan.fn.kp T.d_p_shows_plan.b .nil pass0 (pa_cons (pe_ix (ixL (K := K) rfl) (pe_lstI (pa_cons (pv 3) (pa_cons (pv 4) pa_nil))) (pe_op op_mod (pv 11) pe_int) (fun _ _ => rfl)) (pa_cons (pv 12) pa_nil))) pa_nil)) (by rfl))
      (pss_one (ps_if (PW.pt (pw_or (pt_not (pt_val (pe_callB (isiK (K := K) rfl) (by rfl) T.b_isinstance (by decide +kernel) (pa_cons (pv 14) (pa_cons (pe_bltn (v := .ty "bool") (by rfl) T.b_bool (by decide +kernel) rfl) pa_nil))))) (pw_or (pt_cmpR op_ne (pv 14) (pe_call (ok_l_is_plan T) (hr.mono (by decide)) (by rfl) T.d_l_is_plan.mg T.d_l_is_plan.fn.kp T.d_l_is_plan.b .nil pass0 (pa_cons (pv 3) (pa_cons (pv 12) pa_nil))) (nomark _)) (pw_or1 (pt_cmpR op_ne (pe_callB (cr_reprV (K := K) rfl hg hr.units) (by rfl) T.b_repr (by decide +kernel) (pa_cons (pv 12) pa_nil)) (pv 13) (nomark _)))))) (pss_one (ps_ret pe_bl)) pss_nil))))))))))))))
      (pss_one (ps_ret pe_bl))), ?_⟩
    refine ⟨_, rfl, a, _, rfl, .inl hS, _, _, rfl, _, _, rfl, ?_⟩
    rw [List.length_map]
    obtain ⟨m, em, m1⟩ : ∃ m : Nat, (if (if (4 : Int) < (ns.length : Int) then (4 : Int) else (ns.length : Int)) > 2 then (if (4 : Int) < (ns.length : Int) then (4 : Int) else (ns.length : Int)) else 2) = (m : Int) ∧ m ≤ 4 := by
      refine ⟨(if (if (4 : Int) < (ns.length : Int) then (4 : Int) else (ns.length : Int)) > 2 then (if (4 : Int) < (ns.length : Int) then (4 : Int) else (ns.length : Int)) else 2).toNat, ?_, ?_⟩ <;> split <;> split <;> omega
    refine ⟨_, rfl, ?_⟩
    rw [em]
    refine ⟨by omega, by omega, for_range (lo := 0) (n := m) (fun i σ H' => ∃ v1 v2 v3 v4 v5 v6 v7 v8 v9 v10 v11 v12 v13 v14 : Option V, σ = [some (.ref a), v1, v2, v3, v4, v5, v6, v7, v8, v9, v10, v11, v12, v13, v14] ∧ Sm H H')
      ⟨none, none, none, none, none, none, none, none, none, none, none, none, none, none, rfl, .refl⟩ ?_ ?_⟩
    · rintro i σ H0 hi ⟨v1, v2, v3, v4, v5, v6, v7, v8, v9, v10, v11, v12, v13, v14, rfl, s0⟩
      rw [Int.zero_add]
      refine ⟨_, rfl, _, rfl, a, ns, (i : Int), rfl, s0.seq hS, by omega, by omega, fun p H1 s1 n1 B1 => ?_⟩
      refine ⟨_, rfl, p, 0, rfl, B1, by decide, fun d x D H4 hD4 O N xc xk xs B4 F4 => ?_⟩
      have hh1 := O.h1
      have hh2 := O.h2
      have hk1' := O.k1
      have hk2' := O.k2
      -- the day as tuples
      have hc4 : SqL K H4 x.c (D.cs.map V.int) := by
        have z := hD4.cs.1
        rw [xc] at z
        exact z
      refine ⟨_, rfl, ?_⟩
      refine ⟨d, _, 0, _, rfl, rfl, hD4.at_, at0, x.c, _, rfl, .inl ⟨hc4, fun lc H5 s5 n5 h5 => ?_⟩⟩
      have hD5 := hD4.same s5
      have hk5 : SqL K H5 x.k (x.as.map V.ref) := by
        have z := hD5.ks
        rw [xk] at z
        exact z
      refine ⟨_, rfl, d, _, 1, _, rfl, rfl, hD5.at_, at1, x.k, rfl, ⟨_, hk5⟩, fun g hg => ?_⟩
      refine lc_it (walk_list (K := K) (a := x.k) (xs := x.as.map V.ref)) (fun j H' => ∃ bs : List Addr, Same H5 H' ∧ H' g = some (.lst (bs.map V.ref)) ∧ bs.length = j ∧ ∀ (i : Nat) (b : Addr) (k : Int × List Int), bs[i]? = some b → D.ks[i]? = some k → ∃ t, SqT K H' b [.int k.1, .ref t] ∧ SqT K H' t (k.2.map V.int) ∧ t ≠ p)
        ⟨[], same_new hg, upd_same, rfl, fun i b k e => by simp at e⟩ (fun j H' _ ⟨_, s, _⟩ => s.seq hk5) ?_ ?_
      · rintro j v H6 H7 hj ⟨bs, s6, hg6, lb, all⟩ ⟨rfl, hv⟩
        rw [List.length_map] at hj
        obtain ⟨ka, t, b, gk, hk, ht⟩ := (hD5.same s6).pot (j := j) (by rw [← hD5.len]; exact hj)
        rw [gk] at hv
        obtain rfl := Option.some.inj hv
        refine ⟨ka, _, rfl, hk, rfl, _, _, rfl, _, _, rfl, rfl, rfl, yesT ?_⟩
        have ek : D.ks[j]? = some (kt D j) := by
          unfold kt
          rw [List.getD_eq_getElem?_getD, List.getElem?_eq_getElem (by rw [← hD5.len]; exact hj)] <;> rfl
        have fin : ∀ (t' : Addr) (H8 : Hp), Same H7 H8 → SqT K H8 t' ((kt D j).2.map V.int) → t' ≠ p → ∀ (u : Addr) (H9 : Hp), Same H8 H9 → H8 u = none → H9 u = some (.tup [.int (kt D j).1, .ref t']) → ∃ acc, H9 g = some (.lst acc) ∧ acc.length < sizeLine ∧ ∃ bs : List Addr, Same H5 (upd H9 g (.lst (acc ++ [.ref u]))) ∧ (upd H9 g (.lst (acc ++ [.ref u]))) g = some (.lst (bs.map V.ref)) ∧ bs.length = j + 1 ∧ ∀ (i : Nat) (b : Addr) (k : Int × List Int), bs[i]? = some b → D.ks[i]? = some k → ∃ t, SqT K (upd H9 g (.lst (acc ++ [.ref u]))) b [.int k.1, .ref t] ∧ SqT K (upd H9 g (.lst (acc ++ [.ref u]))) t (k.2.map V.int) ∧ t ≠ p := fun t' H8 s8 ht' tp u H9 s9 n9 h9 => by
          have s79 := s8.trans s9
          have hg9 := s79 _ _ hg6
          refine ⟨_, hg9, by rw [List.length_map]; exact small' (by have := hD5.len; omega), bs ++ [u], Same.put (s6.trans s79) hg, by rw [upd_same, List.map_append] <;> rfl, by rw [List.length_append, lb] <;> rfl, fun i b k e1 e2 => ?_⟩
          have tn : ∀ {y : Addr} {ys : List V}, SqT K H9 y ys → SqT K (upd H9 g (.lst (bs.map V.ref ++ [.ref u]))) y ys := fun {y ys} e => sqT_frL e hg9 fr_upd
          by_cases c : i < bs.length
          · rw [List.getElem?_append_left c] at e1
            obtain ⟨t0, a1, a2, a3⟩ := all i b k e1 e2
            exact ⟨t0, tn (Same.tup s79 a1), tn (Same.tup s79 a2), a3⟩
          · have il : i = bs.length := by
              have := (List.getElem?_eq_some_iff.mp e1).1
              rw [List.length_append, List.length_singleton] at this
              omega
            subst il
            rw [List.getElem?_append_right (Nat.le_refl _), Nat.sub_self] at e1
            cases e1
            rw [lb, ek] at e2
            cases e2
            exact ⟨t', tn (SqT.of h9), tn (Same.tup s9 ht'), tp⟩
        have B7 := (B4.same s5).same s6
        cases b with
        | true =>
          refine ⟨_, rfl, _, rfl, t, _, rfl, .inl ⟨ht.1, fun t' H8 s8 n8 h8 => ?_⟩⟩
          exact ⟨rfl, fun u H9 s9 n9 h9 => fin t' H8 s8 (SqT.of h8) (B7.new n8) u H9 s9 n9 h9⟩
        | false =>
          refine ⟨_, rfl, _, rfl, t, _, rfl, .inr ⟨ht.1, ?_⟩⟩
          exact ⟨rfl, fun u H9 s9 n9 h9 => fin t H7 (.refl _) ht.1 ht.2 u H9 s9 n9 h9⟩
      · rintro H6 ⟨bs, s6, hg6, lb, all⟩
        rw [List.length_map] at lb
        refine ⟨g, _, rfl, .inl ⟨SqL.of hg6, fun lk H7 s7 n7 h7 => ?_⟩⟩
        have s57 := s6.trans s7
        have hD7 := hD5.same s57
        have hs7 : SqL K H7 x.s (D.ss.map V.int) := by
          have z := hD7.ss.1
          rw [xs] at z
          exact z
        refine ⟨_, rfl, d, _, 2, _, rfl, rfl, hD7.at_, at2, x.s, _, rfl, .inl ⟨hs7, fun ls H8 s8 n8 h8 => ⟨rfl, fun lo H9 s9 n9 h9 => ?_⟩⟩⟩
        have s79 := s8.trans s9
        have B7 := (B4.same s5).same s57
        have hD9 := hD7.same s79
        have hL9 : DayAt K H9 p lo ⟨lc, lk, ls, false, false, false, bs⟩ D := ⟨SqT.of h9, ⟨SqT.of ((s57.trans s79) _ _ h5), B4.new n5⟩, SqT.of (s79 _ _ h7), ((B4.same s5).same s6).new n7, ⟨SqT.of (s9 _ _ h8), B7.new n8⟩, lb.trans hD5.len, fun j b k e1 e2 => by
          obtain ⟨t, a1, a2, a3⟩ := all j b k e1 e2
          exact ⟨t, false, Same.tup (s7.trans s79) a1, Same.tup (s7.trans s79) a2, a3⟩⟩
        have s49 := s5.trans (s57.trans s79)
        have B9 := B4.same s49
        have hT9 : Tbs T.Ps H9 := (((hT.sm s0).same s1).fr B1 F4).same s49
        refine ⟨_, rfl, _, rfl, p, d, _, x, D, rfl, B9, by omega, hD9, xc, xk, O, N, fun q1 X1 Ha Ba Fa na t1 po1 pd1 l1 => ?_⟩
        have P1a : PlanT K D p Ha (.ref q1) := ⟨X1, t1, po1, pd1, l1⟩
        have hDa := hD9.fr B9 Fa
        have hLa := hL9.fr B9 Fa
        refine ⟨_, rfl, _, rfl, p, d, _, x, D, rfl, Ba, by omega, hDa, xc, xk, O, N, fun q2 X2 Hb Bb Fb nb t2 po2 pd2 l2 => ?_⟩
        have P2b : PlanT K D p Hb (.ref q2) := ⟨X2, t2, po2, pd2, l2⟩
        have P1b : PlanT K D p Hb (.ref q1) := P1a.fs Ba (.of Fb)
        have hDb := hDa.fr Ba Fb
        have hLb := hLa.fr Ba Fb
        -- the plan of noughts
        refine ⟨_, rfl, d, _, 1, _, rfl, rfl, hDb.at_, at1, _, _, rfl, lenV_b hDb.ks, ?_⟩
        rw [List.length_map, hD4.len]
        refine ⟨_, _, rfl, rfl, (D.ks.length : Int) + 1, rfl, by omega, by omega, fun gz hgz => ?_⟩
        have gzp : gz ≠ p := Bb.new hgz
        refine lc_range (lo := 0) (n := D.ks.length + 1) (fun j H' => ∃ rs : List Addr, Same Hb H' ∧ H' gz = some (.lst (rs.map V.ref)) ∧ rs.length = j ∧ ∀ r ∈ rs, H' r = some (.lst ((List.replicate D.cs.length (0 : Int)).map V.int)) ∧ Hb r = none ∧ r ≠ gz)
          ⟨[], same_new hgz, upd_same, rfl, fun r hr => absurd hr List.not_mem_nil⟩ (fun j H3 hj z => ?_) (fun H3 z => ?_)
        · obtain ⟨rs, s3, hg3, lr, all⟩ := z
          refine ⟨rfl, yesT ?_⟩
          refine ⟨rfl, fun l0 G4 s4 n4 h4 => ?_⟩
          have hDg := hDb.same (s3.trans s4)
          refine ⟨_, rfl, d, _, 0, _, rfl, rfl, hDg.at_, at0, _, _, rfl, lenV_b hDg.cs.1, ?_⟩
          rw [List.length_map]
          refine ⟨l0, (D.cs.length : Int), _, rfl, rfl, h4, by omega, by omega, by show 1 * _ ≤ _; rw [sizeLine_eq]; omega, fun r nr => ?_⟩
          rw [rep_ints D.cs.length 0]
          have s5' : Same G4 (upd G4 r (.lst ((List.replicate D.cs.length (0 : Int)).map V.int))) := same_new nr
          have h5' : (upd G4 r (.lst ((List.replicate D.cs.length (0 : Int)).map V.int))) r = some (.lst ((List.replicate D.cs.length (0 : Int)).map V.int)) := upd_same
          have hg4 := s4 _ _ hg3
          have rg : r ≠ gz := (ne_of_none hg4 nr).symm
          have nrb : Hb r = none := same_none' (s3.trans s4) nr
          generalize upd G4 r (.lst ((List.replicate D.cs.length (0 : Int)).map V.int)) = G5 at s5' h5'
          have s35 := s4.trans s5'
          refine ⟨_, s35 _ _ hg3, by rw [List.length_map]; exact small' (by omega), rs ++ [r], Same.put (s3.trans s35) hgz, by rw [upd_same, List.map_append] <;> rfl, by rw [List.length_append, lr] <;> rfl, fun r' hr' => ?_⟩
          rcases List.mem_append.mp hr' with m | m
          · obtain ⟨z1, z2, z3⟩ := all r' m
            exact ⟨by rw [upd_ne z3]; exact s35 _ _ z1, z2, z3⟩
          · rw [List.mem_singleton.mp m]
            exact ⟨by rw [upd_ne rg]; exact h5', nrb, rg⟩
        · obtain ⟨rs, s3, hg3, lr, all⟩ := z
          obtain ⟨po3, pd3⟩ := zero_do O N
          have lz : ∀ r ∈ List.replicate (D.ks.length + 1) (List.replicate D.cs.length (0 : Int)), Ldl r := fun r hr => by
            rw [List.eq_of_mem_replicate hr]
            exact ldl_rep (by decide) (by decide)
          have P3 : PlanT K D p H3 (.ref gz) := ⟨_, tg_plan hg3 gzp ⟨by rw [lr, List.length_replicate], fun j r xs e1 e2 => by
            have m := List.mem_of_getElem? e1
            rw [List.eq_of_mem_replicate (List.mem_of_getElem? e2)]
            obtain ⟨z1, z2, _⟩ := all r m
            exact ⟨z1, Bb.new z2⟩⟩ fun xs hx z hz => by have := lz xs hx z hz; omega, po3, pd3, lz⟩
          have P1c := P1b.same s3
          have P2c := P2b.same s3
          refine ⟨rfl, fun lp G4 s4 n4 h4 => ?_⟩
          have s34 := s3.trans s4
          have lpp : lp ≠ p := (Bb.same s3).new n4
          have B40 := Bb.same s34
          have hT4 : Tbs T.Ps G4 := ((hT9.fr B9 Fa).fr Ba Fb).same s34
          have P1d := P1c.same s4
          have P2d := P2c.same s4
          have P3d := P3.same s4
          have hD40 := hDb.same s34
          have hL40 := hLb.same s34
          have FH1 : Fr p H1 G4 := F4.trans ((Fr.of s49).trans (Fa.trans (Fb.trans (.of s34))))
          refine ⟨_, rfl, _, rfl, _, rfl, rfl, fun ldz G5 s5' n5' h5' => ?_⟩
          refine ⟨_, rfl, ldz, lp, _, _, true, true, rfl, SqL.of h5', SqL.of (s5' _ _ h4), fun D' hD' => ?_⟩
          refine lc_it (walk_zipB (K := K) (a := ldz) (b := lp) (xs := [.ref d, .ref lo, .ref d]) (ys := [.ref q1, .ref q2, .ref gz]) (p := true) (q := true) (n := 3) rfl rfl) (fun j H' => Sm G5 H' ∧ H' D' = some (.lst (List.replicate j (V.bl true))))
            ⟨.of (same_new hD'), by rw [upd_same] <;> rfl⟩ (fun j H' _ z => ⟨z.1.seq (SqL.of h5'), z.1.seq (SqL.of (s5' _ _ h4))⟩) ?_ ?_
          · rintro j v G6 G7 hj ⟨g6, gD⟩ ⟨T0, x0, y0, rfl, hT0, rfl, e0, e1⟩
            have s45 : Sm G4 G6 := (Sm.of s5').trans g6
            obtain ⟨dd, xx, rfl, hDD, hPP⟩ : ∃ (dd : Addr) (xx : DyP), x0 = .ref dd ∧ DayAt K G6 p dd xx D ∧ PlanT K D p G6 y0 := by
              have hj3 : j < 3 := hj
              have cs : j = 0 ∨ j = 1 ∨ j = 2 := by omega
              rcases cs with c | c | c <;> subst c <;> cases e0 <;> cases e1
              · exact ⟨d, x, rfl, hD40.sm s45, P1d.sm s45⟩
              · exact ⟨lo, _, rfl, hL40.sm s45, P2d.sm s45⟩
              · exact ⟨d, x, rfl, hD40.sm s45, P3d.sm s45⟩
            have sT : Same G6 (upd G6 T0 (.tup [.ref dd, y0])) := same_new hT0
            have hT6 : (upd G6 T0 (.tup [.ref dd, y0])) T0 = some (.tup [.ref dd, y0]) := upd_same
            generalize upd G6 T0 (.tup [.ref dd, y0]) = G8 at sT hT6
            obtain ⟨Xs, tX, oX, dX, _⟩ := hPP.same sT
            refine ⟨T0, _, rfl, SqT.of hT6, rfl, _, _, rfl, _, _, rfl, rfl, rfl, yesT ?_⟩
            refine ⟨_, rfl, _, rfl, p, dd, xx, D, _, 1000000, 2, y0, planX Xs, rfl, hDD.same sT, O, tX, (hT4.sm s45).same sT, fun b G9 hb sb => ?_⟩
            obtain rfl := hb.mpr ⟨Xs, rfl, oX, dX⟩
            have hj3 : j < 3 := hj
            refine ⟨_, _, rfl, rfl, ?_⟩
            have gD9 := sb.lst (sT _ _ gD)
            refine ⟨_, gD9, by rw [List.length_replicate]; exact small' (by omega), (g6.trans ((Sm.of sT).trans sb)).put hD', ?_⟩
            rw [upd_same, List.replicate_succ'] <;> rfl
          · rintro G6 ⟨g6, gD⟩
            refine ⟨D', List.replicate 3 true, rfl, SqL.of gD, ?_⟩
            refine ⟨_, rfl, iteF ?_⟩
            have s46 : Sm G4 G6 := (Sm.of s5').trans g6
            let Av : Addr → Prop := fun a => a = p
            have hAv : ∀ {Hx : Hp} {n : Nat}, BoxAt Hx p n → ∀ a, Av a → ∃ o, Hx a = some o := fun {Hx n} B a e => (show a = p from e) ▸ B.some
            refine ⟨_, rfl, by decide, by decide, for_range (lo := 0) (n := 16) (fun k σ H' => ∃ v10 v11 v12 v13 v14 : Option V, σ = [some (.ref a), some (.int (i : Int)), some (.ref p), some (.ref d), some (.ref lo), v5, v6, some (.ref lp), v8, v9, v10, v11, v12, v13, v14] ∧ Fs p G4 H' ∧ BoxAt H' p (5000 + 300 * k))
              ⟨_, _, _, _, _, rfl, .sm s46, (B40.sm s46).mono (by omega)⟩ ?_ ?_⟩
            · rintro k σ Hf hk ⟨u10, u11, u12, u13, u14, rfl, Ff, Bf⟩
              rw [Int.zero_add]
              have hlp := Ff.keep _ _ lpp h4 nofun
              refine ⟨_, rfl, _, rfl, p, 3, _, rfl, Bf, by omega, by decide, by decide, fun z Hg z0 z1 Bg Fg => ?_⟩
              have Fcg : Fs p G4 Hg := Ff.trans (.of Fg)
              obtain ⟨vv, evv, Xs, tX, oX, dX, ldX⟩ : ∃ vv, atI ([.ref q1, .ref q2, .ref gz] : List V) z = some vv ∧ PlanT K D p Hg vv := by
                have cs : z = 0 ∨ z = 1 ∨ z = 2 := by omega
                rcases cs with c | c | c <;> subst c
                · exact ⟨_, rfl, P1d.fs B40 Fcg⟩
                · exact ⟨_, rfl, P2d.fs B40 Fcg⟩
                · exact ⟨_, rfl, P3d.fs B40 Fcg⟩
              have hlpg := Fg _ _ lpp hlp
              refine ⟨lp, _, z, vv, rfl, rfl, SqL.of hlpg, evv, ?_⟩
              have xl : Xs.length = D.ks.length + 1 := oX.len
              have rowX : ∀ r ∈ Xs, 1 ≤ r.length ∧ r.length ≤ 48 ∧ ∀ y ∈ r, y.natAbs ≤ 1000000 := fun r hr => by
                have l := (oX.row r hr).1
                exact ⟨by omega, by omega, fun y hy => by have := ldX r hr y hy; omega⟩
              have wX : PyData.weight (planX Xs) ≤ 9600 := planX_wt (by omega) fun r hr => ⟨(rowX r hr).2.1, fun y hy => by have := (rowX r hr).2.2 y hy; omega⟩
              refine ⟨fun σ' H' => ∃ (v : V) (e : PyData), σ' = [some (.ref a), some (.int (i : Int)), some (.ref p), some (.ref d), some (.ref lo), v5, v6, some (.ref lp), v8, v9, some vv, some (.int (k : Int)), some v, u13, u14] ∧ Fs p G4 H' ∧ BoxAt H' p (5000 + 300 * k + 220) ∧ Tg K Av H' 2000001 7 v e ∧ PyData.weight e ≤ 99000 ∧ (k < 8 → ∃ Ys, e = planX Ys ∧ Tg K Av H' 1000001 2 v (planX Ys) ∧ 1 ≤ Ys.length ∧ Ys.length ≤ 9 ∧ ∀ r ∈ Ys, 1 ≤ r.length ∧ r.length ≤ 48 ∧ ∀ y ∈ r, y.natAbs ≤ 1000001), ?_, ?_⟩
              rotate_left
              · refine ⟨_, rfl, _, _, rfl, rfl, _, rfl, ?_⟩
                by_cases c8 : k < 8
                · refine ite_bT (decide_eq_true (by omega)) ?_
                  refine ⟨_, rfl, _, rfl, p, _, 1000000, 2, vv, Xs, rfl, Bg, by omega, tX, by omega, by omega, rowX, fun f Ys Hh Bh Fh th ly rowY => ?_⟩
                  have wY : PyData.weight (planX Ys) ≤ 9600 := planX_wt (by omega) fun r hr => ⟨(rowY r hr).2.1, fun y hy => by have := (rowY r hr).2.2 y hy; omega⟩
                  exact ⟨_, _, rfl, Fcg.trans (.of Fh), Bh.mono (by omega), th.up (by decide) (by decide), by omega, fun _ => ⟨Ys, rfl, th, by omega, by omega, rowY⟩⟩
                · refine ite_bF (decide_eq_false (by omega)) ?_
                  refine ⟨_, rfl, _, _, rfl, rfl, _, rfl, ?_⟩
                  by_cases c14 : k < 14
                  · refine ite_bT (decide_eq_true (by omega)) ?_
                    refine ⟨_, rfl, _, rfl, p, Av, _, 2, 2, 1000001, 10300, vv, planX Xs, rfl, rfl, hAv Bg, Bg, by omega, tX.up (by decide) (Nat.le_refl _), by decide, by decide, by omega, by decide, by decide, by decide, fun v' d' Hh Bh Fh th wh => ?_⟩
                    exact ⟨v', d', rfl, Fcg.trans (.of Fh), Bh.mono (by omega), th.up (by decide) (by decide), by omega, fun z => absurd z c8⟩
                  · refine ite_bF (decide_eq_false (by omega)) ?_
                    refine ⟨_, rfl, p, Av, _, 3, rfl, rfl, hAv Bg, Bg, by show 5000 + 300 * k + 1 + 200 ≤ _; omega, by decide, fun v' d' Hh Bh Fh th wh => ?_⟩
                    have wh : PyData.weight d' ≤ 99000 := Nat.le_trans wh (by decide)
                    have Bh : BoxAt Hh p (5000 + 300 * k + 1 + 200) := Bh
                    exact ⟨v', d', rfl, Fcg.trans (.of Fh), Bh.mono (by omega), th.up (by decide) (by decide), wh, fun z => absurd z c8⟩
              rintro σ Hh ⟨v0, e0, rfl, Fh, Bh, t0, w0, sh0⟩
              refine ⟨fun σ' H' => ∃ (v : V) (e : PyData), σ' = [some (.ref a), some (.int (i : Int)), some (.ref p), some (.ref d), some (.ref lo), v5, v6, some (.ref lp), v8, v9, some vv, some (.int (k : Int)), some v, u13, u14] ∧ Fs p G4 H' ∧ BoxAt H' p (5000 + 300 * k + 250) ∧ Tg K Av H' 2000001 7 v e ∧ PyData.weight e ≤ 99000, ?_, ?_⟩
              rotate_left
              · refine ⟨_, rfl, rfl, fun tn Hi si ni hi' => ⟨tn, _, rfl, .inr (SqT.of hi'), rfl, rfl, _, rfl, ite2 (fun c => ?_) (fun c => ?_)⟩⟩
                · have k8 : k < 8 := by
                    by_cases k8 : k < 8
                    · exact k8
                    · have hk : k < 16 := hk
                      have cs : k = 8 ∨ k = 9 ∨ k = 10 ∨ k = 11 ∨ k = 12 ∨ k = 13 ∨ k = 14 ∨ k = 15 := by omega
                      rcases cs with e | e | e | e | e | e | e | e <;> subst e <;> exact absurd c (by decide)
                  obtain ⟨Ys, rfl, tY, y1, y9, rowY⟩ := sh0 k8
                  refine ⟨_, rfl, _, rfl, p, _, 1000001, 2, v0, Ys, rfl, Bh.same si, by omega, tY.same si, y1, y9, rowY, fun f Zs Hj Bj Fj tj lz rowZ => ?_⟩
                  have wZ : PyData.weight (planX Zs) ≤ 9600 := planX_wt (by omega) fun r hr => ⟨(rowZ r hr).2.1, fun y hy => by have := (rowZ r hr).2.2 y hy; omega⟩
                  exact ⟨_, _, rfl, Fh.trans ((Fs.sm (.of si)).trans (.of Fj)), Bj.mono (by omega), tj.up (by decide) (by decide), by omega⟩
                · exact ⟨v0, e0, rfl, Fh.trans (.sm (.of si)), (Bh.same si).mono (by omega), t0.same si, w0⟩
              rintro σ Hi ⟨v, e, rfl, Fi, Bi, ti, wi⟩
              have hTi : Tbs T.Ps Hi := (box_lst B40).elim fun _ z => hT4.fs z Fi
              have hDi := hD40.fs B40 Fi
              have hLi := hL40.fs B40 Fi
              have fin : Fine 7 100000 e := ti.show_ (by decide) (Nat.le_trans wi (by decide))
              refine ⟨_, rfl, v, e, 7, 100000, rfl, ti.dp, fin, by decide, by decide, ?_⟩
              refine ⟨_, rfl, _, rfl, rfl, fun ld Hj sj nj hj' => ?_⟩
              have hDj := hDi.same sj
              have hLj := hLi.same sj
              obtain ⟨dd, xx, edd, hDD⟩ : ∃ (dd : Addr) (xx : DyP), atI ([.ref d, .ref lo] : List V) ((k : Int) % 2) = some (.ref dd) ∧ DayAt K Hj p dd xx D := by
                have cs : (k : Int) % 2 = 0 ∨ (k : Int) % 2 = 1 := by omega
                rcases cs with c | c <;> rw [c]
                · exact ⟨d, x, rfl, hDj⟩
                · exact ⟨lo, _, rfl, hLj⟩
              refine ⟨_, rfl, _, _, rfl, rfl, (by show (0 : Int) < 2; decide), ld, _, _, _, rfl, rfl, SqL.of hj', edd, ?_⟩
              refine ⟨_, rfl, p, dd, xx, D, Av, 2000001, 7, v, e, rfl, hDD, O, ti.same sj, hTi.same sj, fun b Hk hb sk => ?_⟩
              refine ⟨_, _, rfl, ?_⟩
              have sjk : Sm Hi Hk := (Sm.of sj).trans sk
              refine ⟨_, rfl, _, _, _, _, _, rfl, .ty _, .base (.bl _), kit_ty (show kitB "bool" "bool" = some true by decide +kernel), _, rfl, iteF ?_⟩
              refine ⟨_, rfl, _, rfl, _, rfl, p, d, x, D, Av, 2000001, 7, v, e, rfl, hDi.sm sjk, xc, xk, xs, O, ti.sm sjk, wi, fun b' Hl hb' sl => ?_⟩
              have ebb : b' = b := by
                cases b <;> cases b' <;> simp_all
              subst ebb
              refine ⟨rfl, _, rfl, ?_⟩
              rw [decide_eq_true rfl]
              refine iteF ?_
              have sil : Sm Hi Hl := sjk.trans (.of sl)
              refine ⟨_, rfl, v, e, 7, 100000, rfl, (ti.sm sil).dp, fin, by decide, by decide, _, rfl, rfl, _, rfl, ?_⟩
              rw [decide_eq_true rfl]
              refine iteF ?_
              exact ⟨_, _, _, _, _, rfl, Fi.trans (.sm sil), (Bi.sm sil).mono (by omega)⟩
            · rintro σ Hf ⟨u10, u11, u12, u13, u14, rfl, Ff, Bf⟩
              exact ⟨_, _, _, _, _, _, _, _, _, _, _, _, _, _, rfl, s0.trans (sm_new_fs s1 n1 ((Fs.of FH1).trans Ff))⟩
    · rintro σ H0 ⟨v1, v2, v3, v4, v5, v6, v7, v8, v9, v10, v11, v12, v13, v14, rfl, s0⟩
      exact q H0

end
end KR
namespace KR
open PySem PySem.Spec PyProof.Rows L2
theorem all_mk {l : PySem.W.OpenLaw} {w : World} {K : PySem.W.Frag} {h : Heap} {mg : Str → Option Value} {fa : Addr} (X : K.In h) (G : h.Ns mainGlobals mg) (hfa : mg "law" = some (.ref fa))
    {od0 an0 : Option Addr} {sl0 : Array (Option Value)} {oc0 kV0 dc0 pm0 cd0 ct0 : Value} {f0 : Addr}
    (a0 : PySem.W.nsIn K mainGlobals "places_in" = some (some (.ref f0))) (l0 : K.lookup f0 = some ⟨oc0, od0, .func (PySem.W.fnOf "places_in" "places_in" (defArgs s_p_places_in) (defBody s_p_places_in) (defScope s_p_places_in) .none kV0 dc0 pm0 an0 cd0 ct0), sl0⟩) (c0 : PySem.W.codeIn K cd0 "places_in" = true) (k0 : PySem.W.keepIn K (.ref f0) = true)
    {od1 an1 : Option Addr} {sl1 : Array (Option Value)} {oc1 kV1 dc1 pm1 cd1 ct1 : Value} {f1 : Addr}
    (a1 : PySem.W.nsIn K mainGlobals "hours_in" = some (some (.ref f1))) (l1 : K.lookup f1 = some ⟨oc1, od1, .func (PySem.W.fnOf "hours_in" "hours_in" (defArgs s_p_hours_in) (defBody s_p_hours_in) (defScope s_p_hours_in) .none kV1 dc1 pm1 an1 cd1 ct1), sl1⟩) (c1 : PySem.W.codeIn K cd1 "hours_in" = true) (k1 : PySem.W.keepIn K (.ref f1) = true)
    {od2 an2 : Option Addr} {sl2 : Array (Option Value)} {oc2 kV2 dc2 pm2 cd2 ct2 : Value} {f2 : Addr}
    (a2 : PySem.W.nsIn K mainGlobals "bounds_at" = some (some (.ref f2))) (l2 : K.lookup f2 = some ⟨oc2, od2, .func (PySem.W.fnOf "bounds_at" "bounds_at" (defArgs s_p_bounds_at) (defBody s_p_bounds_at) (defScope s_p_bounds_at) .none kV2 dc2 pm2 an2 cd2 ct2), sl2⟩) (c2 : PySem.W.codeIn K cd2 "bounds_at" = true) (k2 : PySem.W.keepIn K (.ref f2) = true)
    {od3 an3 : Option Addr} {sl3 : Array (Option Value)} {oc3 kV3 dc3 pm3 cd3 ct3 : Value} {f3 : Addr}
    (a3 : PySem.W.nsIn K mainGlobals "reached" = some (some (.ref f3))) (l3 : K.lookup f3 = some ⟨oc3, od3, .func (PySem.W.fnOf "reached" "reached" (defArgs s_p_reached) (defBody s_p_reached) (defScope s_p_reached) .none kV3 dc3 pm3 an3 cd3 ct3), sl3⟩) (c3 : PySem.W.codeIn K cd3 "reached" = true) (k3 : PySem.W.keepIn K (.ref f3) = true)
    {od4 an4 : Option Addr} {sl4 : Array (Option Value)} {oc4 kV4 dc4 pm4 cd4 ct4 : Value} {f4 : Addr}
    (a4 : PySem.W.nsIn K mainGlobals "is_number" = some (some (.ref f4))) (l4 : K.lookup f4 = some ⟨oc4, od4, .func (PySem.W.fnOf "is_number" "is_number" (defArgs s_p_is_number) (defBody s_p_is_number) (defScope s_p_is_number) .none kV4 dc4 pm4 an4 cd4 ct4), sl4⟩) (c4 : PySem.W.codeIn K cd4 "is_number" = true) (k4 : PySem.W.keepIn K (.ref f4) = true)
    {od5 an5 : Option Addr} {sl5 : Array (Option Value)} {oc5 kV5 dc5 pm5 ct5 : Value} {f5 C5 P5 : Addr}
    (a5 : PySem.W.nsIn K mainGlobals "shows_plan" = some (some (.ref f5))) (l5 : K.lookup f5 = some ⟨oc5, od5, .func (PySem.W.fnOf "shows_plan" "shows_plan" (defArgs s_p_shows_plan) (defBody s_p_shows_plan) (defScope s_p_shows_plan) .none kV5 dc5 pm5 an5 (.ref C5) ct5), sl5⟩) (c5 : PySem.W.codeIn K (.ref C5) "shows_plan" = true) (k5 : PySem.W.keepIn K (.ref f5) = true)
    {te5 : Value} {td5 : Option Addr} {tv5 : Array Value} {ts5 : Array (Option Value)} (q5 : K.lookup C5 = some ⟨te5, td5, .fields tv5, ts5⟩) (p5 : tv5[11]? = some (.ref P5)) (n5 : K.lookup P5 = none)
    {od6 an6 : Option Addr} {sl6 : Array (Option Value)} {oc6 kV6 dc6 pm6 cd6 ct6 : Value} {f6 : Addr}
    (a6 : PySem.W.nsIn K mainGlobals "_taken_by" = some (some (.ref f6))) (l6 : K.lookup f6 = some ⟨oc6, od6, .func (PySem.W.fnOf "_taken_by" "_taken_by" (defArgs s_p__taken_by) (defBody s_p__taken_by) (defScope s_p__taken_by) .none kV6 dc6 pm6 an6 cd6 ct6), sl6⟩) (c6 : PySem.W.codeIn K cd6 "_taken_by" = true) (k6 : PySem.W.keepIn K (.ref f6) = true)
    {od7 an7 : Option Addr} {sl7 : Array (Option Value)} {oc7 kV7 dc7 pm7 ct7 : Value} {f7 C7 P7 : Addr}
    (a7 : PySem.W.nsIn K mainGlobals "_is_place_of_plan" = some (some (.ref f7))) (l7 : K.lookup f7 = some ⟨oc7, od7, .func (PySem.W.fnOf "_is_place_of_plan" "_is_place_of_plan" (defArgs s_p__is_place_of_plan) (defBody s_p__is_place_of_plan) (defScope s_p__is_place_of_plan) .none kV7 dc7 pm7 an7 (.ref C7) ct7), sl7⟩) (c7 : PySem.W.codeIn K (.ref C7) "_is_place_of_plan" = true) (k7 : PySem.W.keepIn K (.ref f7) = true)
    {te7 : Value} {td7 : Option Addr} {tv7 : Array Value} {ts7 : Array (Option Value)} (q7 : K.lookup C7 = some ⟨te7, td7, .fields tv7, ts7⟩) (p7 : tv7[11]? = some (.ref P7)) (n7 : K.lookup P7 = none)
    {od8 an8 : Option Addr} {sl8 : Array (Option Value)} {oc8 kV8 dc8 pm8 cd8 ct8 : Value} {f8 : Addr}
    (a8 : PySem.W.nsIn K mainGlobals "_law_cell_at" = some (some (.ref f8))) (l8 : K.lookup f8 = some ⟨oc8, od8, .func (PySem.W.fnOf "_law_cell_at" "_law_cell_at" (defArgs s_l_cell_at) (defBody s_l_cell_at) (defScope s_l_cell_at) .none kV8 dc8 pm8 an8 cd8 ct8), sl8⟩) (c8 : PySem.W.codeIn K cd8 "_law_cell_at" = true) (k8 : PySem.W.keepIn K (.ref f8) = true)
    {od9 an9 : Option Addr} {sl9 : Array (Option Value)} {oc9 kV9 dc9 pm9 cd9 ct9 : Value} {f9 : Addr}
    (a9 : PySem.W.nsIn K mainGlobals "_law_box" = some (some (.ref f9))) (l9 : K.lookup f9 = some ⟨oc9, od9, .func (PySem.W.fnOf "_law_box" "_law_box" (defArgs s_l_box) (defBody s_l_box) (defScope s_l_box) .none kV9 dc9 pm9 an9 cd9 ct9), sl9⟩) (c9 : PySem.W.codeIn K cd9 "_law_box" = true) (k9 : PySem.W.keepIn K (.ref f9) = true)
    {od10 an10 : Option Addr} {sl10 : Array (Option Value)} {oc10 kV10 dc10 pm10 cd10 ct10 : Value} {f10 : Addr}
    (a10 : PySem.W.nsIn K mainGlobals "_law_take" = some (some (.ref f10))) (l10 : K.lookup f10 = some ⟨oc10, od10, .func (PySem.W.fnOf "_law_take" "_law_take" (defArgs s_l_take) (defBody s_l_take) (defScope s_l_take) .none kV10 dc10 pm10 an10 cd10 ct10), sl10⟩) (c10 : PySem.W.codeIn K cd10 "_law_take" = true) (k10 : PySem.W.keepIn K (.ref f10) = true)
    {od11 an11 : Option Addr} {sl11 : Array (Option Value)} {oc11 kV11 dc11 pm11 cd11 ct11 : Value} {f11 : Addr}
    (a11 : PySem.W.nsIn K mainGlobals "_law_ladles" = some (some (.ref f11))) (l11 : K.lookup f11 = some ⟨oc11, od11, .func (PySem.W.fnOf "_law_ladles" "_law_ladles" (defArgs s_l_ladles) (defBody s_l_ladles) (defScope s_l_ladles) .none kV11 dc11 pm11 an11 cd11 ct11), sl11⟩) (c11 : PySem.W.codeIn K cd11 "_law_ladles" = true) (k11 : PySem.W.keepIn K (.ref f11) = true)
    {od12 an12 : Option Addr} {sl12 : Array (Option Value)} {oc12 kV12 dc12 pm12 cd12 ct12 : Value} {f12 : Addr}
    (a12 : PySem.W.nsIn K mainGlobals "_law_day" = some (some (.ref f12))) (l12 : K.lookup f12 = some ⟨oc12, od12, .func (PySem.W.fnOf "_law_day" "_law_day" (defArgs s_l_day) (defBody s_l_day) (defScope s_l_day) .none kV12 dc12 pm12 an12 cd12 ct12), sl12⟩) (c12 : PySem.W.codeIn K cd12 "_law_day" = true) (k12 : PySem.W.keepIn K (.ref f12) = true)
    {od13 an13 : Option Addr} {sl13 : Array (Option Value)} {oc13 kV13 dc13 pm13 cd13 ct13 : Value} {f13 : Addr}
    (a13 : PySem.W.nsIn K mainGlobals "_law_some_day" = some (some (.ref f13))) (l13 : K.lookup f13 = some ⟨oc13, od13, .func (PySem.W.fnOf "_law_some_day" "_law_some_day" (defArgs s_l_some_day) (defBody s_l_some_day) (defScope s_l_some_day) .none kV13 dc13 pm13 an13 cd13 ct13), sl13⟩) (c13 : PySem.W.codeIn K cd13 "_law_some_day" = true) (k13 : PySem.W.keepIn K (.ref f13) = true)
    {od14 an14 : Option Addr} {sl14 : Array (Option Value)} {oc14 kV14 dc14 pm14 cd14 ct14 : Value} {f14 : Addr}
    (a14 : PySem.W.nsIn K mainGlobals "_law_is_number" = some (some (.ref f14))) (l14 : K.lookup f14 = some ⟨oc14, od14, .func (PySem.W.fnOf "_law_is_number" "_law_is_number" (defArgs s_l_is_number) (defBody s_l_is_number) (defScope s_l_is_number) .none kV14 dc14 pm14 an14 cd14 ct14), sl14⟩) (c14 : PySem.W.codeIn K cd14 "_law_is_number" = true) (k14 : PySem.W.keepIn K (.ref f14) = true)
    {od15 an15 : Option Addr} {sl15 : Array (Option Value)} {oc15 kV15 dc15 pm15 cd15 ct15 : Value} {f15 : Addr}
    (a15 : PySem.W.nsIn K mainGlobals "_law_is_plan" = some (some (.ref f15))) (l15 : K.lookup f15 = some ⟨oc15, od15, .func (PySem.W.fnOf "_law_is_plan" "_law_is_plan" (defArgs s_l_is_plan) (defBody s_l_is_plan) (defScope s_l_is_plan) .none kV15 dc15 pm15 an15 cd15 ct15), sl15⟩) (c15 : PySem.W.codeIn K cd15 "_law_is_plan" = true) (k15 : PySem.W.keepIn K (.ref f15) = true)
    {od16 an16 : Option Addr} {sl16 : Array (Option Value)} {oc16 kV16 dc16 pm16 cd16 ct16 : Value} {f16 : Addr}
    (a16 : PySem.W.nsIn K mainGlobals "_law_bent" = some (some (.ref f16))) (l16 : K.lookup f16 = some ⟨oc16, od16, .func (PySem.W.fnOf "_law_bent" "_law_bent" (defArgs s_l_bent) (defBody s_l_bent) (defScope s_l_bent) .none kV16 dc16 pm16 an16 cd16 ct16), sl16⟩) (c16 : PySem.W.codeIn K cd16 "_law_bent" = true) (k16 : PySem.W.keepIn K (.ref f16) = true)
    {od17 an17 : Option Addr} {sl17 : Array (Option Value)} {oc17 kV17 dc17 pm17 cd17 ct17 : Value} {f17 : Addr}
    (a17 : PySem.W.nsIn K mainGlobals "_law_made" = some (some (.ref f17))) (l17 : K.lookup f17 = some ⟨oc17, od17, .func (PySem.W.fnOf "_law_made" "_law_made" (defArgs s_l_made) (defBody s_l_made) (defScope s_l_made) .none kV17 dc17 pm17 an17 cd17 ct17), sl17⟩) (c17 : PySem.W.codeIn K cd17 "_law_made" = true) (k17 : PySem.W.keepIn K (.ref f17) = true)
    {od18 an18 : Option Addr} {sl18 : Array (Option Value)} {oc18 kV18 dc18 pm18 cd18 ct18 : Value} {f18 : Addr}
    (a18 : PySem.W.nsIn K mainGlobals "_law_drawn" = some (some (.ref f18))) (l18 : K.lookup f18 = some ⟨oc18, od18, .func (PySem.W.fnOf "_law_drawn" "_law_drawn" (defArgs s_l_drawn) (defBody s_l_drawn) (defScope s_l_drawn) .none kV18 dc18 pm18 an18 cd18 ct18), sl18⟩) (c18 : PySem.W.codeIn K cd18 "_law_drawn" = true) (k18 : PySem.W.keepIn K (.ref f18) = true)
    {od19 an19 : Option Addr} {sl19 : Array (Option Value)} {oc19 kV19 dc19 pm19 cd19 ct19 : Value} {f19 : Addr}
    (a19 : PySem.W.nsIn K mainGlobals "_law_step" = some (some (.ref f19))) (l19 : K.lookup f19 = some ⟨oc19, od19, .func (PySem.W.fnOf "_law_step" "_law_step" (defArgs s_l_step) (defBody s_l_step) (defScope s_l_step) .none kV19 dc19 pm19 an19 cd19 ct19), sl19⟩) (c19 : PySem.W.codeIn K cd19 "_law_step" = true) (k19 : PySem.W.keepIn K (.ref f19) = true)
    {od20 an20 : Option Addr} {sl20 : Array (Option Value)} {oc20 kV20 dc20 pm20 cd20 ct20 : Value} {f20 : Addr}
    (a20 : PySem.W.nsIn K mainGlobals "law" = some (some (.ref f20))) (l20 : K.lookup f20 = some ⟨oc20, od20, .func (PySem.W.fnOf "law" "law" (defArgs s_p_law) (defBody s_p_law) (defScope s_p_law) .none kV20 dc20 pm20 an20 cd20 ct20), sl20⟩) (c20 : PySem.W.codeIn K cd20 "law" = true) (k20 : PySem.W.keepIn K (.ref f20) = true)
    (z_abs : PySem.W.nsIn K mainGlobals "abs" = some none)
    (z_all : PySem.W.nsIn K mainGlobals "all" = some none)
    (z_bool : PySem.W.nsIn K mainGlobals "bool" = some none)
    (z_enumerate : PySem.W.nsIn K mainGlobals "enumerate" = some none)
    (z_int : PySem.W.nsIn K mainGlobals "int" = some none)
    (z_isinstance : PySem.W.nsIn K mainGlobals "isinstance" = some none)
    (z_len : PySem.W.nsIn K mainGlobals "len" = some none)
    (z_list : PySem.W.nsIn K mainGlobals "list" = some none)
    (z_max : PySem.W.nsIn K mainGlobals "max" = some none)
    (z_min : PySem.W.nsIn K mainGlobals "min" = some none)
    (z_range : PySem.W.nsIn K mainGlobals "range" = some none)
    (z_repr : PySem.W.nsIn K mainGlobals "repr" = some none)
    (z_sum : PySem.W.nsIn K mainGlobals "sum" = some none)
    (z_tuple : PySem.W.nsIn K mainGlobals "tuple" = some none)
    (z_zip : PySem.W.nsIn K mainGlobals "zip" = some none)
    {t_AHEAD_OF_ALL : Tok} (z_AHEAD_OF_ALL : PySem.W.nsIn K mainGlobals "AHEAD_OF_ALL" = some (some (.int (-1) t_AHEAD_OF_ALL)))
    : ∃ (fd : FuncData) (cs : List (Addr × Addr)), (∀ p ∈ cs, ∃ y ∈ (["shows_plan", "_is_place_of_plan"] : List Str), PySem.W.tabIn K y = some p) ∧ (∀ p ∈ cs, K.lookup p.2 = none) ∧ (∀ (s : Shared) (v : Value), BindsTo s fd ⟨[v], []⟩ [("_law_script", v)]) ∧ ∀ base : Heap, K.In base → base.Ns mainGlobals mg → (∀ p ∈ cs, GxR.TabB base mg p.1 p.2) → FnG l.prog w K mg base 7 fa fd ["_law_script"] (sp_p_law K (cs.map (·.2))) := by
  have e := hfa.symm.trans (PySem.W.mg_of X G a20)
  cases e
  have F0 := fun_mk (st := s_p_places_in) l0 c0 k0
  have F1 := fun_mk (st := s_p_hours_in) l1 c1 k1
  have F2 := fun_mk (st := s_p_bounds_at) l2 c2 k2
  have F3 := fun_mk (st := s_p_reached) l3 c3 k3
  have F4 := fun_mk (st := s_p_is_number) l4 c4 k4
  have F5 := fun_mk (st := s_p_shows_plan) l5 c5 k5
  have F6 := fun_mk (st := s_p__taken_by) l6 c6 k6
  have F7 := fun_mk (st := s_p__is_place_of_plan) l7 c7 k7
  have F8 := fun_mk (st := s_l_cell_at) l8 c8 k8
  have F9 := fun_mk (st := s_l_box) l9 c9 k9
  have F10 := fun_mk (st := s_l_take) l10 c10 k10
  have F11 := fun_mk (st := s_l_ladles) l11 c11 k11
  have F12 := fun_mk (st := s_l_day) l12 c12 k12
  have F13 := fun_mk (st := s_l_some_day) l13 c13 k13
  have F14 := fun_mk (st := s_l_is_number) l14 c14 k14
  have F15 := fun_mk (st := s_l_is_plan) l15 c15 k15
  have F16 := fun_mk (st := s_l_bent) l16 c16 k16
  have F17 := fun_mk (st := s_l_made) l17 c17 k17
  have F18 := fun_mk (st := s_l_drawn) l18 c18 k18
  have F19 := fun_mk (st := s_l_step) l19 c19 k19
  have F20 := fun_mk (st := s_p_law) l20 c20 k20
  let T : All K mg := ⟨_, _, ⟨F0, PySem.W.mg_of X G a0, F0.binds (ps := ["day"]) fun _ _ _ _ _ _ us hl => match us, hl with | [_], _ => rfl⟩, _, _, ⟨F1, PySem.W.mg_of X G a1, F1.binds (ps := ["day"]) fun _ _ _ _ _ _ us hl => match us, hl with | [_], _ => rfl⟩, _, _, ⟨F2, PySem.W.mg_of X G a2, F2.binds (ps := ["day", "place", "hour"]) fun _ _ _ _ _ _ us hl => match us, hl with | [_, _, _], _ => rfl⟩, _, _, ⟨F3, PySem.W.mg_of X G a3, F3.binds (ps := ["taken", "bound"]) fun _ _ _ _ _ _ us hl => match us, hl with | [_, _], _ => rfl⟩, _, _, ⟨F4, PySem.W.mg_of X G a4, F4.binds (ps := ["thing"]) fun _ _ _ _ _ _ us hl => match us, hl with | [_], _ => rfl⟩, _, _, ⟨F5, PySem.W.mg_of X G a5, F5.binds (ps := ["day", "thing"]) fun _ _ _ _ _ _ us hl => match us, hl with | [_, _], _ => rfl⟩, _, _, ⟨F6, PySem.W.mg_of X G a6, F6.binds (ps := ["plan"]) fun _ _ _ _ _ _ us hl => match us, hl with | [_], _ => rfl⟩, _, _, ⟨F7, PySem.W.mg_of X G a7, F7.binds (ps := ["thing", "hours"]) fun _ _ _ _ _ _ us hl => match us, hl with | [_, _], _ => rfl⟩, _, _, ⟨F8, PySem.W.mg_of X G a8, F8.binds (ps := ["_law_script", "_law_k"]) fun _ _ _ _ _ _ us hl => match us, hl with | [_, _], _ => rfl⟩, _, _, ⟨F9, PySem.W.mg_of X G a9, F9.binds (ps := ["_law_script", "_law_k"]) fun _ _ _ _ _ _ us hl => match us, hl with | [_, _], _ => rfl⟩, _, _, ⟨F10, PySem.W.mg_of X G a10, F10.binds (ps := ["_law_box_here", "_law_many"]) fun _ _ _ _ _ _ us hl => match us, hl with | [_, _], _ => rfl⟩, _, _, ⟨F11, PySem.W.mg_of X G a11, F11.binds (ps := ["_law_box_here", "_law_hours", "_law_wide"]) fun _ _ _ _ _ _ us hl => match us, hl with | [_, _, _], _ => rfl⟩, _, _, ⟨F12, PySem.W.mg_of X G a12, F12.binds (ps := ["_law_box_here", "_law_hours", "_law_pots", "_law_wide"]) fun _ _ _ _ _ _ us hl => match us, hl with | [_, _, _, _], _ => rfl⟩, _, _, ⟨F13, PySem.W.mg_of X G a13, F13.binds (ps := ["_law_box_here"]) fun _ _ _ _ _ _ us hl => match us, hl with | [_], _ => rfl⟩, _, _, ⟨F14, PySem.W.mg_of X G a14, F14.binds (ps := ["_law_thing"]) fun _ _ _ _ _ _ us hl => match us, hl with | [_], _ => rfl⟩, _, _, ⟨F15, PySem.W.mg_of X G a15, F15.binds (ps := ["_law_day_here", "_law_thing"]) fun _ _ _ _ _ _ us hl => match us, hl with | [_, _], _ => rfl⟩, _, _, ⟨F16, PySem.W.mg_of X G a16, F16.binds (ps := ["_law_box_here", "_law_thing", "_law_deep"]) fun _ _ _ _ _ _ us hl => match us, hl with | [_, _, _], _ => rfl⟩, _, _, ⟨F17, PySem.W.mg_of X G a17, F17.binds (ps := ["_law_box_here", "_law_deep"]) fun _ _ _ _ _ _ us hl => match us, hl with | [_, _], _ => rfl⟩, _, _, ⟨F18, PySem.W.mg_of X G a18, F18.binds (ps := ["_law_box_here", "_law_day_here"]) fun _ _ _ _ _ _ us hl => match us, hl with | [_, _], _ => rfl⟩, _, _, ⟨F19, PySem.W.mg_of X G a19, F19.binds (ps := ["_law_box_here", "_law_plan"]) fun _ _ _ _ _ _ us hl => match us, hl with | [_, _], _ => rfl⟩, _, _, ⟨F20, PySem.W.mg_of X G a20, F20.binds (ps := ["_law_script"]) fun _ _ _ _ _ _ us hl => match us, hl with | [_], _ => rfl⟩, PySem.W.mg_none_of X G z_abs, PySem.W.mg_none_of X G z_all, PySem.W.mg_none_of X G z_bool, PySem.W.mg_none_of X G z_enumerate, PySem.W.mg_none_of X G z_int, PySem.W.mg_none_of X G z_isinstance, PySem.W.mg_none_of X G z_len, PySem.W.mg_none_of X G z_list, PySem.W.mg_none_of X G z_max, PySem.W.mg_none_of X G z_min, PySem.W.mg_none_of X G z_range, PySem.W.mg_none_of X G z_repr, PySem.W.mg_none_of X G z_sum, PySem.W.mg_none_of X G z_tuple, PySem.W.mg_none_of X G z_zip, _, PySem.W.mg_of X G z_AHEAD_OF_ALL, C5, P5, funC_mk (st := s_p_shows_plan) l5 c5, C7, P7, funC_mk (st := s_p__is_place_of_plan) l7 c7⟩
  refine ⟨T.fd_p_law, [(C5, P5), (C7, P7)], ((List.forall_mem_cons (p := fun (p : Addr × Addr) => ∃ y ∈ (["shows_plan", "_is_place_of_plan"] : List Str), PySem.W.tabIn K y = some p)).mpr ⟨⟨"shows_plan", by decide, tabIn_of a5 l5 rfl q5 p5⟩, ((List.forall_mem_cons (p := fun (p : Addr × Addr) => ∃ y ∈ (["shows_plan", "_is_place_of_plan"] : List Str), PySem.W.tabIn K y = some p)).mpr ⟨⟨"_is_place_of_plan", by decide, tabIn_of a7 l7 rfl q7 p7⟩, fun p hp => absurd hp List.not_mem_nil⟩)⟩), ((List.forall_mem_cons (p := fun (p : Addr × Addr) => K.lookup p.2 = none)).mpr ⟨n5, ((List.forall_mem_cons (p := fun (p : Addr × Addr) => K.lookup p.2 = none)).mpr ⟨n7, fun p hp => absurd hp List.not_mem_nil⟩)⟩), fun s v => .of_eq rfl, fun base _ _ B => ?_⟩
  have B : Tabs T base := ⟨B (C5, P5) (by simp), B (C7, P7) (by simp)⟩
  exact ok_p_law T B
end KR
open PySem PySem.W PyProof.Rows
set_option maxRecDepth 100000 in
set_option maxHeartbeats 0 in
theorem PySem.Challenge.cw_kettlerow_k61_plans_shown_holds : PySem.Challenge.rw_kettlerow_k61_plans_shown.Holds := by
  w_on; o_law; k_head; (case hw => w_witness2)
  k_fill
  refine KR.walk_ofT (l := PySem.Challenge.rw_kettlerow_k61_plans_shown) (n := 63) (k := 7) (x := "_law_script") (sp := fun w Ps => KR.sp_p_law _ Ps) ["shows_plan", "_is_place_of_plan"] rfl (by decide) rfl ⟨rfl, by decide, by decide⟩ (fun w h Y => PySem.W.kIn_of Y) (by decide +kernel) ?F (fun _ _ _ a ns hl hT hS => ⟨a, ns, rfl, hS, hl, hT, fun _ => rfl⟩)
  case F =>
    intro w mg fa h KX G hmg
    refine' KR.all_mk KX G hmg ?a0 ?l0 ?c0 ?k0 ?a1 ?l1 ?c1 ?k1 ?a2 ?l2 ?c2 ?k2 ?a3 ?l3 ?c3 ?k3 ?a4 ?l4 ?c4 ?k4 ?a5 ?l5 ?c5 ?k5 ?q5 ?p5 ?n5 ?a6 ?l6 ?c6 ?k6 ?a7 ?l7 ?c7 ?k7 ?q7 ?p7 ?n7 ?a8 ?l8 ?c8 ?k8 ?a9 ?l9 ?c9 ?k9 ?a10 ?l10 ?c10 ?k10 ?a11 ?l11 ?c11 ?k11 ?a12 ?l12 ?c12 ?k12 ?a13 ?l13 ?c13 ?k13 ?a14 ?l14 ?c14 ?k14 ?a15 ?l15 ?c15 ?k15 ?a16 ?l16 ?c16 ?k16 ?a17 ?l17 ?c17 ?k17 ?a18 ?l18 ?c18 ?k18 ?a19 ?l19 ?c19 ?k19 ?a20 ?l20 ?c20 ?k20 ?z_abs ?z_all ?z_bool ?z_enumerate ?z_int ?z_isinstance ?z_len ?z_list ?z_max ?z_min ?z_range ?z_repr ?z_sum ?z_tuple ?z_zip ?z_AHEAD_OF_ALL
    (case a0 => k_is)
    (case l0 => k_is)
    (case c0 => k_is)
    (case k0 => k_is)
    (case a1 => k_is)
    (case l1 => k_is)
    (case c1 => k_is)
    (case k1 => k_is)
    (case a2 => k_is)
    (case l2 => k_is)
    (case c2 => k_is)
    (case k2 => k_is)
    (case a3 => k_is)
    (case l3 => k_is)
    (case c3 => k_is)
    (case k3 => k_is)
    (case a4 => k_is)
    (case l4 => k_is)
    (case c4 => k_is)
    (case k4 => k_is)
    (case a5 => k_is)
    (case l5 => k_is)
    (case c5 => k_is)
    (case k5 => k_is)
    (case q5 => k_is)
    (case p5 => first | rfl | (with_unfolding_all rfl))
    (case n5 => first | rfl | (with_unfolding_all rfl))
    (case a6 => k_is)
    (case l6 => k_is)
    (case c6 => k_is)
    (case k6 => k_is)
    (case a7 => k_is)
    (case l7 => k_is)
    (case c7 => k_is)
    (case k7 => k_is)
    (case q7 => k_is)
    (case p7 => first | rfl | (with_unfolding_all rfl))
    (case n7 => first | rfl | (with_unfolding_all rfl))
    (case a8 => k_is)
    (case l8 => k_is)
    (case c8 => k_is)
    (case k8 => k_is)
    (case a9 => k_is)
    (case l9 => k_is)
    (case c9 => k_is)
    (case k9 => k_is)
    (case a10 => k_is)
    (case l10 => k_is)
    (case c10 => k_is)
    (case k10 => k_is)
    (case a11 => k_is)
    (case l11 => k_is)
    (case c11 => k_is)
    (case k11 => k_is)
    (case a12 => k_is)
    (case l12 => k_is)
    (case c12 => k_is)
    (case k12 => k_is)
    (case a13 => k_is)
    (case l13 => k_is)
    (case c13 => k_is)
    (case k13 => k_is)
    (case a14 => k_is)
    (case l14 => k_is)
    (case c14 => k_is)
    (case k14 => k_is)
    (case a15 => k_is)
    (case l15 => k_is)
    (case c15 => k_is)
    (case k15 => k_is)
    (case a16 => k_is)
    (case l16 => k_is)
    (case c16 => k_is)
    (case k16 => k_is)
    (case a17 => k_is)
    (case l17 => k_is)
    (case c17 => k_is)
    (case k17 => k_is)
    (case a18 => k_is)
    (case l18 => k_is)
    (case c18 => k_is)
    (case k18 => k_is)
    (case a19 => k_is)
    (case l19 => k_is)
    (case c19 => k_is)
    (case k19 => k_is)
    (case a20 => k_is)
    (case l20 => k_is)
    (case c20 => k_is)
    (case k20 => k_is)
    (case z_abs => k_is)
    (case z_all => k_is)
    (case z_bool => k_is)
    (case z_enumerate => k_is)
    (case z_int => k_is)
    (case z_isinstance => k_is)
    (case z_len => k_is)
    (case z_list => k_is)
    (case z_max => k_is)
    (case z_min => k_is)
    (case z_range => k_is)
    (case z_repr => k_is)
    (case z_sum => k_is)
    (case z_tuple => k_is)
    (case z_zip => k_is)
    (case z_AHEAD_OF_ALL => k_is)
#print axioms PySem.Challenge.cw_kettlerow_k61_plans_shown_holds
