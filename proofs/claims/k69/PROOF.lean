import PyProof.Rows.All
import Wide.All
import OpenK.AllK
import Wide.FinOn
import HandS.ForMost
import HandS.Gcd
import HandS.Wide
import HandS.IsInst
import HandS.Zip
import HandS.More
import HandS.Style
import HandS.Rev
import HandS.MapJoin
import HandS.StrMore
import KE.KNest
import HandS.AnyAll
import HandS.EndTab
import HandS.GenOver
import KE.GoesEnum
import KE.GoesMore
import KE.GoesZip
import HandS.Walk
import HandS.Flt
import HandS.Dict
import HandS.TupAny
import HandS.RevRange
import HandS.Conv
import HandS.Small
import HandS.List
import PyProof.Rows.IntBool
import PySem.Challenge.RW_kettlerow_k69_days_again_and_shared
set_option Elab.async false
set_option linter.all false
set_option maxRecDepth 100000
set_option maxHeartbeats 4000000
/-! ### own rules and words, of no law -/
namespace KR
open PySem PySem.Spec PyProof.Rows L2

/-- * of any two ints whose product is told to fit -/
theorem op_mulX {X : Cx} : OpR X (binaryOp .Mult) (rI IntMulOk fun i j => .int (i * j)) := opI fun _ _ _ _ _ _ _ hc q => mul_int q hc
/-- // by any divisor but 0, to some three thousand figures -/
def DivOk (_ j : Int) : Prop := j ≠ 0 ∧ j.natAbs.log2 < 9000
theorem op_fdivX {X : Cx} : OpR X (binaryOp .FloorDiv) (rI DivOk fun i j => .int (i.fdiv j)) := opI fun _ _ _ _ _ _ _ hc q => floordiv_int hc.1 q (.inl (PyProof.noPylong_of_log2 hc.2))
theorem mulL {i j : Int} (h : i.natAbs < 2 ^ 64) : IntMulOk i j := CMul.ok (.inl ⟨by omega, by omega⟩)
theorem mulR {i j : Int} (h : j.natAbs < 2 ^ 64) : IntMulOk i j := CMul.ok (.inr ⟨by omega, by omega⟩)
theorem mulW {i j : Int} {a b : Nat} (ha : i.natAbs < 2 ^ a) (hb : j.natAbs < 2 ^ b) (h0 : 0 < a) (h1 : 0 < b) (h : a + b ≤ 1000000) : IntMulOk i j := (wide_mul ha hb h0 h1 h).ok
theorem divOk {i j : Int} {b : Nat} (h : j ≠ 0) (hb : j.natAbs < 2 ^ b) (h0 : 0 < b) (h9 : b ≤ 9000) : DivOk i j := ⟨h, Nat.lt_of_lt_of_le (PySem.Flt.log2_lt_of h0 hb) h9⟩
theorem add_lt {i j : Int} {a : Nat} (ha : i.natAbs < 2 ^ a) (hb : j.natAbs < 2 ^ a) : (i + j).natAbs < 2 ^ (a + 1) := by
  rw [Nat.pow_succ]
  omega
theorem sub_lt {i j : Int} {a : Nat} (ha : i.natAbs < 2 ^ a) (hb : j.natAbs < 2 ^ a) : (i - j).natAbs < 2 ^ (a + 1) := by
  rw [Nat.pow_succ]
  omega
theorem lt_up {i : Int} {a b : Nat} (ha : i.natAbs < 2 ^ a) (h : a ≤ b) : i.natAbs < 2 ^ b := Nat.lt_of_lt_of_le ha (Nat.pow_le_pow_right (by decide) h)
theorem b40 {n : Nat} (h : n < 10 ^ 40) : n < 2 ^ 200 := Nat.lt_trans h (by decide)
theorem b41 {n : Nat} (h : n ≤ 10 ^ 41) : n < 2 ^ 200 := Nat.lt_of_le_of_lt h (by decide)
theorem bit_lt {c : Prop} [Decidable c] : (if c then (1 : Int) else 0).natAbs < 2 ^ 64 := by split <;> decide
theorem bit_nn {c : Prop} [Decidable c] : (0 : Int) ≤ (if c then (1 : Int) else 0) := by split <;> decide
theorem bit_or {c : Prop} [Decidable c] : (if c then (1 : Int) else 0) = 0 ∨ (if c then (1 : Int) else 0) = 1 := by split <;> simp
theorem small {n : Nat} (h : n ≤ 100000) : n ≤ sizeLine := Nat.le_trans h (by decide)
theorem small' {n : Nat} (h : n < 100000) : n < sizeLine := Nat.lt_of_lt_of_le h (by decide)

/-! the heap but for one object that is written -/
/-- all that was tracked but p is as it was -/
def Fr (p : Addr) (H H' : Hp) : Prop := ∀ b o, b ≠ p → H b = some o → H' b = some o
theorem Fr.refl {p : Addr} {H : Hp} : Fr p H H := fun _ _ _ h => h
theorem Fr.trans {p : Addr} {H H1 H2 : Hp} (a : Fr p H H1) (b : Fr p H1 H2) : Fr p H H2 := fun c o n h => b c o n (a c o n h)
theorem Fr.of {p : Addr} {H H1 : Hp} (a : Same H H1) : Fr p H H1 := fun c o _ h => a c o h
theorem same_new {H : Hp} {p : Addr} {o : HO} (h : H p = none) : Same H (upd H p o) := fun b x e => by
  rw [upd_ne (ne_of_none e h)]
  exact e
theorem Fr.new {p q : Addr} {H H1 : Hp} {o : HO} (a : Fr p H H1) (h : H1 q = none) : Fr p H (upd H1 q o) := a.trans (.of (same_new h))
theorem Fr.put {p : Addr} {H H1 : Hp} {o : HO} (a : Fr p H H1) : Fr p H (upd H1 p o) := fun c x n h => by
  rw [upd_ne n]
  exact a c x n h
theorem Fr.put' {p q : Addr} {H H1 : Hp} {o : HO} (a : Fr p H H1) (h : H q = none) : Fr p H (upd H1 q o) := fun c x n e => by
  rw [upd_ne (ne_of_none e h)]
  exact a c x n e
/-- what is new there was new ahead of it, if the written one stands -/
theorem Fr.free {p q : Addr} {H H1 : Hp} {o : HO} (a : Fr p H H1) (hp : H1 p = some o) (h : H1 q = none) : H q = none := by
  cases e : H q with
  | none => rfl
  | some u =>
    have n : q ≠ p := fun z => by
      rw [z, hp] at h
      cases h
    rw [a q u n e] at h
    cases h

/-! a reading may be asked for more than is wanted; displays whose new heap is a letter -/
def clA (t : TA) : TA := fun σ H Q => ∃ Q0 : List V → Hp → Prop, (∀ xs H1, Q0 xs H1 → Q xs H1) ∧ t σ H Q0
theorem pa_cl {X : Cx} {es : List Expr} {t : TA} (h : PA X es t) : PA X es (clA t) := ⟨fun pos pins s σ H Q I ⟨Q0, m, q⟩ =>
  thn (h.run pos pins s σ H Q0 I q) fun us s1 ⟨xs, H1, I1, r, z⟩ => ⟨xs, H1, I1, r, m _ _ z⟩⟩
def tTupI (t : TA) : TE := fun σ H Q => t σ H fun xs H1 => Nat.ble xs.length 100000 = true ∧ ∀ p H', Same H1 H' → H1 p = none → H' p = some (.tup xs) → Q (.ref p) H'
def tLstI (t : TA) : TE := fun σ H Q => t σ H fun xs H1 => Nat.ble xs.length 100000 = true ∧ ∀ p H', Same H1 H' → H1 p = none → H' p = some (.lst xs) → Q (.ref p) H'
theorem pe_tupI {X : Cx} {es : List Expr} {k : Nat} {pos : Pos} {t : TA} (h : PA X es t) : PE X (.Tuple es k pos) (tTupI t) := ⟨fun pins s σ H Q I q =>
  (pe_tup (pa_cl h)).run pins s σ H Q I ⟨_, fun _ _ ⟨z, w⟩ => ⟨small (Nat.le_of_ble_eq_true z), fun p hp => w p _ (same_new hp) hp upd_same⟩, q⟩⟩
theorem pe_lstI {X : Cx} {es : List Expr} {pos : Pos} {t : TA} (h : PA X es t) : PE X (.List es pos) (tLstI t) := ⟨fun pins s σ H Q I q =>
  (pe_lst (pa_cl h)).run pins s σ H Q I ⟨_, fun _ _ ⟨z, w⟩ => ⟨small (Nat.le_of_ble_eq_true z), fun p hp => w p _ (same_new hp) hp upd_same⟩, q⟩⟩
/-- ways that join behind a statement: R is what they come to -/
def tJ (t : TS) : TS := fun D σ H => ∃ R : L2.St → Hp → Prop, (∀ σ' H', R σ' H' → D.nx σ' H') ∧ t { D with nx := R } σ H
theorem ps_J {X : Cx} {st : Stmt} {t : TS} (h : PS X st t) : PS X st (tJ t) := ⟨fun pins s σ H D I ⟨R, m, q⟩ => thn (h.run pins s σ H { D with nx := R } I q) fun f s1 z =>
  match f, z with
  | .next, ⟨σ', H', J, r⟩ => ⟨σ', H', J, m _ _ r⟩
  | .ret _, z => z
  | .brk, z => z
  | .cont, z => z⟩
theorem ite_bT {b : Bool} {A B : Prop} (h : b = true) (q : A) : if b = true then A else B := by
  rw [if_pos h]
  exact q
theorem ite_bF {b : Bool} {A B : Prop} (h : b = false) (q : B) : if b = true then A else B := by
  rw [if_neg (by rw [h]; exact Bool.false_ne_true)]
  exact q
theorem ite_iT {i j : Int} {A B : Prop} (h : i = j) (q : A) : if decide (V.int i = V.int j) = true then A else B := by
  rw [if_pos (decide_eq_true (congrArg V.int h))]
  exact q
theorem ite_iF {i j : Int} {A B : Prop} (h : i ≠ j) (q : B) : if decide (V.int i = V.int j) = true then A else B := by
  rw [if_neg (by rw [decide_eq_false fun z => h (V.int.inj z)]; exact Bool.false_ne_true)]
  exact q
theorem ite_nT {i j : Int} {A B : Prop} (h : i ≠ j) (q : A) : if (!decide (V.int i = V.int j)) = true then A else B := by
  rw [if_pos (by rw [decide_eq_false fun z => h (V.int.inj z)] <;> rfl)]
  exact q
theorem ite_nF {i j : Int} {A B : Prop} (h : i = j) (q : B) : if (!decide (V.int i = V.int j)) = true then A else B := by
  rw [if_neg (by rw [decide_eq_true (congrArg V.int h)]; exact Bool.false_ne_true)]
  exact q
/-- the law's box of draws: n is more than have been mixed -/
def BoxAt (H : Hp) (p : Addr) (n : Nat) : Prop := ∃ a b c : Int, H p = some (.lst [.int a, .int b, .int c]) ∧ 0 ≤ a ∧ 0 ≤ b ∧ b < 2 ^ 62 ∧ 0 ≤ c ∧ c ≤ (n : Int)
theorem BoxAt.mono {H : Hp} {p : Addr} {n m : Nat} (h : BoxAt H p n) (le : n ≤ m) : BoxAt H p m := by
  obtain ⟨a, b, c, h1, h2, h3, h4, h5, h6⟩ := h
  exact ⟨a, b, c, h1, h2, h3, h4, h5, by omega⟩
theorem BoxAt.same {H H' : Hp} {p : Addr} {n : Nat} (h : BoxAt H p n) (s : Same H H') : BoxAt H' p n := by
  obtain ⟨a, b, c, h1, h2⟩ := h
  exact ⟨a, b, c, s _ _ h1, h2⟩
theorem BoxAt.ne {H : Hp} {p q : Addr} {n : Nat} {xs : List V} (h : BoxAt H p n) (t : H q = some (.tup xs)) : q ≠ p := by
  obtain ⟨a, b, c, h1, _⟩ := h
  exact ne_of t h1 (by intro z; cases z)
theorem BoxAt.some {H : Hp} {p : Addr} {n : Nat} (h : BoxAt H p n) : ∃ o, H p = some o := by
  obtain ⟨a, b, c, h1, _⟩ := h
  exact ⟨_, h1⟩
/-- a tuple stays -/
theorem Fr.tup {p q : Addr} {H H1 : Hp} {n : Nat} {xs : List V} (a : Fr p H H1) (hb : BoxAt H p n) (t : H q = some (.tup xs)) : H1 q = some (.tup xs) := a q _ (hb.ne t) t
/-- a pair of ints -/
def PrAt (H : Hp) (q : Addr) (t b : Int) : Prop := H q = some (.tup [.int t, .int b])
theorem at0 {x : V} {xs : List V} : atI (x :: xs) 0 = some x := atI_nat (j := 0) rfl
theorem at1 {x y : V} {xs : List V} : atI (x :: y :: xs) 1 = some y := atI_nat (j := 1) rfl
theorem at2 {x y z : V} {xs : List V} : atI (x :: y :: z :: xs) 2 = some z := atI_nat (j := 2) rfl

/-! fractions -/
/-- the law's own lowest terms -/
def low (t b : Int) : Int × Int := (t / (Nat.gcd t.natAbs b.natAbs : Nat) * (if b < 0 then -1 else 1), (b.natAbs : Int) / (Nat.gcd t.natAbs b.natAbs : Nat))
structure IsLow (t b : Int) : Prop where
  pos : 0 < b
  cop : Nat.gcd t.natAbs b.natAbs = 1
theorem dvd_mul {a b : Int} (h : a ∣ b) : a * (b / a) = b := Int.mul_ediv_cancel' h
theorem low_facts (t b : Int) (hb : b ≠ 0) : IsLow (low t b).1 (low t b).2 ∧ t * (low t b).2 = (low t b).1 * b := by
  have hg : 0 < Nat.gcd t.natAbs b.natAbs := Nat.gcd_pos_of_pos_right _ (by omega)
  generalize e : Nat.gcd t.natAbs b.natAbs = g at hg
  have d1 : g ∣ t.natAbs := e ▸ Nat.gcd_dvd_left _ _
  have d2 : g ∣ b.natAbs := e ▸ Nat.gcd_dvd_right _ _
  obtain ⟨x, hx⟩ := d1
  obtain ⟨y, hy⟩ := d2
  have hc : Nat.gcd x y = 1 := by
    rw [hx, hy, Nat.gcd_mul_left] at e
    exact Nat.eq_of_mul_eq_mul_left hg (by rw [e, Nat.mul_one])
  have hy0 : 0 < y := by
    rcases Nat.eq_zero_or_pos y with z | z
    · rw [z, Nat.mul_zero] at hy
      omega
    · exact z
  have h2 : (low t b).2 = (y : Int) := by
    show (b.natAbs : Int) / (Nat.gcd t.natAbs b.natAbs : Nat) = (y : Int)
    rw [e, hy, Int.natCast_mul]
    exact Int.mul_ediv_cancel_left _ (by omega)
  have ht : t = (g : Int) * x ∨ t = -((g : Int) * x) := by
    have q : (t.natAbs : Int) = (g : Int) * x := by rw [hx, Int.natCast_mul]
    omega
  have hbb : (b.natAbs : Int) = (g : Int) * y := by rw [hy, Int.natCast_mul]
  have h1 : (low t b).1 = (t / (g : Int)) * (if b < 0 then -1 else 1) := by
    show t / (Nat.gcd t.natAbs b.natAbs : Nat) * (if b < 0 then -1 else 1) = _
    rw [e]
  have h3 : t / (g : Int) = x ∨ t / (g : Int) = -(x : Int) := by
    rcases ht with q | q
    · left
      rw [q]
      exact Int.mul_ediv_cancel_left _ (by omega)
    · right
      rw [q, ← Int.mul_neg]
      exact Int.mul_ediv_cancel_left _ (by omega)
  have h4 : (g : Int) * (t / (g : Int)) = t := dvd_mul (by
    rcases ht with q | q
    · exact ⟨x, q⟩
    · exact ⟨-x, by rw [q, Int.mul_neg]⟩)
  refine ⟨⟨by rw [h2]; omega, ?_⟩, ?_⟩
  · rw [h2, h1]
    have q : ((t / (g : Int)) * (if b < 0 then -1 else 1)).natAbs = x := by
      split <;> rcases h3 with z | z <;> rw [z] <;> omega
    rw [q]
    exact hc
  · rw [h2, h1]
    by_cases c : b < 0
    · rw [if_pos c]
      have q : b = -((g : Int) * y) := by omega
      grind
    · rw [if_neg c]
      have q : b = (g : Int) * y := by omega
      grind
theorem low_pos (t b : Int) (hb : b ≠ 0) : 0 < (low t b).2 := (low_facts t b hb).1.pos
/-- two fractions in lowest terms that are alike across are one -/
theorem isLow_uniq {x y u v : Int} (h : IsLow x y) (k : IsLow u v) (e : x * v = u * y) : x = u ∧ y = v := by
  have h1 := h.pos
  have k1 := k.pos
  have e1 : x.natAbs * v.natAbs = u.natAbs * y.natAbs := by rw [← Int.natAbs_mul, ← Int.natAbs_mul, e]
  have d1 : y.natAbs ∣ v.natAbs := (Nat.Coprime.symm h.cop).dvd_of_dvd_mul_left (by rw [e1]; exact Nat.dvd_mul_left _ _)
  have d2 : v.natAbs ∣ y.natAbs := (Nat.Coprime.symm k.cop).dvd_of_dvd_mul_left (by rw [← e1]; exact Nat.dvd_mul_left _ _)
  have e2 : y.natAbs = v.natAbs := Nat.dvd_antisymm d1 d2
  have e3 : y = v := by omega
  subst e3
  exact ⟨Int.eq_of_mul_eq_mul_right (by omega) e, rfl⟩
theorem low_eq {t b x y : Int} (hb : b ≠ 0) (h : IsLow x y) (e : t * y = x * b) : low t b = (x, y) := by
  obtain ⟨h1, h2⟩ := low_facts t b hb
  have q : (low t b).1 * y = x * (low t b).2 := by
    have z : b * ((low t b).1 * y) = b * (x * (low t b).2) := by grind
    exact Int.eq_of_mul_eq_mul_left hb z
  obtain ⟨a1, a2⟩ := isLow_uniq h1 h q
  exact Prod.ext a1 a2
theorem low_id {t b : Int} (h : IsLow t b) : low t b = (t, b) := low_eq (by have := h.pos; omega) h rfl
theorem low_le (t b : Int) : (low t b).1.natAbs ≤ t.natAbs ∧ (low t b).2.natAbs ≤ b.natAbs := by
  generalize e : Nat.gcd t.natAbs b.natAbs = g
  have h1 : (low t b).1 = (t / (g : Int)) * (if b < 0 then -1 else 1) := by
    show t / (Nat.gcd t.natAbs b.natAbs : Nat) * (if b < 0 then -1 else 1) = _
    rw [e]
  have h2 : (low t b).2 = (b.natAbs : Int) / (g : Int) := by
    show (b.natAbs : Int) / (Nat.gcd t.natAbs b.natAbs : Nat) = _
    rw [e]
  have d1 : (g : Int) ∣ t := e ▸ Int.ofNat_dvd_left.mpr (Nat.gcd_dvd_left _ _)
  constructor
  · rw [h1]
    have q : (t / (g : Int) * (if b < 0 then -1 else 1)).natAbs = (t / (g : Int)).natAbs := by
      split <;> omega
    rw [q]
    obtain ⟨z, rfl⟩ := d1
    by_cases c : (g : Int) = 0
    · rw [c, Int.zero_mul, Int.zero_ediv]
      omega
    · rw [Int.mul_ediv_cancel_left _ c, Int.natAbs_mul]
      exact Nat.le_mul_of_pos_left _ (by omega)
  · rw [h2, ← Int.natCast_ediv, Int.natAbs_natCast]
    exact Nat.div_le_self _ _
theorem low_lt {t b : Int} {n : Nat} (h1 : t.natAbs < 2 ^ n) (h2 : b.natAbs < 2 ^ n) : (low t b).1.natAbs < 2 ^ n ∧ (low t b).2.natAbs < 2 ^ n :=
  ⟨Nat.lt_of_le_of_lt (low_le t b).1 h1, Nat.lt_of_le_of_lt (low_le t b).2 h2⟩
/-- a fraction in lowest terms, of fewer than sixty figures -/
structure FrAt (H : Hp) (x : Addr) (a b : Int) : Prop where
  at_ : H x = some (.tup [.int a, .int b])
  low : IsLow a b
  ta : a.natAbs < 2 ^ 200
  tb : b.natAbs < 2 ^ 200
theorem FrAt.same {H H' : Hp} {x : Addr} {a b : Int} (h : FrAt H x a b) (s : Same H H') : FrAt H' x a b := ⟨s _ _ h.at_, h.low, h.ta, h.tb⟩
theorem FrAt.fr {H H' : Hp} {x p : Addr} {a b : Int} {n : Nat} (h : FrAt H x a b) (B : BoxAt H p n) (f : Fr p H H') : FrAt H' x a b := ⟨f.tup B h.at_, h.low, h.ta, h.tb⟩
/-- a new pair of two numbers' lowest terms -/
def sp_low : Sp := fun vs H Q _ => ∃ t b : Int, vs = [.int t, .int b] ∧ b ≠ 0 ∧ t.natAbs < 2 ^ 2000 ∧ b.natAbs < 2 ^ 2000 ∧ ∀ p H', Same H H' → H p = none → H' p = some (.tup [.int (low t b).1, .int (low t b).2]) → Q (.ref p) H'
/-- two pairs in, low of what f and g say of them out -/
def sp_two (K : PySem.W.Frag) (f g : Int → Int → Int → Int → Int) : Sp := fun vs H Q _ => ∃ (x y : Addr) (a b c d : Int), vs = [.ref x, .ref y] ∧ SqT K H x [.int a, .int b] ∧ SqT K H y [.int c, .int d] ∧ g a b c d ≠ 0 ∧ a.natAbs < 2 ^ 900 ∧ b.natAbs < 2 ^ 900 ∧ c.natAbs < 2 ^ 900 ∧ d.natAbs < 2 ^ 900 ∧
  ∀ p H', Same H H' → H p = none → H' p = some (.tup [.int (low (f a b c d) (g a b c d)).1, .int (low (f a b c d) (g a b c d)).2]) → Q (.ref p) H'
/-- by a divisor turned about -/
theorem fdiv_neg {t g : Int} (h : g ∣ t) : t.fdiv (-g) = t / g * -1 := by
  obtain ⟨z, rfl⟩ := h
  by_cases c : g = 0
  · subst c
    simp
  · rw [Int.mul_ediv_cancel_left _ c, show g * z = (-g) * (-z) by grind, Int.mul_fdiv_cancel_left _ (by omega)]
    omega

/-! data of the law's own making, n deep -/
theorem Same.put {H0 H : Hp} {D : Addr} {o : HO} (s : Same H0 H) (h : H0 D = none) : Same H0 (upd H D o) := fun b u e => by
  rw [upd_ne (ne_of_none e h)]
  exact s b u e
inductive Dt (H : Hp) : Nat → V → PyData → Prop
  | non (n : Nat) : Dt H (n + 1) .non .none
  | bl (n : Nat) (b : Bool) : Dt H (n + 1) (.bl b) (.bool b)
  | int (n : Nat) (i : Int) : Dt H (n + 1) (.int i) (.int i)
  | str (n : Nat) (x : Str) (ok : PyData.canLay0 (.str x) = true) : Dt H (n + 1) (.str x) (.str x)
  | lst {n : Nat} {a : Addr} {xs : List V} {ds : List PyData} : H a = some (.lst xs) → xs.length = ds.length → xs.length ≤ 100000 → (∀ (i : Nat) (x : V) (d : PyData), xs[i]? = some x → ds[i]? = some d → Dt H n x d) → Dt H (n + 1) (.ref a) (.list ds)
  | tup {n : Nat} {a : Addr} {xs : List V} {ds : List PyData} : H a = some (.tup xs) → xs.length = ds.length → xs.length ≤ 100000 → (∀ (i : Nat) (x : V) (d : PyData), xs[i]? = some x → ds[i]? = some d → Dt H n x d) → Dt H (n + 1) (.ref a) (.tuple ds)
theorem Dt.same {H H' : Hp} (s : Same H H') : ∀ {n : Nat} {v : V} {d : PyData}, Dt H n v d → Dt H' n v d := by
  intro n v d h
  induction h with
  | non n => exact .non n
  | bl n b => exact .bl n b
  | int n i => exact .int n i
  | str n x ok => exact .str n x ok
  | lst h1 h2 h3 _ ih => exact .lst (s _ _ h1) h2 h3 ih
  | tup h1 h2 h3 _ ih => exact .tup (s _ _ h1) h2 h3 ih
theorem Dt.up {H : Hp} {n m : Nat} {v : V} {d : PyData} (h : Dt H n v d) : n ≤ m → Dt H m v d := by
  intro le
  induction h generalizing m with
  | non n => obtain ⟨k, rfl⟩ : ∃ k, m = k + 1 := ⟨m - 1, by omega⟩; exact .non k
  | bl n b => obtain ⟨k, rfl⟩ : ∃ k, m = k + 1 := ⟨m - 1, by omega⟩; exact .bl k b
  | int n i => obtain ⟨k, rfl⟩ : ∃ k, m = k + 1 := ⟨m - 1, by omega⟩; exact .int k i
  | str n x ok => obtain ⟨k, rfl⟩ : ∃ k, m = k + 1 := ⟨m - 1, by omega⟩; exact .str k x ok
  | lst h1 h2 h3 _ ih => obtain ⟨k, rfl⟩ : ∃ k, m = k + 1 := ⟨m - 1, by omega⟩; exact .lst h1 h2 h3 fun i x d a b => ih i x d a b (by omega)
  | tup h1 h2 h3 _ ih => obtain ⟨k, rfl⟩ : ∃ k, m = k + 1 := ⟨m - 1, by omega⟩; exact .tup h1 h2 h3 fun i x d a b => ih i x d a b (by omega)
theorem Dt.tup2 {H : Hp} {n : Nat} {a : Addr} {x y : V} {d e : PyData} (h : H a = some (.tup [x, y])) (h1 : Dt H n x d) (h2 : Dt H n y e) : Dt H (n + 1) (.ref a) (.tuple [d, e]) :=
  .tup h rfl (by show 2 ≤ 100000; decide) fun i u v hu hv => match i, hu, hv with
    | 0, hu, hv => by cases hu; cases hv; exact h1
    | 1, hu, hv => by cases hu; cases hv; exact h2
    | i + 2, hu, _ => by simp at hu
theorem Dt.pair {H : Hp} {a : Addr} {t b : Int} (h : H a = some (.tup [.int t, .int b])) : Dt H 2 (.ref a) (.tuple [.int t, .int b]) := .tup2 h (.int 0 t) (.int 0 b)
theorem Dt.lst2 {H : Hp} {n : Nat} {a : Addr} {x y : V} {d e : PyData} (h : H a = some (.lst [x, y])) (h1 : Dt H n x d) (h2 : Dt H n y e) : Dt H (n + 1) (.ref a) (.list [d, e]) :=
  .lst h rfl (by show 2 ≤ 100000; decide) fun i u v hu hv => match i, hu, hv with
    | 0, hu, hv => by cases hu; cases hv; exact h1
    | 1, hu, hv => by cases hu; cases hv; exact h2
    | i + 2, hu, _ => by simp at hu
theorem Dt.lst3 {H : Hp} {n : Nat} {a : Addr} {x y z : V} {d e f : PyData} (h : H a = some (.lst [x, y, z])) (h1 : Dt H n x d) (h2 : Dt H n y e) (h3 : Dt H n z f) : Dt H (n + 1) (.ref a) (.list [d, e, f]) :=
  .lst h rfl (by show 3 ≤ 100000; decide) fun i u v hu hv => match i, hu, hv with
    | 0, hu, hv => by cases hu; cases hv; exact h1
    | 1, hu, hv => by cases hu; cases hv; exact h2
    | 2, hu, hv => by cases hu; cases hv; exact h3
    | i + 3, hu, _ => by simp at hu
/-- a comprehension over pairs: J hands out a new tuple of px i and py i at each of n turns, while St stands -/
theorem lc_pair {J : It} {n : Nat} {St : Hp → Prop} {px py : Nat → V} (hgo : ∀ i H, i < n → St H → J.go i H) (hst : ∀ H, St H → J.stop n H)
    (hy : ∀ i H v H', i < n → St H → J.yld i H v H' → ∃ T, v = .ref T ∧ H T = none ∧ H' = upd H T (.tup [px i, py i]))
    {g : TG} {tt : TT} {te : TE} {vs : List Nat} {σ : L2.St} {H1 : Hp} {D : Addr} {Qd : Hp → Prop} (Pv : Nat → Hp → Prop) (h0 : Pv 0 (upd H1 D (.lst []))) (hq : ∀ i H, i ≤ n → Pv i H → St H)
    (hs : ∀ i T H, i < n → Pv i H → H T = none → g (.ref T) (wipe σ vs) (upd H T (.tup [px i, py i])) fun σ2 H2 => wipe σ2 vs = wipe σ vs ∧ tt σ2 H2 fun b H3 =>
      if b = true then te σ2 H3 fun y H4 => ∃ acc, H4 D = some (.lst acc) ∧ acc.length < sizeLine ∧ Pv (i + 1) (upd H4 D (.lst (acc ++ [y]))) else Pv (i + 1) H3) (hd : ∀ H, Pv n H → Qd H) :
    ∃ W : Nat → Nat → Hp → Prop, (∃ m, W 0 m (upd H1 D (.lst []))) ∧ ∀ i m H, W i m H →
      (J.stop i H ∧ Qd H) ∨ (J.go i H ∧ ∃ Nx : Hp → Prop, (∀ H', Nx H' → ∃ m', m' < m ∧ W (i + 1) m' H') ∧ ∀ x H', J.yld i H x H' → g x (wipe σ vs) H' fun σ2 H2 => wipe σ2 vs = wipe σ vs ∧ tt σ2 H2 fun b H3 =>
        if b = true then te σ2 H3 fun y H4 => ∃ acc, H4 D = some (.lst acc) ∧ acc.length < sizeLine ∧ Nx (upd H4 D (.lst (acc ++ [y]))) else Nx H3) := by
  refine ⟨fun i m H => i + m = n ∧ Pv i H, ⟨n, by omega, h0⟩, fun i m H w => ?_⟩
  obtain ⟨e, p⟩ := w
  have q := hq i H (by omega) p
  rcases Nat.lt_or_ge i n with lt | ge
  · refine Or.inr ⟨hgo i H lt q, Pv (i + 1), fun H' p' => ⟨m - 1, by omega, by omega, p'⟩, fun x H' y => ?_⟩
    obtain ⟨T, rfl, nT, rfl⟩ := hy i H x H' lt q y
    exact hs i T H lt p nT
  · obtain rfl : i = n := by omega
    exact Or.inl ⟨hst H q, hd H p⟩
theorem zipL_go {K : PySem.W.Frag} {a b : Addr} {xs ys : List V} {n : Nat} (h1 : xs.length = n) (h2 : ys.length = n) {i : Nat} {H : Hp} (lt : i < n) (q : SqL K H a xs ∧ SqL K H b ys) : (Itz K a b).go i H :=
  ⟨xs, ys, _, _, q.1, q.2, List.getElem?_eq_getElem (by omega), List.getElem?_eq_getElem (by omega)⟩
theorem zipL_stop {K : PySem.W.Frag} {a b : Addr} {xs ys : List V} {n : Nat} (h1 : xs.length = n) {H : Hp} (q : SqL K H a xs ∧ SqL K H b ys) : (Itz K a b).stop n H := ⟨xs, ys, q.1, q.2, .inl (by omega)⟩
theorem zipL_yld {K : PySem.W.Frag} {a b : Addr} {xs ys : List V} {n : Nat} (h1 : xs.length = n) (h2 : ys.length = n) {i : Nat} {H H' : Hp} {v : V} (lt : i < n) (q : SqL K H a xs ∧ SqL K H b ys) (y : (Itz K a b).yld i H v H') :
    ∃ T, v = .ref T ∧ H T = none ∧ H' = upd H T (.tup [xs.getD i .non, ys.getD i .non]) := by
  obtain ⟨T, x, y, rfl, nT, rfl, f1, f2⟩ := y
  refine ⟨T, rfl, nT, ?_⟩
  rw [List.getD_eq_getElem?_getD, List.getD_eq_getElem?_getD, f1 _ q.1, f2 _ q.2] <;> rfl
theorem zipT_go {K : PySem.W.Frag} {a b : Addr} {xs ys : List V} {n : Nat} (h1 : xs.length = n) (h2 : ys.length = n) {i : Nat} {H : Hp} (lt : i < n) (q : SqT K H a xs ∧ SqT K H b ys) : (RZ.ItzT K a b).go i H :=
  ⟨xs, ys, _, _, q.1, q.2, List.getElem?_eq_getElem (by omega), List.getElem?_eq_getElem (by omega)⟩
theorem zipT_stop {K : PySem.W.Frag} {a b : Addr} {xs ys : List V} {n : Nat} (h1 : xs.length = n) {H : Hp} (q : SqT K H a xs ∧ SqT K H b ys) : (RZ.ItzT K a b).stop n H := ⟨xs, ys, q.1, q.2, .inl (by omega)⟩
theorem zipT_yld {K : PySem.W.Frag} {a b : Addr} {xs ys : List V} {n : Nat} (h1 : xs.length = n) (h2 : ys.length = n) {i : Nat} {H H' : Hp} {v : V} (lt : i < n) (q : SqT K H a xs ∧ SqT K H b ys) (y : (RZ.ItzT K a b).yld i H v H') :
    ∃ T, v = .ref T ∧ H T = none ∧ H' = upd H T (.tup [xs.getD i .non, ys.getD i .non]) := by
  obtain ⟨T, x, y, rfl, nT, rfl, f1, f2⟩ := y
  refine ⟨T, rfl, nT, ?_⟩
  rw [List.getD_eq_getElem?_getD, List.getD_eq_getElem?_getD, f1 _ q.1, f2 _ q.2] <;> rfl
theorem getD_of {xs : List V} {i : Nat} (h : i < xs.length) : xs[i]? = some (xs.getD i .non) := by
  rw [List.getD_eq_getElem?_getD, List.getElem?_eq_getElem h] <;> rfl
theorem yesT {σ : L2.St} {H : Hp} {A B : Hp → Prop} (h : A H) : tYes σ H fun b H3 => if b = true then A H3 else B H3 := iteT (A := A H) (B := B H) h
/-- True so often -/
theorem all_true (n : Nat) : (List.replicate n true).map V.bl = List.replicate n (V.bl true) ∧ (List.replicate n true).all id = true := by
  refine ⟨List.map_replicate, ?_⟩
  induction n with
  | zero => rfl
  | succ n ih => rw [List.replicate_succ, List.all_cons, ih] <;> rfl

/-- a def of the text, where it stands and how it is called -/
structure Def (K : PySem.W.Frag) (mg : Str → Option Value) (name : Str) (st : Stmt) (f : Addr) (fd : FuncData) (ps : List Str) : Prop where
  fn : Fun K name name st f fd
  mg : mg name = some (.ref f)
  b : Binds K fd ps []
/-! rules whose written part is a letter -/
section
variable {X : Cx} {K : PySem.W.Frag}
theorem ixL (h : X.K = K) : IxR X (rIxL K) := h ▸ ix_list
theorem ixT (h : X.K = K) : IxR X (rIxT K) := h ▸ ix_tup
theorem ixQ (h : X.K = K) : IxR X (rIx K) := h ▸ ix_seq
def rLenQ (K : PySem.W.Frag) : List V → Hp → VK → Prop := fun xs H Q => ∃ p ys, xs = [.ref p] ∧ (SqL K H p ys ∨ SqT K H p ys) ∧ Q (.int (ys.length : Nat)) H
theorem lenQ (h : X.K = K) : CallR X (.builtin "len") (rLenQ K) := h ▸ call_len_seq
def rLenA (K : PySem.W.Frag) : List V → Hp → VK → Prop := fun xs H Q => ∃ x n, xs = [x] ∧ LenV K x H n ∧ Q (.int (n : Nat)) H
theorem lenA (h : X.K = K) : CallR X (.builtin "len") (rLenA K) := h ▸ call_len
theorem isiK (h : X.K = K) : CallR X (.builtin "isinstance") (rIsi K) := h ▸ call_isi
theorem isiTK (h : X.K = K) : CallR X (.builtin "isinstance") (rIsiT K) := h ▸ call_isiT
theorem allK (h : X.K = K) (hc : X.calm = true) : CallR X (.builtin "all") (rAll K) := h ▸ cr_all hc
theorem anyK (h : X.K = K) (hc : X.calm = true) : CallR X (.builtin "any") (rAny K) := h ▸ cr_any hc
theorem sumK (h : X.K = K) (hc : X.calm = true) : CallR X (.builtin "sum") (rSum K) := h ▸ cr_sum hc
theorem eqDK (h : X.K = K) (hu : X.A.units + 64 < cLine) : OpR X (compareOp .Eq) (rEqD K) := h ▸ op_eqD hu
theorem neDK (h : X.K = K) (hu : X.A.units + 64 < cLine) : OpR X (compareOp .NotEq) (rNeD K) := h ▸ op_neD hu
theorem inQ (h : X.K = K) : OpR X (compareOp .In) (rIn K false) := h ▸ op_in_seq
theorem notInQ (h : X.K = K) : OpR X (compareOp .NotIn) (rIn K true) := h ▸ op_notIn_seq
theorem pi_listK {tg l : Expr} {tl : TE} (h : X.K = K) (hl : PE X l tl) : PI X tg l (iList K tl) := h ▸ pi_list hl
theorem pi_tupK {tg l : Expr} {tl : TE} (h : X.K = K) (hl : PE X l tl) : PI X tg l (iTup K tl) := h ▸ pi_tup hl
theorem pi_zipK {e e2 : Expr} {ta : TA} {p pos tpos : Pos} {elts : List Expr} {kk : Nat} (h : X.K = K) (hg : Gl X "zip") (hm : X.mg "zip" = none) (ha : PA X [e, e2] ta)
    (hs : starEach [e, e2] X.env = (false, eval e X.env) :: starEach [e2] X.env := by rfl) (hpl : (backTo pos (starEach [e2] X.env)).any (·.1) = false := by rfl) :
    PI X (.Tuple elts kk tpos) (.Call (.Name "zip" p) [e, e2] [] pos) (RZ.iZipA K ta) := h ▸ RZ.pi_zipA hg hm ha hs hpl
theorem pi_enumK {e : Expr} {ta : TA} {p pos tpos : Pos} {elts : List Expr} {kk : Nat} (h : X.K = K) (hg : Gl X "enumerate") (hm : X.mg "enumerate" = none) (ha : PA X [e] ta) (hs : starEach [e] X.env = [(false, eval e X.env)] := by rfl) :
    PI X (.Tuple elts kk tpos) (.Call (.Name "enumerate" p) [e] [] pos) (iEnum K ta) := h ▸ pi_enum hg hm ha hs
theorem pg_tupK {es : List Expr} {k : Nat} {pos : Pos} {t : TGs} {n : Nat} (h : X.K = K) (hc : X.calm = true) (ht : PGs X es t) (hn : (assignEach es X.env).length = n := by rfl) (hst : (assignEach es X.env).findIdx? (·.1) = none := by rfl) :
    PG X (.Tuple es k pos) (gTup K n t) := h ▸ pg_tup hc ht hn hst
/-- a new slice, a new list of what a thing holds -/
def rSlLI (K : PySem.W.Frag) : V → Option Int → Option Int → Hp → VK → Prop := fun x lo hi H Q => ∃ a xs, x = .ref a ∧ SqL K H a xs ∧ ∀ p H', Same H H' → H p = none → H' p = some (.lst (cutV xs lo hi)) → Q (.ref p) H'
theorem slL (h : X.K = K) : SlR X (rSlLI K) := fun pins s σ H x v vl vu lo hi sl Q I rx hs pl pu ⟨a, xs, e, q, k⟩ =>
  sl_list pins s σ H x v vl vu lo hi sl Q I rx hs pl pu ⟨a, xs, e, h ▸ q, fun p hp => k p _ (same_new hp) hp upd_same⟩
def rListI (K : PySem.W.Frag) : List V → Hp → VK → Prop := fun xs H Q => ∃ p ys, xs = [.ref p] ∧ (SqL K H p ys ∨ SqT K H p ys) ∧ ∀ l H', Same H H' → H l = none → H' l = some (.lst ys) → Q (.ref l) H'
theorem listI (h : X.K = K) : CallR X (.type "list") (rListI K) := fun pins s σ H xs us Q I r ⟨p, ys, e, q, k⟩ =>
  call_list_of pins s σ H xs us Q I r ⟨p, ys, e, h ▸ q, fun l hl => k l _ (same_new hl) hl upd_same⟩
end
/-! lists of fractions: addresses, tops, bottoms -/
abbrev Fq := Addr × Int × Int
def refs (l : List Fq) : List V := l.map fun z => V.ref z.1
def dat (z : Fq) : PyData := .tuple [.int z.2.1, .int z.2.2]
structure FqAt (H : Hp) (n : Nat) (z : Fq) : Prop where
  at_ : H z.1 = some (.tup [.int z.2.1, .int z.2.2])
  low : IsLow z.2.1 z.2.2
  ta : z.2.1.natAbs ≤ 10 ^ 41 + n
  tb : z.2.2.natAbs ≤ 10 ^ 41 + n
def FrL (H : Hp) (n : Nat) (l : List Fq) : Prop := ∀ z ∈ l, FqAt H n z
theorem FqAt.fr {H H' : Hp} {p : Addr} {n m k : Nat} {z : Fq} (h : FqAt H n z) (B : BoxAt H p m) (f : Fr p H H') (le : n ≤ k) : FqAt H' k z := ⟨f.tup B h.at_, h.low, by have := h.ta; omega, by have := h.tb; omega⟩
theorem FqAt.same {H H' : Hp} {n : Nat} {z : Fq} (h : FqAt H n z) (s : Same H H') : FqAt H' n z := ⟨s _ _ h.at_, h.low, h.ta, h.tb⟩
theorem FrL.fr {H H' : Hp} {p : Addr} {n m k : Nat} {l : List Fq} (h : FrL H n l) (B : BoxAt H p m) (f : Fr p H H') (le : n ≤ k) : FrL H' k l := fun z hz => (h z hz).fr B f le
theorem FrL.same {H H' : Hp} {n : Nat} {l : List Fq} (h : FrL H n l) (s : Same H H') : FrL H' n l := fun z hz => (h z hz).same s
theorem FqAt.wide {H : Hp} {n : Nat} {z : Fq} (h : FqAt H n z) (le : n ≤ 1000) : z.2.1.natAbs < 2 ^ 200 ∧ z.2.2.natAbs < 2 ^ 200 := by
  have h1 := h.ta
  have h2 := h.tb
  have e : 10 ^ 41 + 1000 < 2 ^ 200 := by decide
  omega
theorem refs_len (l : List Fq) : (refs l).length = l.length := List.length_map _
theorem refs_get {l : List Fq} {i : Nat} {z : Fq} (h : l[i]? = some z) : (refs l)[i]? = some (.ref z.1) := by
  unfold refs
  rw [List.getElem?_map, h] <;> rfl
theorem refs_of {l : List Fq} {i : Nat} {x : V} (h : (refs l)[i]? = some x) : ∃ z, l[i]? = some z ∧ x = .ref z.1 := by
  unfold refs at h
  rw [List.getElem?_map] at h
  cases e : l[i]? with
  | none =>
    rw [e] at h
    cases h
  | some z =>
    rw [e] at h
    exact ⟨z, rfl, (Option.some.inj h).symm⟩
theorem dp_pair {K : PySem.W.Frag} {H : Hp} {a : Addr} {t b : Int} (h : H a = some (.tup [.int t, .int b])) : Dp K H (.ref a) (.tuple [.int t, .int b]) := .tup (SqT.of h) (.cons (.int _) (.cons (.int _) .nil))
theorem FrL.dps {K : PySem.W.Frag} {H : Hp} {n : Nat} : ∀ {l : List Fq}, FrL H n l → DpAll K H (refs l) (l.map dat)
  | [], _ => .nil
  | z :: r, h => .cons (dp_pair (h z List.mem_cons_self).at_) (FrL.dps fun y hy => h y (List.mem_cons_of_mem _ hy))
theorem dats_lay (l : List Fq) : PyData.canLayAll0 (l.map dat) = true ∧ PyData.depthAll (l.map dat) ≤ 1 := by
  induction l with
  | nil => exact ⟨rfl, by decide⟩
  | cons z r ih =>
    refine ⟨?_, ?_⟩
    · show (PyData.canLay0 (dat z) && PyData.canLayAll0 (r.map dat)) = true
      rw [ih.1]
      rfl
    · show max (PyData.depth (dat z)) (PyData.depthAll (r.map dat)) ≤ 1
      have e : PyData.depth (dat z) = 1 := rfl
      omega
theorem dats_shaped (l : List Fq) : SeqAt.shaped (.list (l.map dat)) = true := by
  obtain ⟨h1, h2⟩ := dats_lay l
  show (PyData.canLayAll0 (l.map dat) && decide (PyData.depthAll (l.map dat) + 1 ≤ 64)) = true
  rw [h1, decide_eq_true (by omega)] <;> rfl
theorem dats_nil (l : List Fq) : PyData.eqv (.list (l.map dat)) (.list []) = l.isEmpty := by
  cases l <;> rfl
theorem eqv_pair {a b c d : Int} : PyData.eqv (.tuple [.int a, .int b]) (.tuple [.int c, .int d]) = decide (a = c ∧ b = d) := by
  show ((a == c) && ((b == d) && true)) = decide (a = c ∧ b = d)
  rw [Bool.and_true, Bool.decide_and]
  rfl
/-! data of any make beside the box p -/
inductive Da (p : Addr) (H : Hp) : Nat → V → PyData → Prop
  | non (n : Nat) : Da p H (n + 1) .non .none
  | bl (n : Nat) (b : Bool) : Da p H (n + 1) (.bl b) (.bool b)
  | int (n : Nat) (i : Int) : Da p H (n + 1) (.int i) (.int i)
  | str (n : Nat) (x : Str) : Da p H (n + 1) (.str x) (.str x)
  | lst {n : Nat} {a : Addr} {xs : List V} {ds : List PyData} : a ≠ p → H a = some (.lst xs) → xs.length = ds.length → xs.length ≤ 100000 → (∀ (i : Nat) (x : V) (d : PyData), xs[i]? = some x → ds[i]? = some d → Da p H n x d) → Da p H (n + 1) (.ref a) (.list ds)
  | tup {n : Nat} {a : Addr} {xs : List V} {ds : List PyData} : a ≠ p → H a = some (.tup xs) → xs.length = ds.length → xs.length ≤ 100000 → (∀ (i : Nat) (x : V) (d : PyData), xs[i]? = some x → ds[i]? = some d → Da p H n x d) → Da p H (n + 1) (.ref a) (.tuple ds)
theorem Da.fr {p : Addr} {H H' : Hp} (s : Fr p H H') : ∀ {n : Nat} {v : V} {d : PyData}, Da p H n v d → Da p H' n v d := by
  intro n v d h
  induction h with
  | non n => exact .non n
  | bl n b => exact .bl n b
  | int n i => exact .int n i
  | str n x => exact .str n x
  | lst h0 h1 h2 h3 _ ih => exact .lst h0 (s _ _ h0 h1) h2 h3 ih
  | tup h0 h1 h2 h3 _ ih => exact .tup h0 (s _ _ h0 h1) h2 h3 ih
theorem Da.up {p : Addr} {H : Hp} {n m : Nat} {v : V} {d : PyData} (h : Da p H n v d) : n ≤ m → Da p H m v d := by
  intro le
  induction h generalizing m with
  | non n => obtain ⟨k, rfl⟩ : ∃ k, m = k + 1 := ⟨m - 1, by omega⟩; exact .non k
  | bl n b => obtain ⟨k, rfl⟩ : ∃ k, m = k + 1 := ⟨m - 1, by omega⟩; exact .bl k b
  | int n i => obtain ⟨k, rfl⟩ : ∃ k, m = k + 1 := ⟨m - 1, by omega⟩; exact .int k i
  | str n x => obtain ⟨k, rfl⟩ : ∃ k, m = k + 1 := ⟨m - 1, by omega⟩; exact .str k x
  | lst h0 h1 h2 h3 _ ih => obtain ⟨k, rfl⟩ : ∃ k, m = k + 1 := ⟨m - 1, by omega⟩; exact .lst h0 h1 h2 h3 fun i x d a b => ih i x d a b (by omega)
  | tup h0 h1 h2 h3 _ ih => obtain ⟨k, rfl⟩ : ∃ k, m = k + 1 := ⟨m - 1, by omega⟩; exact .tup h0 h1 h2 h3 fun i x d a b => ih i x d a b (by omega)
/-- each of a row is such data -/
def AllDa (p : Addr) (H : Hp) (n : Nat) (xs : List V) : Prop := ∀ x ∈ xs, ∃ d, Da p H n x d
theorem AllDa.fr {p : Addr} {H H' : Hp} {n : Nat} {xs : List V} (h : AllDa p H n xs) (s : Fr p H H') : AllDa p H' n xs := fun x hx => (h x hx).elim fun d q => ⟨d, q.fr s⟩
theorem AllDa.up {p : Addr} {H : Hp} {n m : Nat} {xs : List V} (h : AllDa p H n xs) (le : n ≤ m) : AllDa p H m xs := fun x hx => (h x hx).elim fun d q => ⟨d, q.up le⟩
theorem AllDa.nil {p : Addr} {H : Hp} {n : Nat} : AllDa p H n [] := fun x hx => absurd hx List.not_mem_nil
theorem AllDa.cons {p : Addr} {H : Hp} {n : Nat} {x : V} {xs : List V} (h : ∃ d, Da p H n x d) (t : AllDa p H n xs) : AllDa p H n (x :: xs) := fun y hy => by
  rcases List.mem_cons.mp hy with e | e
  · rw [e]
    exact h
  · exact t y e
theorem AllDa.append {p : Addr} {H : Hp} {n : Nat} {xs ys : List V} (h : AllDa p H n xs) (t : AllDa p H n ys) : AllDa p H n (xs ++ ys) := fun y hy => by
  rcases List.mem_append.mp hy with e | e
  · exact h y e
  · exact t y e
/-- what the datas of a row are -/
theorem AllDa.pick {p : Addr} {H : Hp} {n : Nat} : ∀ {xs : List V}, AllDa p H n xs → ∃ ds : List PyData, xs.length = ds.length ∧ ∀ (i : Nat) (x : V) (d : PyData), xs[i]? = some x → ds[i]? = some d → Da p H n x d
  | [], _ => ⟨[], rfl, fun i x d h => by simp at h⟩
  | x :: xs, h => by
    obtain ⟨d, q⟩ := h x List.mem_cons_self
    obtain ⟨ds, e, r⟩ := AllDa.pick (xs := xs) fun y hy => h y (List.mem_cons_of_mem _ hy)
    refine ⟨d :: ds, by rw [List.length_cons, List.length_cons, e], fun i y c h1 h2 => ?_⟩
    match i, h1, h2 with
    | 0, h1, h2 => cases h1; cases h2; exact q
    | i + 1, h1, h2 => exact r i y c h1 h2
theorem AllDa.tup {p : Addr} {H : Hp} {n : Nat} {xs : List V} {a : Addr} (h : AllDa p H n xs) (ne : a ≠ p) (e : H a = some (.tup xs)) (z : Nat.ble xs.length 100000 = true := by rfl) : ∃ d, Da p H (n + 1) (.ref a) d := by
  obtain ⟨ds, l, r⟩ := h.pick
  exact ⟨_, .tup ne e l (Nat.le_of_ble_eq_true z) r⟩
theorem AllDa.lst {p : Addr} {H : Hp} {n : Nat} {xs : List V} {a : Addr} (h : AllDa p H n xs) (ne : a ≠ p) (e : H a = some (.lst xs)) (z : Nat.ble xs.length 100000 = true := by rfl) : ∃ d, Da p H (n + 1) (.ref a) d := by
  obtain ⟨ds, l, r⟩ := h.pick
  exact ⟨_, .lst ne e l (Nat.le_of_ble_eq_true z) r⟩
theorem daI {p : Addr} {H : Hp} {n : Nat} (i : Int) : ∃ d, Da p H (n + 1) (.int i) d := ⟨_, .int n i⟩
theorem daB {p : Addr} {H : Hp} {n : Nat} (b : Bool) : ∃ d, Da p H (n + 1) (.bl b) d := ⟨_, .bl n b⟩
theorem daS {p : Addr} {H : Hp} {n : Nat} (x : Str) : ∃ d, Da p H (n + 1) (.str x) d := ⟨_, .str n x⟩
theorem daN {p : Addr} {H : Hp} {n : Nat} : ∃ d, Da p H (n + 1) .non d := ⟨_, .non n⟩
theorem AllDa.one {p : Addr} {H : Hp} {n m : Nat} {x : V} (h : ∃ d, Da p H n x d) (le : n ≤ m) : AllDa p H m [x] := .cons (h.elim fun d q => ⟨d, q.up le⟩) .nil
theorem AllDa.two {p : Addr} {H : Hp} {n : Nat} {x y : V} (h : ∃ d, Da p H n x d) (k : ∃ d, Da p H n y d) : AllDa p H n [x, y] := .cons h (.cons k .nil)
theorem da_fr {p : Addr} {H H' : Hp} {n : Nat} {v : V} (h : ∃ d, Da p H n v d) (s : Fr p H H') : ∃ d, Da p H' n v d := h.elim fun d q => ⟨d, q.fr s⟩
theorem da_up {p : Addr} {H : Hp} {n m : Nat} {v : V} (h : ∃ d, Da p H n v d) (le : n ≤ m) : ∃ d, Da p H m v d := h.elim fun d q => ⟨d, q.up le⟩
theorem BoxAt.new {H : Hp} {p a : Addr} {n : Nat} (h : BoxAt H p n) (e : H a = none) : a ≠ p := by
  obtain ⟨o, ho⟩ := h.some
  exact (ne_of_none ho e).symm
/-- an item at a place that is there -/
theorem at_some {xs : List V} {z : Int} (h0 : 0 ≤ z) (h1 : z < (xs.length : Int)) : ∃ v, atI xs z = some v ∧ v ∈ xs := by
  have g : xs[z.toNat]? = some xs[z.toNat] := List.getElem?_eq_getElem (by omega)
  exact ⟨_, at_of (j := z.toNat) (by omega) g, List.getElem_mem _⟩
/-- which kinds of built-in classes a data is of -/
def isTupD : PyData → Bool
  | .tuple _ => true
  | _ => false
def isIntD : PyData → Bool
  | .int _ => true
  | .bool _ => true
  | _ => false
def isBoolD : PyData → Bool
  | .bool _ => true
  | _ => false
def isListD : PyData → Bool
  | .list _ => true
  | _ => false
def isStrD : PyData → Bool
  | .str _ => true
  | _ => false
structure Kinds (K : PySem.W.Frag) (H : Hp) (v : V) (d : PyData) (t : String) : Prop where
  ty : TyX K H v (.type t)
  tup : kitB t "tuple" = some (isTupD d)
  lst : kitB t "list" = some (isListD d)
  int : kitB t "int" = some (isIntD d)
  bool : kitB t "bool" = some (isBoolD d)
  str : kitB t "str" = some (isStrD d)
theorem Da.kinds {K : PySem.W.Frag} {p : Addr} {H : Hp} {n : Nat} {v : V} {d : PyData} (h : Da p H n v d) : ∃ t, Kinds K H v d t := by
  cases h with
  | non => exact ⟨"NoneType", .base .non, by decide +kernel, by decide +kernel, by decide +kernel, by decide +kernel, by decide +kernel⟩
  | bl _ b => exact ⟨"bool", .base (.bl b), by show _ = some false; decide +kernel, by show _ = some false; decide +kernel, by show _ = some true; decide +kernel, by show _ = some true; decide +kernel, by show _ = some false; decide +kernel⟩
  | int _ i => exact ⟨"int", .base (.int i), by show _ = some false; decide +kernel, by show _ = some false; decide +kernel, by show _ = some true; decide +kernel, by show _ = some false; decide +kernel, by show _ = some false; decide +kernel⟩
  | str _ x => exact ⟨"str", .base (.str x), by show _ = some false; decide +kernel, by show _ = some false; decide +kernel, by show _ = some false; decide +kernel, by show _ = some false; decide +kernel, by show _ = some true; decide +kernel⟩
  | lst _ a1 => exact ⟨"list", .base (.lst a1), by show _ = some false; decide +kernel, by show _ = some true; decide +kernel, by show _ = some false; decide +kernel, by show _ = some false; decide +kernel, by show _ = some false; decide +kernel⟩
  | tup _ a1 => exact ⟨"tuple", .base (.tup a1), by show _ = some true; decide +kernel, by show _ = some false; decide +kernel, by show _ = some false; decide +kernel, by show _ = some false; decide +kernel, by show _ = some false; decide +kernel⟩
/-- repr of a truth -/
theorem cr_reprB {X : Cx} : CallR X (.builtin "repr") (fun xs H Q => ∃ b : Bool, xs = [.bl b] ∧ Q (.str (if b = true then "True" else "False")) H) := by
  intro pins s σ H xs us Q I r h
  obtain ⟨b, rfl, q⟩ := h
  cases r with
  | cons r1 r2 =>
    cases r2
    cases r1
    exact PySem.P.repr_of_bool ⟨.str _, H, I.tok _, ⟨_, rfl⟩, q⟩
/-- xs + ys, a new list -/
def rCatI : R2 := fun x y H Q => ∃ l b xs zs, x = .ref l ∧ y = .ref b ∧ H l = some (.lst xs) ∧ H b = some (.lst zs) ∧ xs.length + zs.length ≤ sizeLine ∧ ∀ p H', Same H H' → H p = none → H' p = some (.lst (xs ++ zs)) → Q (.ref p) H'
theorem op_catI {X : Cx} : OpR X (binaryOp .Add) rCatI := fun pins s σ H x y v u Q I rx ry ⟨l, b, xs, zs, e1, e2, h1, h2, z, k⟩ =>
  op_cat pins s σ H x y v u Q I rx ry ⟨l, b, xs, zs, e1, e2, h1, h2, z, fun p hp => k p _ (same_new hp) hp upd_same⟩
/-- a number; a fraction -/
def isNumD (d : PyData) : Bool := isIntD d && !isBoolD d
def isFracD : PyData → Bool
  | .tuple [.int t, .int b] => decide (0 < b) && decide (Nat.gcd t.natAbs b.natAbs = 1)
  | _ => false
theorem frac_no {d e : PyData} (h : isNumD d = false ∨ isNumD e = false) : isFracD (.tuple [d, e]) = false := by
  cases d <;> cases e <;> first | rfl | (rcases h with h | h <;> cases h)
theorem frac_len {ds : List PyData} (h : ds.length ≠ 2) : isFracD (.tuple ds) = false := by
  match ds, h with
  | [], _ => rfl
  | [d], _ => cases d <;> rfl
  | [_, _], h => exact absurd rfl h
  | d :: e :: _ :: _, _ => cases d <;> cases e <;> rfl
theorem num_int {p : Addr} {H : Hp} {n : Nat} {v : V} {d : PyData} (h : Da p H n v d) (k : isNumD d = true) : ∃ i, d = .int i ∧ v = .int i := by
  cases h with
  | int _ i => exact ⟨i, rfl, rfl⟩
  | non => cases k
  | bl => cases k
  | str => cases k
  | lst => cases k
  | tup => cases k
/-- rows of truths as data -/
theorem dps_bools {K : PySem.W.Frag} {H : Hp} : ∀ bs : List Bool, DpAll K H (bs.map V.bl) (bs.map PyData.bool)
  | [] => .nil
  | b :: r => .cons (.bl b) (dps_bools r)
theorem bools_shaped (bs : List Bool) : SeqAt.shaped (.list (bs.map PyData.bool)) = true := by
  have h : PyData.canLayAll0 (bs.map PyData.bool) = true ∧ PyData.depthAll (bs.map PyData.bool) = 0 := by
    induction bs with
    | nil => exact ⟨rfl, rfl⟩
    | cons b r ih =>
      refine ⟨?_, ?_⟩
      · show (PyData.canLay0 (.bool b) && PyData.canLayAll0 (r.map PyData.bool)) = true
        rw [ih.1] <;> rfl
      · show max (PyData.depth (.bool b)) (PyData.depthAll (r.map PyData.bool)) = 0
        rw [ih.2] <;> rfl
  show (PyData.canLayAll0 (bs.map PyData.bool) && decide (PyData.depthAll (bs.map PyData.bool) + 1 ≤ 64)) = true
  rw [h.1, h.2] <;> rfl
theorem take_one {α : Type} {l : List α} {i : Nat} {x : α} (h : l[i]? = some x) : l.take (i + 1) = l.take i ++ [x] := by
  rw [List.take_add_one, h] <;> rfl
end KR
/-! ### texts -/
namespace KR
open PySem PySem.Spec PyProof.Rows L2
theorem strs_of : ∀ {ys : List Str} {us : List Value}, Vals (ys.map V.str) us → StrsAre us ys
  | [], _, .nil => .nil
  | y :: r, _, .cons h t => by
    obtain ⟨k, rfl⟩ := h
    exact .cons y k (strs_of t)
section
variable {X : Cx} {K : PySem.W.Frag}
/-- sep.join(it), it a list walked from its end -/
theorem join_rev {prog : Program} {w : World} {A : Around} {E : Value → Shared → Prop} {s : Shared} {x : Str} {t : Tok} {it l : Addr} {items : Array Value} {ys : List Str} {Q : Value → Shared → Prop} (hh : A.handled = none)
    (hit : s.heap.IsRevIter it l ((items.size : Int) - 1)) (hl : s.heap.IsList l items) (hne : l ≠ it) (hn : items.size ≤ sizeLine)
    (hP : ∀ acc : Array Value, ItemsOf (fun i v => items[items.size - 1 - i]? = some v) acc items.size → StrsAre acc.toList ys) (hok : (ys.map (·.length)).sum + ys.length * x.length ≤ 16777216)
    (hq : ∀ (h' : Heap) (t' k : Nat), (∀ b o, b ≠ it → s.heap.get? b = some o → h'.get? b = some o) → Q (.str (Txt.join x ys) t') { s with heap := h', toks := k }) :
    wpAny (model prog w) A (call (.builtin "str.join") [.str x t, .ref it]) Q E s := by
  apply wpAny_call
  refine codeAny_call_builtin F.slot_str_join.plain F.entry_str_join (F.slot_str_join.check _ _ _ _ _ _ _ _ (typeIs_str _ _ _) (F.args_str_join_2 _ _) ?_)
  rw [join_tree_other]
  refine wpAny_bind (wpAny_typeOf hit.typeIs ?_)
  show wpAny _ A.in1 ((pyIter (.ref it)).tryCatch _ >>= fun j => collect j >>= fun vs => joinTail x vs) _ _ s
  refine wpAny_bind (wpAny_tryCatch (wpAny_pyIter_revIter hit (wpAny_bind (RT.collect_rev (A := A.in1) hh hit hl hne hn fun h' tk acc hk hacc => ?_))))
  obtain ⟨ps, e1, e2⟩ := strsAre_values (hP acc hacc)
  subst e2
  rw [e1]
  have fits := joinOk_of hok
  unfold JoinOk at fits
  rw [Bool.not_eq_true'] at fits
  have g : Gives (joinTail x (strValues ps)) (joinMade x ps) := by
    have g0 := gives_joinTail x ps fits
    rcases ps with _ | ⟨a, _ | ⟨b, r⟩⟩ <;> exact g0
  exact g prog w A (wants Q E) { s with heap := h', toks := tk } (post_join ps ⟨joinFit_length fits, fun t' k => hq h' t' k hk⟩)
/-- sep.join(reversed(xs)), xs a list of texts -/
def tJoinRev (K : PySem.W.Frag) (to te : TE) : TE := fun σ H Q => to σ H fun x H1 => (∃ a, x = .str a) ∧ te σ H1 fun v H2 => ∃ (a : Str) (q : Addr) (ys : List Str), x = .str a ∧ v = .ref q ∧ SqL K H2 q (ys.map V.str) ∧ (ys.map (·.length)).sum + ys.length * a.length ≤ 16777216 ∧ Q (.str (Txt.join a ys.reverse)) H2
theorem sum_rev (l : List Nat) : l.reverse.sum = l.sum := by
  induction l with
  | nil => rfl
  | cons a r ih =>
    rw [List.reverse_cons, List.sum_append, ih, List.sum_cons, List.sum_cons, List.sum_nil]
    omega
theorem pe_joinRev {o e : Expr} {to te : TE} {apos pos p pos2 : Pos} (hK : X.K = K) (hc : X.calm = true) (hg : Gl X "reversed") (hm : X.mg "reversed" = none) (ho : PE X o to) (he : PE X e te)
    (hs1 : starEach [.Call (.Name "reversed" p) [e] [] pos2] X.env = [(false, eval (.Call (.Name "reversed" p) [e] [] pos2) X.env)] := by rfl) (hs : starEach [e] X.env = (false, eval e X.env) :: starEach [] X.env := by rfl)
    (hbase : attributeBase o "join" X.env (eval o X.env) = eval o X.env := by rfl) (hline : (apos.endLine == pos.line) = true := by rfl) :
    PE X (.Call (.Attribute o "join" apos) [.Call (.Name "reversed" p) [e] [] pos2] [] pos) (tJoinRev K to te) := by
  subst hK
  constructor
  intro pins s σ H Q I want
  refine PySem.Call_method1 hbase hs1 hline (thn (ho.run pins s σ H _ I want) ?_)
  rintro v s1 ⟨x, H1, I1, r1, ⟨a, rfl⟩, q1⟩
  obtain ⟨t, rfl⟩ : ∃ t, v = Value.str a t := r1
  refine ⟨"str", "str.join", F.plainAttrs_str, F.slot_str_join, F.type_str_join, typeIs_str _ _ _, nofun, Calls.callWith_builtin rfl (Calls.evalArgs_plain (Calls.spliced_cons ?_))⟩
  refine Call_ (ld_blt I1 hg hm PyProof.Rows.boot_reversed (PyProof.Rows.callWith_type1 (args_cons (thn (he.run pins s1 σ H1 _ I1 q1) ?_) hs) hs rfl))
  rintro u s2 ⟨y, H2, I2, r2, a', q, ys, ea, rfl, hq, hz, k⟩
  cases ea
  cases r2
  obtain ⟨its, rv, pl, hsz⟩ := I2.list hq
  refine args_nil (call_reversed_list pl.isList (Calls.spliced_nil ?_))
  have old : ∀ b o, s2.heap.get? b = some o → (s2.heap.push (revObj q ((its.toArray.size : Int) - 1))).get? b = some o := fun b o g => Heap.get?_push_of_some _ g
  obtain ⟨oq, hoq, _⟩ := id pl.isList
  have neq : q ≠ s2.heap.objs.size := Nat.ne_of_lt (Heap.lt_size hoq)
  have len : its.toArray.size ≤ sizeLine := by rw [List.size_toArray, ← rv.length]; exact hsz
  refine join_rev (s := { s2 with heap := s2.heap.push (revObj q ((its.toArray.size : Int) - 1)) }) (ys := ys.reverse) (I2.ok.hd hc) ⟨_, Heap.get?_push_size _ rfl, rfl, rfl⟩ (pl.isList.push _) neq len (fun acc hacc => strs_of ?_) ?_ fun h' t' k' keep => ?_
  · rw [List.map_reverse]
    exact RT.vals_rev rv hacc
  · rw [List.map_reverse, sum_rev, List.length_reverse]
    exact hz
  · exact ⟨.str _, H2, I2.kept (t' := k') (fun b o g => keep b o (Nat.ne_of_lt (Heap.lt_size g)) (old b o g)), ⟨t', rfl⟩, k⟩
end
/-! texts as rows of codes -/
abbrev S (l : List Nat) : Str := ⟨l.toArray⟩
theorem tl_S (l : List Nat) : TL.tl (S l) = l := rfl
theorem S_tl (x : Str) : S (TL.tl x) = x := TL.mk_tl x
theorem S_len (l : List Nat) : (S l).length = l.length := by rw [TL.len_tl]
theorem S_app (l m : List Nat) : S l ++ S m = S (l ++ m) := TL.ext_tl (by rw [TL.tl_append])
theorem S_inj {l m : List Nat} (h : S l = S m) : l = m := congrArg TL.tl h
theorem lit_minus : ("-" : Str) = S [45] := by decide +kernel
theorem lit_stroke : ("/" : Str) = S [47] := by decide +kernel
theorem lit_one : ("1" : Str) = S [49] := by decide +kernel
theorem lit_zero : ("0" : Str) = S [48] := by decide +kernel
theorem lit_none : ("" : Str) = S [] := by decide +kernel
theorem lit_empty : Str.empty = S [] := by decide +kernel
theorem lit_digits : ("0123456789" : Str) = S [48, 49, 50, 51, 52, 53, 54, 55, 56, 57] := by decide +kernel
theorem num_S (n : Nat) : Str.ofString (toString ((n : Nat) : Int)) = S (TL.numL n) := TL.ext_tl (TL.tl_num n)
theorem numL_cut (n : Nat) : TL.numL n = (if n / 10 = 0 then [] else TL.numL (n / 10)) ++ [48 + n % 10] := by
  by_cases h : n < 10
  · rw [TL.numL_lt h, if_pos (by omega), show n % 10 = n by omega] <;> rfl
  · rw [TL.numL_step (by omega), if_neg (by omega)]
theorem dig_at {k : Int} (h0 : 0 ≤ k) (h1 : k < 10) : atI ("0123456789" : Str).cps.toList k = some (48 + k.toNat) := by
  rw [lit_digits]
  have ks : k = 0 ∨ k = 1 ∨ k = 2 ∨ k = 3 ∨ k = 4 ∨ k = 5 ∨ k = 6 ∨ k = 7 ∨ k = 8 ∨ k = 9 := by omega
  rcases ks with e | e | e | e | e | e | e | e | e | e <;> subst e <;> rfl
theorem lit_len : ("0123456789" : Str).length ≤ sizeLine := by decide +kernel
/-- text times a number from 0 -/
theorem op_mul_str {X : Cx} : OpR X (binaryOp .Mult) (fun x y H Q => ∃ (a : Str) (n : Nat), x = .str a ∧ y = .int (n : Int) ∧ a.length * n ≤ 100000 ∧ n ≤ 100000 ∧ Q (.str (Txt.mul a n)) H) := by
  intro pins s σ H x y v u Q I rx ry h
  obtain ⟨a, n, rfl, rfl, hz, hn, q⟩ := h
  obtain ⟨t, rfl⟩ := rx
  obtain ⟨t', rfl⟩ := ry
  refine SB.mul ⟨?_, fun h1 h2 => ?_, fun h1 h2 => ?_⟩ fun t2 k => ⟨.str _, H, I.tok _, ⟨_, rfl⟩, q⟩
  · rw [decide_eq_false (by omega), decide_eq_false (by omega)] <;> rfl
  · have n1 : (1 : Int) ≤ (n : Int) := by omega
    intro bad
    have b2 : ((2 ^ 63 - 1 : Int)) / (n : Int) ≥ (2 ^ 63 - 1 : Int) / 100000 := by
      refine Int.le_ediv_of_mul_le (by omega) ?_
      have e : (2 ^ 63 - 1 : Int) / 100000 * (n : Int) ≤ (2 ^ 63 - 1 : Int) / 100000 * 100000 := Int.mul_le_mul_of_nonneg_left (by omega) (by decide)
      exact Int.le_trans e (by decide)
    have a9 : a.length ≤ 100000 := by
      have : a.length * 1 ≤ a.length * n := Nat.mul_le_mul_left _ (by omega)
      omega
    have e3 : (2 ^ 63 - 1 : Int) / 100000 = 92233720368547 := by decide
    omega
  · rw [Int.toNat_natCast]
    exact decide_eq_false (by have := small hz; omega)
theorem mul_zero (a : Str) : Txt.mul a ((0 : Nat) : Int) = S [] := by
  unfold Txt.mul
  rw [if_pos (by decide), lit_empty]
theorem mul_one (a : Str) : Txt.mul a ((1 : Nat) : Int) = a := by
  unfold Txt.mul
  rw [if_neg (by decide), if_pos (by rfl)]
/-- a minus ahead, cut off -/
theorem sub_minus (l : List Nat) : Builtin.Str.subAt (S l) (S [45]) 0 = (l.head? == some 45) := by
  unfold Builtin.Str.subAt
  rcases l with _ | ⟨c, r⟩
  · rfl
  · have e : ((S (c :: r)).cps.extract 0 (0 + (S [45]).length)) = #[c] := by
      apply Array.toList_inj.mp
      rw [Array.toList_extract]
      rfl
    rw [e]
    show (#[c] == #[45]) = (some c == some 45)
    by_cases h : c = 45
    · subst h
      rfl
    · have e2 : (some c == some 45) = false := by
        rw [beq_eq_false_iff_ne]
        exact fun z => h (Option.some.inj z)
      rw [e2, beq_eq_false_iff_ne]
      intro z
      exact h (by have := congrArg (fun a => a[0]?) z; simpa using this)
theorem prefix_minus (l : List Nat) : Txt.removeprefix (S l) (S [45]) = S (if l.head? = some 45 then l.tail else l) := by
  unfold Txt.removeprefix
  rw [sub_minus]
  by_cases h : l.head? = some 45
  · rw [if_pos h, if_pos (by rw [h] <;> rfl)]
    rcases l with _ | ⟨c, r⟩
    · cases h
    · show (if ((S (c :: r)).length - (S [45]).length == (S (c :: r)).length) = true then S (c :: r) else Builtin.Str.strSub (S (c :: r)) (S [45]).length (S (c :: r)).length) = S r
      have e1 : (S (c :: r)).length = r.length + 1 := by rw [S_len] <;> rfl
      have e2 : (S [45]).length = 1 := rfl
      rw [if_neg (by rw [e1, e2, beq_iff_eq]; omega)]
      apply TL.ext_tl
      show ((S (c :: r)).cps.extract (S [45]).length (S (c :: r)).length).toList = r
      rw [Array.toList_extract, e1, e2]
      show List.take (r.length + 1 - 1) (List.drop 1 (c :: r)) = r
      rw [Nat.add_sub_cancel]
      exact List.take_length
  · rw [if_neg h, if_neg (by rw [beq_iff_eq]; exact h)]
    rfl
theorem starts_minus (l : List Nat) : Txt.startswith (S l) (S [45]) = (l.head? == some 45) := by
  unfold Txt.startswith
  rw [sub_minus]
  rcases l with _ | ⟨c, r⟩
  · rfl
  · rw [decide_eq_true (show 0 + (S [45]).length ≤ (S (c :: r)).length by rw [S_len, S_len]; show 0 + 1 ≤ r.length + 1; omega), Bool.true_and]
/-- one to so many figures -/
def figs (l : List Nat) : Bool := !l.isEmpty && l.all fun c => decide (48 ≤ c) && decide (c ≤ 57)
theorem ascii_S (l : List Nat) : Txt.isascii (S l) = l.all (· < 128) := by
  unfold Txt.isascii
  rw [← Array.all_toList]
theorem dig_code : ∀ c, c < 128 → Unicode.isDigit c = (decide (48 ≤ c) && decide (c ≤ 57)) := by decide +kernel
theorem digit_S {l : List Nat} (h : l.all (· < 128) = true) : Txt.isdigit (S l) = figs l := by
  unfold Txt.isdigit figs
  rw [← Array.all_toList, S_len]
  have e1 : decide (l.length > 0) = !l.isEmpty := by
    cases l <;> rfl
  have e2 : l.all Unicode.isDigit = l.all fun c => decide (48 ≤ c) && decide (c ≤ 57) := by
    rw [List.all_eq_true] at h
    clear e1
    induction l with
    | nil => rfl
    | cons c r ih =>
      rw [List.all_cons, List.all_cons, ih fun x hx => h x (List.mem_cons_of_mem _ hx), dig_code c (of_decide_eq_true (h c List.mem_cons_self))]
  rw [e1]
  exact congrArg _ e2
theorem figs_ascii {l : List Nat} (h : figs l = true) : l.all (· < 128) = true := by
  unfold figs at h
  rw [Bool.and_eq_true] at h
  have h3 := List.all_eq_true.mp h.2
  rw [List.all_eq_true]
  intro c hc
  have := h3 c hc
  rw [Bool.and_eq_true] at this
  have h2 := of_decide_eq_true this.2
  exact decide_eq_true (by omega)
theorem figs_num (n : Nat) : figs (TL.numL n) = true := by
  unfold figs
  rw [Bool.and_eq_true]
  refine ⟨?_, ?_⟩
  · have := TL.numL_ne n
    cases e : TL.numL n with
    | nil => exact absurd e this
    | cons _ _ => rfl
  · rw [List.all_eq_true]
    intro c hc
    have := TL.numL_digits n c hc
    rw [decide_eq_true this.1, decide_eq_true this.2] <;> rfl
theorem figs_int {l : List Nat} (h : figs l = true) (z : l.length ≤ 600) : PySem.intText? (S l) = some ((NumText.digitsVal l : Nat) : Int) := by
  unfold figs at h
  rw [Bool.and_eq_true] at h
  have d : NumText.AllDigits l := fun c hc => by
    have := List.all_eq_true.mp h.2 c hc
    rw [Bool.and_eq_true] at this
    exact ⟨of_decide_eq_true this.1, of_decide_eq_true this.2⟩
  have ne : l ≠ [] := by
    intro e
    rw [e] at h
    exact Bool.noConfusion h.1
  exact PySem.intText_digits (x := S l) d ne (by rw [S_len]; omega)
/-- a fraction's text -/
def fracL (t b : Int) : List Nat := (if t < 0 then [45] else []) ++ (TL.numL t.natAbs ++ (if b = 1 then [] else 47 :: TL.numL b.natAbs))
/-- ahead of the first stroke, whether there is one, behind it -/
def cutL : List Nat → List Nat × Bool × List Nat
  | [] => ([], false, [])
  | c :: r => if c = 47 then ([], true, r) else (c :: (cutL r).1, (cutL r).2)
theorem cut_app {a b : List Nat} (h : 47 ∉ a) : cutL (a ++ 47 :: b) = (a, true, b) := by
  induction a with
  | nil => rfl
  | cons c r ih =>
    have hc : c ≠ 47 := fun e => h (by rw [e]; exact List.mem_cons_self)
    have ih' := ih fun m => h (List.mem_cons_of_mem _ m)
    show (if c = 47 then _ else (c :: (cutL (r ++ 47 :: b)).1, (cutL (r ++ 47 :: b)).2)) = _
    rw [if_neg hc, ih']
theorem cut_none {a : List Nat} (h : 47 ∉ a) : cutL a = (a, false, []) := by
  induction a with
  | nil => rfl
  | cons c r ih =>
    have hc : c ≠ 47 := fun e => h (by rw [e]; exact List.mem_cons_self)
    have ih' := ih fun m => h (List.mem_cons_of_mem _ m)
    show (if c = 47 then _ else (c :: (cutL r).1, (cutL r).2)) = _
    rw [if_neg hc, ih']
/-- either no stroke, or the first one -/
theorem cut_ways (l : List Nat) : (47 ∉ l ∧ cutL l = (l, false, [])) ∨ ∃ a b, l = a ++ 47 :: b ∧ 47 ∉ a ∧ cutL l = (a, true, b) := by
  by_cases h : 47 ∈ l
  · obtain ⟨a, b, e, n⟩ := List.eq_append_cons_of_mem h
    exact .inr ⟨a, b, e, n, by rw [e]; exact cut_app n⟩
  · exact .inl ⟨h, cut_none h⟩
end KR
/-! ### defs that ask repr: no repr is under way around them -/
namespace KR
open PySem PySem.Spec PyProof.Rows L2
section
variable {P : Program} {w : World} {K : PySem.W.Frag} {mg : Str → Option Value} {base : Heap}
structure FnG (P : Program) (w : World) (K : PySem.W.Frag) (mg : Str → Option Value) (base : Heap) (k : Nat) (f : Addr) (fd : FuncData) (ps : List Str) (sp : Sp) : Prop where
  many : ∀ vs H Q E, sp vs H Q E → vs.length = ps.length
  does : ∀ (A : Around) (outer : List Env) (s : Shared) (H : Hp) (args : Args) (us : List Value) (vs : List V) (Q : VK) (E : XK), Room k A → A.guards = some [] → Env0 P w K mg base A outer s H → BindsTo s fd args (ps.zip us) → Vals vs us →
    sp vs H Q E → codeAny (model P w) A (.call (.ref f) args) (CR CX0 outer P w H s Q E) s
/-- the end of a def's body is the end of its call -/
theorem body_end {N : List Str} {qual : Str} {sc : Scope} {f : Addr} {cdv : Value} {A : Around} {outer : List Env} {s s' : Shared} {H : Hp} {Q : VK} {E : XK} {fl : Flow}
    (h : SP (cxOf CX0 P w K mg base N qual sc f cdv A outer s H E) [] { nx := fun _ H' => Q .non H', rt := Q } fl s') : CR CX0 outer P w H s Q E (.ok (.ret (match fl with | .ret u => u | _ => .none))) s' ∧ (∀ u, fl = .ret u ∨ fl = .next ∨ fl = .brk ∨ fl = .cont → True) ∧ fl ≠ .brk ∧ fl ≠ .cont := by
  cases fl <;> simp only [SP] at h
  case next => obtain ⟨_, H', J, q⟩ := h; exact ⟨⟨V.non, H', J.os, J.bare, J.base, J.hok, rfl, q⟩, fun _ _ => trivial, nofun, nofun⟩
  case ret u => obtain ⟨v, _, H', J, rv, q⟩ := h; exact ⟨⟨v, H', J.os, J.bare, J.base, J.hok, rv, q⟩, fun _ _ => trivial, nofun, nofun⟩
  case brk => exact absurd h.choose_spec.choose_spec.2 id
  case cont => exact absurd h.choose_spec.choose_spec.2 id
theorem okG {x qual : Str} {st : Stmt} {f : Addr} {fd : FuncData} {N ps : List Str} {k : Nat} {sp : Sp} (F : Fun K x qual st f fd) (S : FnScope N ps (defScope st)) (many : ∀ vs H Q E, sp vs H Q E → vs.length = ps.length)
    (body : ∀ (cdv : Value) (A : Around) (outer : List Env) (s : Shared) (H : Hp) (vs : List V) (Q : VK) (E : XK), Room k (A.deeper (envOfC qual (defScope st) s.heap.objs.size f cdv)) → A.guards = some [] → sp vs H Q E →
      ∃ t, PSs (cxOf CX0 P w K mg base N qual (defScope st) f cdv A outer s H E).nox (defBody st) t ∧ t { nx := fun _ H' => Q .non H', rt := Q } (start N vs) H) : FnG P w K mg base (k + 1) f fd ps sp := by
  obtain ⟨_, _, _, _, _, _, cdv, _, _, rfl, lk, hcd⟩ := F.ex
  refine ⟨many, ?_⟩
  intro A outer s H args us vs Q E hr hg e0 hb rv hsp
  obtain ⟨t, ht, hq⟩ := body cdv A outer s H vs Q E (hr.deeper _) hg hsp
  have inK : K.In s.heap := e0.mod.kin.keeps fun b o q => (e0.bs b o q).1
  apply codeAny_call_function hr.depth (inK _ _ lk) rfl S.co S.gen rfl (PySem.W.codeRec_of inK hcd)
  refine hb _ _ _ _ (wpAny_newFunctionEnv_cells S.kind ?_ ?_)
  · rintro ⟨n, v⟩ hy
    exact (S.par n (List.of_mem_zip hy).1).imp id fun q => ⟨q, PySem.W.cellsFrom_some _ _ _ (Or.inl q)⟩
  · rintro env rfl s1 made
    refine ⟨(e0.mod.nolimit.keeps fun b o q => (e0.bs b o q).1).keeps made.toInCall.keep, codeAny_func ?_⟩
    have I := inv_start (CX := CX0) (E := E) S hr.hd e0 (many _ _ _ _ hsp) rv made
    refine wpAny_mono (ht.nox.run [] s1 (start N vs) H _ I hq) (fun fl s' hs => ?_) fun _ _ z => z
    obtain ⟨r, _, n1, n2⟩ := body_end hs
    cases fl with
    | next => exact r
    | ret u => exact r
    | brk => exact absurd rfl n1
    | cont => exact absurd rfl n2
end
section
variable {X : Cx} {k : Nat} {f : Addr} {fd : FuncData} {ps : List Str} {sp : Sp} {ds : List Value} {dvs : List V} {E : XK} {x : Str} {p pos : Pos} {e : Expr} {es : List Expr} {t : TA}
/-- a call of such a def, where no repr is under way -/
theorem pe_callG (F : FnG X.prog X.w X.K X.mg X.base k f fd ps sp) (room : Room k X.A) (calm : X.A.guards = some []) (glob : Gl X x) (at_ : X.mg x = some (.ref f)) (keep : PySem.W.keepIn X.K (.ref f) = true) (binds : Binds X.K fd ps ds) (dflt : Vals dvs ds) (pass : Passes CX0 X E)
    (args : PA X (e :: es) t) (nd : (x == ("__debug__" : Str)) = false := by decide) (he : starEach (e :: es) X.env = (false, eval e X.env) :: starEach es X.env := by rfl) (hpl : (backTo pos (starEach es X.env)).any (·.1) = false := by rfl) :
    PE X (.Call (.Name x p) (e :: es) [] pos) (tCall sp dvs E t) := by
  constructor
  intro pins s σ H Q I want
  refine wpAny_Call_Name_kw (ld_glob I glob at_ (PySem.W.callWith_K (h₀ := X.base) I.ok.mod.kin keep (thn (args.run pos pins s σ H _ I want) ?_) he hpl) nd)
  rintro us s1 ⟨vs, H1, I1, r, q⟩
  have many := F.many _ _ _ _ q
  have both : Vals (vs ++ dvs) (us ++ ds) := r.append dflt
  refine ⟨I1.kIn, wpAny_call (codeAny_mono (F.does X.A X.stack s1 H1 ⟨us, []⟩ _ _ Q E room calm I1.env0 (binds s1 us I1.kIn (both.length ▸ many)) both q) ?_)⟩
  intro r s' post
  match r, post with
  | .error e, post => exact pass pins σ H1 s1 e s' I1 post
  | .ok (.ret u), post => exact I1.after post
  | .ok .next, post => exact post.elim
  | .ok .brk, post => exact post.elim
  | .ok .cont, post => exact post.elim
end
/-- a def that asks no repr is one -/
theorem FnG.of {P : Program} {w : World} {K : PySem.W.Frag} {mg : Str → Option Value} {base : Heap} {k : Nat} {f : Addr} {fd : FuncData} {ps : List Str} {sp : Sp} (F : FnOk P w K mg base CX0 k f fd ps sp) : FnG P w K mg base k f fd ps sp :=
  ⟨F.len, fun A outer s H args us vs Q E hr _ => F.run A outer s H args us vs Q E hr⟩
/-- repr of data that is no text -/
def rReprD (K : PySem.W.Frag) : List V → Hp → VK → Prop := fun xs H Q => ∃ (a : Addr) (d : PyData), xs = [.ref a] ∧ Dp K H (.ref a) d ∧ d.showable = true ∧ d.hasDict = false ∧ d.depth ≤ 60 ∧ d.shown.length ≤ sizeLine ∧ Q (.str d.shown) H
theorem cr_reprD {X : Cx} (hg : X.A.guards = some []) (hu : X.A.units + 64 < cLine) : CallR X (.builtin "repr") (rReprD X.K) := by
  intro pins s σ H xs us Q I r h
  obtain ⟨a, d, rfl, dp, sh, nd, dd, sz, q⟩ := h
  cases r with
  | cons r1 r2 =>
    cases r2
    cases r1
    obtain ⟨as, rd⟩ := Dp.reads I d _ _ dp rfl
    exact repr_of_reads' rd sh (PyData.noDict_hsm nd) hg (by omega) (fun _ _ e => e) (fun h' u tk hk => ⟨.str _, H, I.kept (fun b o e => hk b o e), ⟨_, rfl⟩, q⟩) sz
theorem cr_reprDK {X : Cx} {K : PySem.W.Frag} (h : X.K = K) (hg : X.A.guards = some []) (hu : X.A.units + 64 < cLine) : CallR X (.builtin "repr") (rReprD K) := h ▸ cr_reprD hg hu
section
variable {P : Program} {w : World} {K : PySem.W.Frag} {mg mb : Str → Option Value} {k : Nat} {fa a : Addr} {fd : FuncData} {x : Str} {sp : Sp} {s₁ : Shared} {vs : List Value} {ns : List Int}
/-- what is tracked when the law is called: the script, unless the module itself made it -/
def scr (K : PySem.W.Frag) (a : Addr) (ob : Obj) (ns : List Int) : Hp := fun b => if b = a ∧ K.lookup a = none then some (.frz ob (.lst (ns.map V.int))) else none
theorem scr_some {ob : Obj} {b : Addr} {u : HO} (h : scr K a ob ns b = some u) : b = a ∧ K.lookup a = none ∧ u = .frz ob (.lst (ns.map V.int)) := by
  unfold scr at h
  split at h
  · rename_i c
    exact ⟨c.1, c.2, (Option.some.inj h).symm⟩
  · cases h
theorem call_law (inK : K.In s₁.heap) (gl : s₁.heap.Ns mainGlobals mg) (bl : s₁.heap.Ns builtinsNs mb) (boot : ∀ x : Str, x ≠ "__name__" → mb x = bootBuiltins x) (lim : s₁.heap.NoLimit) (quiet : s₁.gens = #[])
    (there : s₁.heap.get? a = some { cls := .type "list", data := .seq vs.toArray }) (areInts : IntsAre vs ns) (len : ns.length ≤ sizeLine) (room : Room k callerA)
    (F : ∀ base : Heap, K.In base → base.Ns mainGlobals mg → FnG P w K mg base k fa fd [x] sp) (binds : ∀ (s : Shared) (u : Value), BindsTo s fd ⟨[u], []⟩ [(x, u)])
    (asked : ∀ H : Hp, Only H → SqL K H a (ns.map V.int) → sp [.ref a] H (fun v _ => v = .bl true) fun _ _ _ => False) :
    codeAny (model P w) callerA (.call (.ref fa) ⟨[.ref a], []⟩) (fun r s' => r = .ok (.ret (.bool true)) ∧ OldK s₁.heap s'.heap ∧ s'.os = s₁.os ∧ AllBare s'.gens) s₁ := by
  let ob : Obj := { cls := .type "list", data := .seq vs.toArray }
  let H := scr K a ob ns
  have at_ : ∀ {b u}, H b = some u → b = a ∧ K.lookup a = none ∧ u = .frz ob (.lst (ns.map V.int)) := scr_some
  have no : ∀ b o, s₁.heap.get? b = some o → (∀ q, o ≠ { cls := .type "list", data := .seq q }) → H b = none := fun b o e d => by
    cases c : H b with
    | none => rfl
    | some u =>
      obtain ⟨rfl, _⟩ := at_ c
      exact absurd (Option.some.inj (e.symm.trans there)) (d _)
  have keepNs : ∀ {b : Addr} {m : Str → Option Value}, s₁.heap.Ns b m → (hidT s₁.heap H).Ns b m := fun {b m} ⟨o, es, ep, e, d, r⟩ =>
    ⟨o, es, ep, hidT_get e (no b o e fun q z => by rw [z] at d; cases d), d, r⟩
  have keepK : K.In (hidT s₁.heap H) := fun b o e => hidT_get (inK b o e) (by
    cases c : H b with
    | none => rfl
    | some u =>
      obtain ⟨rfl, n, _⟩ := at_ c
      rw [n] at e
      cases e)
  have rel := vals_ints areInts
  have holds : HOk P w H s₁.heap := fun b u c => by
    obtain ⟨rfl, _, rfl⟩ := at_ c
    exact ⟨there, by rw [List.length_map]; exact len, vs, _, rel, there⟩
  have only : Only H := fun b => by
    cases c : H b with
    | none => exact Or.inl rfl
    | some u => exact Or.inr ⟨ob, _, by rw [(at_ c).2.2]⟩
  have script : SqL K H a (ns.map V.int) := by
    cases c : K.lookup a with
    | none => exact Or.inl (Or.inr ⟨ob, if_pos ⟨rfl, c⟩⟩)
    | some o =>
      have e := Option.some.inj ((inK a o c).symm.trans there)
      subst e
      exact Or.inr ⟨_, vs.toArray, _, c, rfl, rfl, rfl, by rw [List.size_toArray, areInts.length]; exact len, by simpa using rel⟩
  have modul : Mod K mg (hidT s₁.heap H) := ⟨keepK, keepNs gl, ⟨mb, keepNs bl, boot⟩, lim.elim fun mc z => ⟨mc, keepNs z.1, z.2⟩⟩
  have start0 : Env0 P w K mg (hidT s₁.heap H) callerA [] s₁ H := ⟨rfl, modul, fun b o e => of_hidT e, Nat.le_of_eq (hidT_size _ _), trivial, fun b hb => (List.not_mem_nil hb).elim, holds, .of_eq quiet⟩
  refine codeAny_mono ((F _ keepK (keepNs gl)).does callerA [] s₁ H _ [.ref a] [.ref a] _ _ room rfl start0 (binds s₁ (.ref a)) (.cons rfl .nil) (asked H only script)) ?_
  intro r s' post
  match r, post with
  | .error e, post => exact False.elim post
  | .ok .next, post => exact post.elim
  | .ok .brk, post => exact post.elim
  | .ok .cont, post => exact post.elim
  | .ok (.ret u), ⟨v, H', os, bare, un, held, rv, e⟩ =>
    cases (show v = V.bl true from e)
    cases (show u = Value.bool true from rv)
    refine ⟨rfl, OldK.of_keep fun b o g => ?_, os, bare⟩
    cases c : H b with
    | none => exact un.keep b o g c (fun z => (List.not_mem_nil z).elim) (fun z => (List.not_mem_nil z).elim)
    | some u =>
      obtain ⟨rfl, _, rfl⟩ := at_ c
      rw [Option.some.inj (g.symm.trans there)]
      exact (held b _ (un.frzs b ob _ c)).1
end
/-- the goal that is left of a law whose defs ask repr -/
theorem walk_ofG {l : PySem.W.OpenLaw} {n k : Nat} {q : Program} {loose : List Str} {XP : (Str → Option Value) → Heap → Prop} {YP : World → Heap → Prop} {d : DefRec} {K : Params → PySem.W.Frag} {sp : World → Sp} {x : Str}
    (most : l.most = some n) (n9 : n ≤ sizeLine) (nodf : d.params.defaults = []) (room : Room k callerA) (inK : ∀ (w : World) (h : Heap), YP w h → (K w.params).In h)
    (F : ∀ (w : World) (mg : Str → Option Value) (fa : Addr) (h : Heap), (K w.params).In h → h.Ns mainGlobals mg → mg d.name = some (.ref fa) →
      ∃ fd : FuncData, (∀ (s : Shared) (u : Value), BindsTo s fd ⟨[u], []⟩ [(x, u)]) ∧ ∀ base : Heap, (K w.params).In base → base.Ns mainGlobals mg → FnG l.prog w (K w.params) mg base k fa fd [x] (sp w))
    (asked : ∀ (w : World) (H : Hp) (a : Addr) (ns : List Int), ns.length ≤ n → Only H → SqL (K w.params) H a (ns.map V.int) → sp w [.ref a] H (fun v _ => v = .bl true) fun _ _ _ => False) :
    PySem.W.WalkO q loose XP YP l.row.toRowW d [] (fun f vs => PySem.call f vs) :=
  Att.attach_call most nodf fun w s₀ s₁ mg mb fa o pm cd doc a vs ns G Y ho hd hcd hmg hobj hints hlen hg => by
    obtain ⟨fd, b, f⟩ := F w mg fa _ (inK w _ Y) G.T.g hmg
    exact call_law (inK w _ Y) G.T.g G.T.b G.T.builtins G.T.nolimit hg hobj hints (Nat.le_trans hlen n9) room f b fun H only sc => asked w H a ns hlen only sc
end KR
/-! ### all(test for x in ..): the generator expression's own frame, its test read like a def's body -/
namespace KR
open PySem PySem.Spec PyProof.Rows L2
/-- the frame's scope: one name of its own, nothing captured -/
structure GnS (scope : Scope) (x : Str) : Prop where
  kind : scope.kind = .function
  co : scope.isCoroutine = false
  cell : ∀ y ∈ scope.names, y.2 ≠ .cell
  free : ∀ y ∈ scope.names, y.2 ≠ .free
  dot : scope.names.lookup (".0" : Str) = some NameKind.local
  loc : scope.names.lookup x = some .local
/-- the frame's environment, its around -/
abbrev gEnv (X : Cx) (scope : Scope) (C : Addr) (code : Value) : Env := genEnv scope [] C code builtinsNs X.env
abbrev gAr (X : Cx) (ge : Expr) (it : Addr) (env : Env) : Around := X.A.in1.in1.over (.compLoop ge 0 (.ref it) .none env) []
/-- the frame's context: it began at s, H; fp: what is walked -/
abbrev gCx (X : Cx) (ge : Expr) (it : Addr) (x : Str) (s : Shared) (H : Hp) (env : Env) (fp : List Addr) : Cx :=
  { prog := X.prog, w := X.w, K := X.K, mg := X.mg, base := X.base, A := gAr X ge it env, N := [x], s_0 := s, H_0 := H, env := env, outer := X.stack, stack := env :: X.stack, ex := fp, fn := fun _ => false, calm := true, pn := [], xe := fun _ _ => False }
section
variable {X : Cx} {pins : List (Addr × Obj)} {σ : L2.St} {H : Hp} {s : Shared}
theorem inv_gens {g' : Array GenState} (I : Inv X pins σ H s) (hg : AllBare g') : Inv X pins σ H { s with gens := g' } :=
  I.call (h' := s.heap) (g' := g') (t' := s.toks) (d' := s.drawn) (ch := []) Un.refl I.hok hg fun b z => absurd z List.not_mem_nil
theorem bare_set {a : Array GenState} {g : Nat} {x : GenState} (h : AllBare a) (hx : x.bare = true) : AllBare (a.setIfInBounds g x) := fun y hy => by
  rcases Array.mem_or_eq_of_mem_setIfInBounds hy with z | z
  · exact h y z
  · rw [z]
    exact hx
theorem inv_setGen {g : Nat} {x : GenState} (I : Inv X pins σ H s) (hx : x.bare = true) : Inv X pins σ H (s.setGen g x) := inv_gens I (bare_set I.bare hx)
theorem room_gen {k : Nat} (r : Room (k + 1) X.A) {elt : Expr} {cs : List Comprehension} {sc : Scope} {p : Pos} {it : Addr} {env : Env} : Room k (gAr X (.GeneratorExp elt cs sc p) it env) := by
  obtain ⟨h1, h2, h3⟩ := r
  refine ⟨h1, ?_, ?_⟩
  · show X.A.depth + 0 + 1 + 3 * k + 5 < recursionLimit
    omega
  · show X.A.units + 1 + 1 + 0 + 3 + 16 * k + 200 < cLine
    omega
theorem gen_ok {elt : Expr} {cs : List Comprehension} {sc : Scope} {gp : Pos} {it : Addr} {x : Str} {scope : Scope} {code : Value} {fp : List Addr} (I : Inv X pins σ H s) (S : GnS scope x) (hh : X.A.handled = none) (hfp : ∀ b ∈ fp, FpOk X pins H b ∧ b < s.heap.objs.size) :
    (gCx X (.GeneratorExp elt cs sc gp) it x s H (gEnv X scope s.heap.objs.size code) fp).Ok := by
  have kd : ∀ y k, scope.names.lookup y = some k → k ≠ .cell ∧ k ≠ .free := fun y k e => ⟨S.cell _ (PySem.mem_of_lookup e), S.free _ (PySem.mem_of_lookup e)⟩
  exact {
    mod := I.ok.mod, kind := S.kind, glob := I.ok.glob, blt := rfl, above := Nat.le_refl _
    inj := fun y z c e _ => (by cases e)
    has := fun y h => (by
      rcases h with h | h
      · exact absurd rfl (kd y _ h).1
      · exact absurd rfl (kd y _ h).2)
    cab := fun y c z _ => (by cases z)
    hd := fun _ => hh
    frames := (by
      show pushEnvs [gEnv X scope s.heap.objs.size code] (pushEnvs [] X.A.frames) = _
      rw [I.ok.frames] <;> rfl)
    stk := .inr ⟨rfl, rfl⟩
    exf := fun b hb => ⟨Nat.ne_of_lt (hfp b hb).2, fun y c e => (by cases e)⟩
    bs := I.bs, bsz := Nat.le_trans I.ok.bsz I.sz
    noex := fun b o e hb => (by
      obtain ⟨_, _, _, old | old, _⟩ := (hfp b hb).1
      · exact I.ok.noex b o e old
      · have z := Heap.lt_size e
        have z2 := I.ok.bsz
        exact Nat.lt_irrefl b (Nat.lt_of_lt_of_le z (Nat.le_trans z2 old)))
    exfs := fun b hb hf => (by
      obtain ⟨⟨_, n1, n2, _⟩, _⟩ := hfp b hb
      rcases List.mem_cons.mp (I.stkSub b hf) with e | e
      · exact n1 e
      · exact n2 e)
    funs := I.stack, frf := I.stkFree }
/-- the frame as it begins: its space at C, its generator behind it -/
theorem gen_inv {elt : Expr} {cs : List Comprehension} {sc : Scope} {gp : Pos} {it : Addr} {x : Str} {scope : Scope} {code : Value} {fp : List Addr} {h' : Heap} {G : Obj} {g' : Array GenState} {tk : Nat} {m : Str → Option Value} (I : Inv X pins σ H s) (S : GnS scope x) (hh : X.A.handled = none)
    (hfp : ∀ b ∈ fp, FpOk X pins H b ∧ b < s.heap.objs.size) (hn : h'.Ns s.heap.objs.size m) (hsz : h'.objs.size = s.heap.objs.size + 1) (kp : ∀ b o, s.heap.get? b = some o → h'.get? b = some o) (hg : AllBare g') (hG : ∀ v, G.data ≠ .cell v) (hF : G.isFreed = false) :
    Inv (gCx X (.GeneratorExp elt cs sc gp) it x s H (gEnv X scope s.heap.objs.size code) fp) [(h'.objs.size, G)] [none] H { s with heap := h'.push G, gens := g', toks := tk } := by
  have kp2 : ∀ b o, s.heap.get? b = some o → (h'.push G).get? b = some o := fun b o e => Heap.get?_push_of_some _ (kp b o e)
  have gt : s.heap.objs.size ≤ h'.objs.size := by omega
  exact {
    ok := gen_ok I S hh hfp, os := rfl, bare := hg, base := Un.kept kp2
    loc := ⟨m, hn.push _, fun i y v _ e _ => (by
      match i, e with
      | 0, e => cases e
      | j + 1, e => cases e)⟩
    cell := fun y c e => (by cases e)
    free := I.hok.fresh (Nat.le_refl _)
    freeC := fun y c e => (by cases e)
    pin := fun p hp => (by
      obtain rfl := List.mem_singleton.mp (show p ∈ [(h'.objs.size, G)] from hp)
      refine ⟨Heap.get?_push_size _ hF, I.hok.fresh gt, fun z => ?_, fun z => ?_, hG⟩
      · have z2 : h'.objs.size = s.heap.objs.size := z
        omega
      · rcases List.mem_cons.mp (I.stkSub _ z) with e | e
        · have z2 := I.lt
          rw [← e] at z2
          have z3 : h'.objs.size < s.heap.objs.size := z2
          omega
        · exact I.nofs gt e)
    hok := I.hok.kept kp2, len := rfl }
end
/-- what is so between two steps of the generator, i things taken -/
def GSt (Y : Cx) (pn : List (Addr × Obj)) (tn : Nat → Heap → Prop) (fp : List Addr) (W : Nat → Hp → Prop) (i : Nat) (s : Shared) : Prop :=
  ∃ H', Inv Y pn [none] H' s ∧ tn i s.heap ∧ (∀ b ∈ fp, H' b = none) ∧ W i H'
/-- how it ends, how it hands out -/
def gFin (Y : Cx) (pn : List (Addr × Obj)) (Q : VK) (b : Bool) (s : Shared) : Prop := ∃ H', Inv Y pn [none] H' s ∧ Q (.bl b) H'
abbrev gEnd (Y : Cx) (pn : List (Addr × Obj)) (Q : VK) : GenEnd := fun _ _ r s1 => r = .ok .next ∧ gFin Y pn Q true s1
def gPro (Y : Cx) (pn : List (Addr × Obj)) (tn : Nat → Heap → Prop) (fp : List Addr) (W : Nat → Hp → Prop) (Q : VK) : Protocol := fun _ _ v s kap =>
  ∃ b : Bool, v = .bool b ∧ (b = true → ∃ i, GSt Y pn tn fp W i s ∧ ∀ s', GSt Y pn tn fp W i s' → kap (.send .none) s') ∧ (b = false → gFin Y pn Q false s)
/-- one turn's reading -/
def GTurn (J : It) (te : TE) (n : Nat) (W : Nat → Hp → Prop) (Q : VK) : Prop := ∀ i H2, W i H2 →
  (J.stop i H2 ∧ Q (.bl true) H2) ∨ (J.go i H2 ∧ i < n ∧ ∀ x H3, J.yld i H2 x H3 → te [some x] H3 fun u H4 => ∃ b, u = .bl b ∧ if b = true then W (i + 1) H4 else Q (.bl false) H4)
section
variable {X : Cx} {elt iter : Expr} {x : Str} {px gp : Pos} {sc : Scope} {it C : Addr} {s₁ : Shared} {H₁ : Hp} {code : Value} {fp : List Addr} {pn : List (Addr × Obj)} {tn : Nat → Heap → Prop} {J : It} {te : TE} {n : Nat} {W : Nat → Hp → Prop} {Q : VK}
theorem gen_seg {Y : Cx} {env : Env} (hY : Y = gCx X (.GeneratorExp elt [⟨.Name x px, iter, [], 0⟩] sc gp) it x s₁ H₁ env fp) (hco : env.scope.isCoroutine = false) (T : Turn X.prog X.w X.K (.Name x px) J fp it tn)
    (pg : PG Y (.Name x px) (gName 0)) (pe : PE Y elt te) (turn : GTurn J te n W Q) (hpn : ∀ b ∈ fp, ∀ p ∈ pn, p.1 ≠ b) :
    ∀ (m i : Nat) (s s₀ : Shared), n - i = m → GSt Y pn tn fp W i s → Seg (model X.prog X.w) X.A.in1.in1 (gEnd Y pn Q) (gPro Y pn tn fp W Q) m s₀
      (.compLoop (.GeneratorExp elt [⟨.Name x px, iter, [], 0⟩] sc gp) 0 (.ref it) .none env) ((model X.prog X.w).den (.compLoop (.GeneratorExp elt [⟨.Name x px, iter, [], 0⟩] sc gp) 0 (.ref it) .none env)) [] s := by
  have hA : Y.A = X.A.in1.in1.over (.compLoop (.GeneratorExp elt [⟨.Name x px, iter, [], 0⟩] sc gp) 0 (.ref it) .none env) [] := by rw [hY]
  have hP : Y.prog = X.prog := by rw [hY]
  have hW : Y.w = X.w := by rw [hY]
  have hK : Y.K = X.K := by rw [hY]
  have hC : Y.calm = true := by rw [hY]
  have hE : Y.env = env := by rw [hY]
  have hX : Y.ex = fp := by rw [hY]
  have hN : Y.pn = [] := by rw [hY]
  have hxe : Y.xe = fun _ _ => False := by rw [hY]
  have stat : ∀ {σ' : L2.St} {H' : Hp} {s' : Shared}, Inv Y pn σ' H' s' → (∀ b ∈ fp, H' b = none) → ∀ b ∈ fp, FpOk Y pn H' b := fun {σ' H' s'} I' hn b hb => by
    have hb2 : b ∈ Y.ex := by rw [hX]; exact hb
    refine ⟨hn b hb, (I'.ok.exf b hb2).1, I'.ok.exfs b hb2, .inl hb2, fun y c e => (I'.ok.exf b hb2).2 y c e, fun p hp => ?_⟩
    rw [hN] at hp
    exact hpn b hb p hp
  have runG := fun pins s σ H v u Q => pg.run pins s σ H v u Q
  have runE := fun pins s σ H Q => pe.run pins s σ H Q
  rw [hA, hP, hW, hE, hxe] at runG runE
  intro m
  induction m with
  | zero =>
    rintro i s s₀ hm ⟨H, I, st, nf, w⟩
    show Seg _ _ _ _ _ s₀ _ ((compTurn _ 0 (.ref it) .none env).onRaise (leaving env)) [] s
    rw [compTurn_gen, Sem.onRaise_eq_wrap]
    refine seg_bind_wrap (wpAny_standAt ?_)
    rcases turn i H w with ⟨stop, q⟩ | ⟨_, lt, _⟩
    · have td := T.done Y hP hW hK hC i pn s _ H (fun _ _ => False) I (stat I nf) st stop
      rw [hA] at td
      refine seg_bind_wrap (thnF td fun r s2 ⟨e, I2⟩ => ?_)
      rw [e]
      exact seg_end (.ok .next) ⟨rfl, H, I2, q⟩
    · exact absurd lt (by omega)
  | succ m ih =>
    rintro i s s₀ hm ⟨H, I, st, nf, w⟩
    show Seg _ _ _ _ _ s₀ _ ((compTurn _ 0 (.ref it) .none env).onRaise (leaving env)) [] s
    rw [compTurn_gen, Sem.onRaise_eq_wrap]
    refine seg_bind_wrap (wpAny_standAt ?_)
    rcases turn i H w with ⟨stop, q⟩ | ⟨go, lt, step⟩
    · have td := T.done Y hP hW hK hC i pn s _ H (fun _ _ => False) I (stat I nf) st stop
      rw [hA] at td
      refine seg_bind_wrap (thnF td fun r s2 ⟨e, I2⟩ => ?_)
      rw [e]
      exact seg_end (.ok .next) ⟨rfl, H, I2, q⟩
    · have ti := T.item Y hP hW hK hC i pn s _ H (fun _ _ => False) I (stat I nf) st go
      rw [hA] at ti
      refine seg_bind_wrap (thnF ti fun r s2 ⟨u, e, h2⟩ => ?_)
      rw [e]
      refine seg_bind_wrap (thnF h2 fun _ s3 ⟨y, H3, I3, r3, y3, st3, n3⟩ => ?_)
      have I3' := I3.pinned (stat I3 n3) (T.obj _ _ st3)
      refine seg_bind_wrap (thnF (runG _ s3 _ H3 y u _ I3' r3 (show gName 0 y [none] H3 (fun σ' H' => σ' = [some y] ∧ H' = H3) from ⟨rfl, rfl⟩)) fun _ s4 ⟨σ4, H4, I4, e4, e5⟩ => ?_)
      subst e4 e5
      refine seg_bind_wrap (wpAny_tests_nil ?_)
      simp only [if_true]
      have yo : ∀ v, yieldOut env v = yieldValue v := fun v => by
        unfold yieldOut
        rw [hco] <;> rfl
      simp only [yo]
      rw [Sem.bind_eq_wrap', Sem.bind_eq_wrap', Sem.wrap_wrap, Sem.wrap_wrap]
      refine seg_wrap (thnF (runE _ s4 _ _ _ I4 (step y _ y3)) fun v s5 ⟨yv, H5, I5, r5, b, e5, q5⟩ => ?_)
      subst e5
      obtain rfl : v = Value.bool b := r5
      have pin' : ∀ b ∈ fp, ∀ o, s3.heap.get? b = some o → s5.heap.get? b = some o ∧ H5 b = none := fun b hb o e =>
        let z := I5.pin (b, o) (List.mem_append_right _ (List.mem_append_right _ (mem_pinsAt hb e)))
        ⟨z.1, z.2.1⟩
      have I6 : Inv Y pn [none] H5 s5 := I5.unpinned.weak rfl fun j v e => by
        match j, e with
        | 0, e => cases e
        | j + 1, e => cases e
      have done : W (i + 1) H5 → GSt Y pn tn fp W (i + 1) s5 := fun w5 => ⟨H5, I6, T.keep _ _ _ st3 fun b hb o e => (pin' b hb o e).1, fun b hb => (by
        obtain ⟨o, e, _⟩ := T.obj _ _ st3 b hb
        exact (pin' b hb o e).2), w5⟩
      refine seg_at (seg_yield rfl rfl rfl ⟨b, rfl, fun hb => ?_, fun hb => ?_⟩)
      · rw [if_pos hb] at q5
        exact ⟨i + 1, done q5, fun s' hj => seg_again rfl (ih (i + 1) s' s' (by omega) hj)⟩
      · rw [if_neg (by rw [hb]; exact Bool.false_ne_true)] at q5
        exact ⟨H5, I6, q5⟩
/-- the generator at a, its number g: what it does next -/
def GAt (M : Model) (A : Around) (Y : Cx) (pn : List (Addr × Obj)) (tn : Nat → Heap → Prop) (fp : List Addr) (W : Nat → Hp → Prop) (Q : VK) (g m : Nat) (s : Shared) : Prop :=
  ∃ i gs, GSt Y pn tn fp W i s ∧ s.gens[g]? = some gs ∧ ∀ s', GSt Y pn tn fp W i s' → gs.Goes M A (gEnd Y pn Q) (gPro Y pn tn fp W Q) m (.send .none) s'
theorem gst_set {Y : Cx} {i g : Nat} {s : Shared} {y : GenState} (h : GSt Y pn tn fp W i s) (hy : y.bare = true) : GSt Y pn tn fp W i (s.setGen g y) := by
  obtain ⟨H', I, r⟩ := h
  exact ⟨H', inv_setGen I hy, r⟩
theorem fin_set {Y : Cx} {g : Nat} {s : Shared} {y : GenState} {b : Bool} (h : gFin Y pn Q b s) (hy : y.bare = true) : gFin Y pn Q b (s.setGen g y) := by
  obtain ⟨H', I, r⟩ := h
  exact ⟨H', inv_setGen I hy, r⟩
theorem fin_kept {Y : Cx} {s : Shared} {b : Bool} {h' : Heap} (h : gFin Y pn Q b s) (k : ∀ b o, s.heap.get? b = some o → h'.get? b = some o) : gFin Y pn Q b { s with heap := h' } := by
  obtain ⟨H', I, r⟩ := h
  exact ⟨H', I.kept (t' := s.toks) k, r⟩
theorem set_at {s : Shared} {g : Nat} {y : GenState} (h : g + 1 ≤ (s.setGen g y).gens.size) : (s.setGen g y).gens[g]? = some y := by
  have z : g < s.gens.size := by
    have e : (s.setGen g y).gens.size = s.gens.size := Array.size_setIfInBounds
    omega
  show (s.gens.setIfInBounds g y)[g]? = some y
  rw [Array.getElem?_setIfInBounds, if_pos rfl, if_pos z]
theorem all_run {Y : Cx} {a : Addr} {g : Nat} {G : Obj} {R : Result → Shared → Prop} (hp : (a, G) ∈ pn) (hG : ∀ h : Heap, h.get? a = some G → h.IsGen a g) (hh : X.A.handled = none) (hd : X.A.depth + 2 < recursionLimit)
    (hR : ∀ b s', gFin Y pn Q b s' → R (.ok (.ret (.bool b))) s') :
    ∀ (m : Nat) (s : Shared), GAt (model X.prog X.w) X.A.in1.in1 Y pn tn fp W Q g m s → codeAny (model X.prog X.w) X.A (.builtin "all.loop" ⟨[.ref a], []⟩) R s := by
  have turn : ∀ (m : Nat) (s : Shared), GAt (model X.prog X.w) X.A.in1.in1 Y pn tn fp W Q g m s →
      (∀ s', (∃ k, m = k + 1 ∧ GAt (model X.prog X.w) X.A.in1.in1 Y pn tn fp W Q g k s') → codeAny (model X.prog X.w) X.A (.builtin "all.loop" ⟨[.ref a], []⟩) R s') → codeAny (model X.prog X.w) X.A (.builtin "all.loop" ⟨[.ref a], []⟩) R s := by
    rintro m s ⟨i, gs, st, hgs, goes⟩ next
    obtain ⟨H, I, _⟩ := id st
    have gen : s.heap.IsGen a g := hG _ (I.pin (a, G) (List.mem_append_right _ hp)).1
    have hgl : g + 1 ≤ s.gens.size := (Array.getElem?_eq_some_iff.mp hgs).1
    refine codeAny_builtin (F.entry_all_loop) ?_
    rw [Around.under_plainId (F.plain_all_loop) _]
    show wpAny (model X.prog X.w) X.A.in1 (pyNext (.ref a) >>= _) _ _ s
    refine wpAny_bind (GenW.wpAny_gsz (n := g + 1) hgl (wpAny_pyNext_genexpQ (n := m) (P := fun _ _ s1 => gFin Y pn Q true s1) (Y := gPro Y pn tn fp W Q) hh I.nolimit (by show X.A.depth < recursionLimit; omega) gen hgs (goes _ (gst_set st rfl)) (fun v s1 gs' hb hv => ?_) (fun s1 hf h' hk => ?_)))
    · intro hgl2
      obtain ⟨b, rfl, yes, no⟩ := hv
      refine wpAny_bind (wpAny_holding (wpAny_truthy_bool ?_))
      refine wpAny_bind (wpAny_letGo ?_)
      cases b with
      | true =>
        obtain ⟨i2, st2, kap⟩ := yes rfl
        simp only [if_true]
        cases m with
        | zero => exact (kap s1 st2).elim
        | succ k => exact wpAny_pure ⟨plainId_quiet (F.plain_all_loop) _, next _ ⟨k, rfl, i2, gs', gst_set st2 hb, set_at hgl2, fun s' h => kap s' h⟩⟩
      | false =>
        simp only [Bool.false_eq_true, if_false]
        exact wpAny_bind (wpAny_rule (wpAny_pure (hR false _ (fin_set (no rfl) hb))))
    · intro _
      refine wpAny_bind (wpAny_rule (wpAny_pure ?_))
      exact hR true _ (fin_kept (fin_set hf rfl) hk)
  intro m
  induction m with
  | zero => exact fun s h => turn 0 s h fun s' ⟨k, e, _⟩ => (by cases e)
  | succ m ih => exact fun s h => turn (m + 1) s h fun s' ⟨k, e, z⟩ => ih s' (by cases e; exact z)
end
/-- .. in the def: the table of the def's code may have grown ahead of it -/
def tAllG (P : Addr) (wi : TI) (te : TE) : TE := fun σ H Q => wi σ H fun J H1 => GxR.TabG H1 P ∧ ∃ (n : Nat) (W : Nat → Hp → Prop), (∀ H2, GxR.Tabbed P H1 H2 → W 0 H2) ∧ GTurn J te n W Q
theorem gen_den {X : Cx} {elt iter : Expr} {x : Str} {px gp : Pos} {sc : Scope} {it : Addr} {env : Env} {fp : List Addr} {pn : List (Addr × Obj)} {tn : Nat → Heap → Prop} {W : Nat → Hp → Prop} {Q : VK} {Y : Cx} {J : It} {n : Nat} (T : Turn X.prog X.w X.K (.Name x px) J fp it tn)
    (loop : ∀ (s s₀ : Shared), GSt Y pn tn fp W 0 s → Seg (model X.prog X.w) X.A.in1.in1 (gEnd Y pn Q) (gPro Y pn tn fp W Q) n s₀ (.compLoop (.GeneratorExp elt [⟨.Name x px, iter, [], 0⟩] sc gp) 0 (.ref it) .none env)
      ((model X.prog X.w).den (.compLoop (.GeneratorExp elt [⟨.Name x px, iter, [], 0⟩] sc gp) 0 (.ref it) .none env)) [] s) (s s₀ : Shared) (st : GSt Y pn tn fp W 0 s) :
    Seg (model X.prog X.w) X.A.in1.in1 (gEnd Y pn Q) (gPro Y pn tn fp W Q) n s₀ (.compStart (.GeneratorExp elt [⟨.Name x px, iter, [], 0⟩] sc gp) 0 (.ref it) .none env)
      ((model X.prog X.w).den (.compStart (.GeneratorExp elt [⟨.Name x px, iter, [], 0⟩] sc gp) 0 (.ref it) .none env)) [] s := by
  have go := loop s s₀ st
  obtain ⟨H', I, st0, _⟩ := id st
  show Seg _ _ _ _ _ s₀ _ ((compStart _ 0 (.ref it) .none env).onRaise (leaving env)) [] s
  unfold compStart
  rw [Sem.onRaise_eq_wrap]
  show Seg _ _ _ _ _ s₀ _ ((ask >>= _).wrap _ _ _ _) [] s
  refine seg_bind_wrap (wpAny_askSetting ?_)
  split
  · exact seg_again rfl go
  · refine seg_bind_wrap (wpAny_rule ?_)
    show Seg _ _ _ _ _ s₀ _ ((standAt iter.pos >>= _).wrap _ _ _ _) [] s
    refine seg_bind_wrap (wpAny_standAt (seg_bind_wrap ?_))
    exact T.self _ 0 s _ _ st0 (seg_again rfl go)
theorem no_clo {cells : List (Str × Addr)} : ∀ (l : List (Str × NameKind)), (∀ y ∈ l, y.2 ≠ .free) → cloFrom cells l [] = []
  | [], _ => rfl
  | (n, k) :: r, h => by
    have z := no_clo (cells := cells) r fun y hy => h y (List.mem_cons_of_mem _ hy)
    have hk : k ≠ .free := h (n, k) List.mem_cons_self
    unfold cloFrom
    cases k <;> first | exact z | exact absurd rfl hk
theorem pe_allG {X : Cx} {c P : Addr} {elt iter : Expr} {x : Str} {px p pos gp : Pos} {scope : Scope} {wi : TI} {te : TE} {k : Nat}
    (hr : Room k X.A) (hg : Gl X "all") (hm : X.mg "all" = none) (hb : bootBuiltins "all" = some (.builtin "all")) (TB : GxR.TabB X.base X.mg c P) (hcode : X.env.code = .ref c) (S : GnS scope x) (hi : PI X (.Name x px) iter wi)
    (hel : ∀ (it C : Addr) (s : Shared) (H : Hp) (code : Value) (fp : List Addr), PE (gCx X (.GeneratorExp elt [⟨.Name x px, iter, [], 0⟩] scope gp) it x s H (gEnv X scope C code) fp) elt te)
    (hs : ∀ v, genFold iter X.env v = pure v)
    (he : starEach [.GeneratorExp elt [⟨.Name x px, iter, [], 0⟩] scope gp] X.env = (false, eval (.GeneratorExp elt [⟨.Name x px, iter, [], 0⟩] scope gp) X.env) :: starEach [] X.env := by rfl) :
    PE X (.Call (.Name "all" p) [.GeneratorExp elt [⟨.Name x px, iter, [], 0⟩] scope gp] [] pos) (tAllG P wi te) := by
  have dep := hr.dp
  refine ⟨fun pins s σ H Q I h => ?_⟩
  refine wpAny_Call_Name_kw (ld_blt I hg hm hb ?_)
  refine PyProof.Rows.callWith_builtin1 ?_ he (by rfl)
  rw [he]
  refine Calls.spliced_cons (wpAny_GeneratorExp_make (cl := []) S.co ?_ S.cell S.dot S.kind (by omega) ?_ hs)
  · rw [closure_ok (fun y hy e => absurd e (S.free y hy)), no_clo _ S.free]
  refine thn (hi.run pins s σ H _ I h) fun xv s1 hx => thn hx fun itv s2 ⟨it, fp, tn, J, H2, e, I2, T, st2, f2, TG, n, W, w0, turn⟩ => ⟨I2.nolimit, ?_⟩
  subst e
  obtain ⟨ps, hP, ht⟩ := TG
  have hPs : s2.heap.get? P = some { cls := .none, data := .fields ps } := I2.hok P _ hP
  have cd : PySem.W.CodeHd s2.heap c P := TB.code.keeps I2.bk
  have fpP : ∀ b ∈ fp, b ≠ P := fun b hb z => by
    have q := (f2 b hb).1
    rw [z, hP] at q
    cases q
  have cont : ∀ (code : Value) (h3 : Heap) (tk : Nat) (ps' : Array Value), Heap.ExtBut P s2.heap h3 → s2.heap.objs.size ≤ h3.objs.size → h3.get? P = some { cls := .none, data := .fields ps' } → (∃ more, ps' = ps ++ more) → TriplesOk ps'.toList →
      wpAny (model X.prog X.w) X.A (builtinsFor X.env.globals X.env.builtins) (fun bi s₄ => ∀ h', h'.Ns s₄.heap.objs.size (fun y => if y = ".0" then some (.ref it) else none) →
        Heap.SameBut s₄.heap.objs.size (s₄.heap.push { cls := .type "frame", data := .dict #[] }) h' → wpAny (model X.prog X.w) X.A (spliced (backTo pos (starEach [] X.env))) (fun us s' => wpAny (model X.prog X.w) X.A (call (.builtin "all") (.ref h'.objs.size :: us)) (EP X pins σ Q) X.xe s') X.xe
          { s₄ with gens := s₄.gens.push (.fresh (.compStart (.GeneratorExp elt [⟨.Name x px, iter, [], 0⟩] scope gp) 0 (.ref it) .none (genEnv scope [] s₄.heap.objs.size code bi X.env))), toks := s₄.toks + 1 + 1 + 1,
                    heap := h'.push { cls := .type "generator", data := .fields #[.int s₄.gens.size 0, .str "<genexpr>" (s₄.toks + 1), .str (X.env.qual ++ "<genexpr>") (s₄.toks + 1 + 1)] } }) X.xe { s2 with heap := h3, toks := tk } := by
    intro code h3 tk ps' hx hsz hP3 hmore ht3
    obtain ⟨bm, ob, e1, e2, e3, e4, e5, e6, e7, e8⟩ := TB.bm
    have keep3 : ∀ b u, b ≠ P → s2.heap.get? b = some u → h3.get? b = some u := fun b u hb e => hx b u hb e
    refine wpAny_builtinsFor (m := X.mg) (by rw [I2.ok.glob]; exact (I2.mod.glob.keeps I2.bk).extBut hx TB.gP) e1 e2 (keep3 _ _ e4 (I2.bk _ _ e5)) e6 e7 e8 ?_
    obtain ⟨more, em⟩ := hmore
    have I4 := GxR.inv_tab (more := more) (h' := h3) (g' := s2.gens) (d' := s2.drawn) (t' := tk) I2 hP (fun b u hb e => keep3 b u hb e) (by rw [← em]; exact hP3) I2.bare
    generalize hs4 : ({ s2 with heap := h3, toks := tk } : Shared) = s4 at I4 ⊢
    have h4 : s4.heap = h3 := by rw [← hs4]
    have tabbed : GxR.Tabbed P H2 (upd H2 P (.tbl (ps ++ more))) := ⟨⟨_, upd_same, by rw [← em]; exact ht3⟩, fun b hb => upd_ne hb⟩
    generalize upd H2 P (.tbl (ps ++ more)) = H4 at I4 tabbed
    have lt4 : ∀ b ∈ fp, b < s4.heap.objs.size := fun b hb => by
      obtain ⟨o, e, _⟩ := T.obj _ _ st2 b hb
      have z := Heap.lt_size e
      rw [h4]
      exact Nat.lt_of_lt_of_le z hsz
    have f4 : ∀ b ∈ fp, FpOk X pins H4 b ∧ b < s4.heap.objs.size := fun b hb => ⟨⟨(tabbed.2 b (fpP b hb)).trans (f2 b hb).1, (f2 b hb).2⟩, lt4 b hb⟩
    intro h' hn' hs'
    have sz' : h'.objs.size = s4.heap.objs.size + 1 := by rw [hs'.1, Heap.size_push]
    have kp : ∀ b o, s4.heap.get? b = some o → h'.get? b = some o := fun b o e => hs'.extBut b o (Nat.ne_of_lt (Heap.lt_size e)) (Heap.get?_push_of_some _ e)
    generalize hG : ({ cls := .type "generator", data := .fields #[.int s4.gens.size 0, .str "<genexpr>" (s4.toks + 1), .str (X.env.qual ++ "<genexpr>") (s4.toks + 1 + 1)] } : Obj) = G
    have IG := gen_inv (elt := elt) (cs := [⟨.Name x px, iter, [], 0⟩]) (sc := scope) (gp := gp) (it := it) (code := code) (G := G) (g' := s4.gens.push (.fresh (.compStart (.GeneratorExp elt [⟨.Name x px, iter, [], 0⟩] scope gp) 0 (.ref it) .none (gEnv X scope s4.heap.objs.size code)))) (tk := s4.toks + 1 + 1 + 1)
      I4 S hr.hd f4 hn' sz' kp (I4.bare.push rfl) (fun v z => by rw [← hG] at z; cases z) (by rw [← hG] <;> rfl)
    have st5 : tn 0 (h'.push G) := T.keep _ _ _ st2 fun b hb o e => Heap.get?_push_of_some _ (kp b o (by rw [h4]; exact keep3 b o (fpP b hb) e))
    refine Calls.spliced_nil ?_
    have isG : ∀ hp : Heap, hp.get? h'.objs.size = some G → hp.IsGen h'.objs.size s4.gens.size := fun hp e => ⟨G, _, _, e, by rw [← hG], by rw [← hG], by rw [← hG]⟩
    have hpn : ∀ b ∈ fp, ∀ p ∈ [(h'.objs.size, G)], p.1 ≠ b := fun b hb p hp z => by
      obtain rfl := List.mem_singleton.mp hp
      have q : b < s4.heap.objs.size := lt4 b hb
      have z2 : h'.objs.size = b := z
      rw [← z2, sz'] at q
      exact Nat.lt_irrefl _ (Nat.lt_of_succ_lt q)
    have loop := gen_seg (elt := elt) (iter := iter) (px := px) (gp := gp) (sc := scope) (Q := Q) (tn := tn) (n := n) rfl S.co T (pg_name (X := gCx X (.GeneratorExp elt [⟨.Name x px, iter, [], 0⟩] scope gp) it x s4 H4 (gEnv X scope s4.heap.objs.size code) fp) (List.nodup_cons.mpr ⟨List.not_mem_nil, List.nodup_nil⟩) rfl (.inl S.loc) (.inr S.loc))
      (hel it s4.heap.objs.size s4 H4 code fp) turn hpn
    refine call_function_tree (F.kind_all) (F.plain_all) (F.entry_all) (F.args_all1 _) ?_
    unfold Builtin.«all»
    refine wpAny_bind (m := oneArg "all" _) (wpAny_pure ?_)
    refine wpAny_bind (wpAny_pyIter_gen (isG _ (IG.pin (h'.objs.size, G) (List.mem_singleton.mpr rfl)).1) ?_)
    refine wpAny_pure ⟨plainId_quiet (F.plain_all_loop) _, all_run (pn := [(h'.objs.size, G)]) (tn := tn) (fp := fp) (W := W) (Q := Q) (List.mem_singleton.mpr rfl) isG hr.hd (by omega) (fun b s' hf => ?_) n _ ⟨0, _, ⟨H4, IG, st5, fun b hb => (f4 b hb).1.1, w0 H4 tabbed⟩, Array.getElem?_push_size .., fun s' hst => ⟨rfl, gen_den T (fun s s₀ q => loop n 0 s s₀ (Nat.sub_zero n) q) s' s' hst⟩⟩⟩
    obtain ⟨H', IY, q⟩ := hf
    have J := I4.call' (ch := fp) IY.os IY.base IY.hok IY.bare fun b hb => ⟨(f4 b hb).1.2.2.2.1, (f4 b hb).1.2.1, (f4 b hb).1.2.2.2.2.1, (f4 b hb).1.2.2.2.2.2⟩
    exact ⟨.bl b, H', J, rfl, q⟩
  cases hf : codeAmong gp ps.toList with
  | none =>
    refine wpAny_genexprCodeX hcode (cd.code hPs ht) (cd.tab hPs) hf fun c' h' tk hx hge hlt hco' _ htab' _ => ?_
    obtain ⟨o1, vs, f1, tf, fl, tg, inF, tx, tt, op, _, _, _, _, _, _, _, _, _, htr, _⟩ := hco'
    exact cont _ h' tk _ hx (Nat.le_trans hge (Nat.le_of_lt hlt)) htab'.2 ⟨_, rfl⟩ htr
  | some cv =>
    refine wpAny_genexprCode_hit hcode (cd.code hPs ht) hf ?_
    exact cont cv s2.heap s2.toks ps (Heap.ExtBut.refl _ _) (Nat.le_refl _) hPs ⟨#[], by simp⟩ ht
end KR
/-! ### defs whose code has a table (a generator expression stands in them): what is kept around their calls, and the law's end with such tables -/
namespace KR
open PySem PySem.Spec PyProof.Rows L2
/-- what was tracked is as it was; tables may have grown -/
structure Sm (H H' : Hp) : Prop where
  keep : ∀ b o, H b = some o → (∀ q, o ≠ .tbl q) → H' b = some o
  tab : ∀ b, GxR.TabG H b → GxR.TabG H' b
theorem tab_at {H : Hp} {b : Addr} (h : GxR.TabG H b) : ∃ q, H b = some (.tbl q) := h.elim fun q z => ⟨q, z.1⟩
theorem Sm.refl {H : Hp} : Sm H H := ⟨fun _ _ h _ => h, fun _ h => h⟩
theorem Sm.trans {H H1 H2 : Hp} (a : Sm H H1) (b : Sm H1 H2) : Sm H H2 := ⟨fun c o h n => b.keep c o (a.keep c o h n) n, fun c h => b.tab c (a.tab c h)⟩
theorem Sm.of {H H1 : Hp} (a : Same H H1) : Sm H H1 := ⟨fun c o h _ => a c o h, fun c ⟨q, e, t⟩ => ⟨q, a _ _ e, t⟩⟩
theorem Sm.tabbed {H H1 : Hp} {P : Addr} (a : GxR.Tabbed P H H1) (h : GxR.TabG H P) : Sm H H1 := by
  obtain ⟨q, e, _⟩ := h
  refine ⟨fun c o h n => ?_, fun c ⟨q2, e2, t2⟩ => ?_⟩
  · have ne : c ≠ P := fun z => by
      rw [z, e] at h
      exact n q (Option.some.inj h).symm
    rw [a.2 c ne]
    exact h
  · by_cases z : c = P
    · rw [z]
      exact a.1
    · exact ⟨q2, (a.2 c z).trans e2, t2⟩
theorem Sm.tup {K : PySem.W.Frag} {H H' : Hp} {a : Addr} {xs : List V} (e : Sm H H') (h : SqT K H a xs) : SqT K H' a xs := by
  rcases h with (h | ⟨o, h⟩) | h
  · exact .inl (.inl (e.keep _ _ h nofun))
  · exact .inl (.inr ⟨o, e.keep _ _ h nofun⟩)
  · exact .inr h
theorem Sm.seq {K : PySem.W.Frag} {H H' : Hp} {a : Addr} {xs : List V} (e : Sm H H') (h : SqL K H a xs) : SqL K H' a xs := by
  rcases h with (h | ⟨o, h⟩) | h
  · exact .inl (.inl (e.keep _ _ h nofun))
  · exact .inl (.inr ⟨o, e.keep _ _ h nofun⟩)
  · exact .inr h
theorem Sm.lst {H H' : Hp} {a : Addr} {xs : List V} (e : Sm H H') (h : H a = some (.lst xs)) : H' a = some (.lst xs) := e.keep _ _ h nofun
theorem BoxAt.sm {H H' : Hp} {p : Addr} {n : Nat} (h : BoxAt H p n) (s : Sm H H') : BoxAt H' p n := by
  obtain ⟨a, b, c, h1, h2⟩ := h
  exact ⟨a, b, c, s.lst h1, h2⟩
/-- .. but the box p -/
structure Fs (p : Addr) (H H' : Hp) : Prop where
  keep : ∀ b o, b ≠ p → H b = some o → (∀ q, o ≠ .tbl q) → H' b = some o
  tab : ∀ b, b ≠ p → GxR.TabG H b → GxR.TabG H' b
theorem Fs.refl {p : Addr} {H : Hp} : Fs p H H := ⟨fun _ _ _ h _ => h, fun _ _ h => h⟩
theorem Fs.trans {p : Addr} {H H1 H2 : Hp} (a : Fs p H H1) (b : Fs p H1 H2) : Fs p H H2 := ⟨fun c o e h n => b.keep c o e (a.keep c o e h n) n, fun c e h => b.tab c e (a.tab c e h)⟩
theorem Fs.of {p : Addr} {H H1 : Hp} (a : Fr p H H1) : Fs p H H1 := ⟨fun c o e h _ => a c o e h, fun c e ⟨q, g, t⟩ => ⟨q, a _ _ e g, t⟩⟩
theorem Fs.sm {p : Addr} {H H1 : Hp} (a : Sm H H1) : Fs p H H1 := ⟨fun c o _ h n => a.keep c o h n, fun c _ h => a.tab c h⟩
/-- so many tables are there -/
def Tbs (Ps : List Addr) (H : Hp) : Prop := ∀ P ∈ Ps, GxR.TabG H P
theorem Tbs.sm {Ps : List Addr} {H H' : Hp} (h : Tbs Ps H) (s : Sm H H') : Tbs Ps H' := fun P hP => s.tab P (h P hP)
theorem Tbs.fs {Ps : List Addr} {p : Addr} {H H' : Hp} {xs : List V} (h : Tbs Ps H) (hp : H p = some (.lst xs)) (s : Fs p H H') : Tbs Ps H' := fun P hP => s.tab P (fun z => by
  obtain ⟨q, e⟩ := tab_at (h P hP)
  rw [z, hp] at e
  cases e) (h P hP)
theorem box_lst {H : Hp} {p : Addr} {n : Nat} (h : BoxAt H p n) : ∃ xs, H p = some (.lst xs) := by
  obtain ⟨a, b, c, h1, _⟩ := h
  exact ⟨_, h1⟩
theorem Tbs.fr {Ps : List Addr} {p : Addr} {n : Nat} {H H' : Hp} (h : Tbs Ps H) (B : BoxAt H p n) (f : Fr p H H') : Tbs Ps H' := (box_lst B).elim fun _ e => h.fs e (.of f)
theorem Tbs.same {Ps : List Addr} {H H' : Hp} (h : Tbs Ps H) (s : Same H H') : Tbs Ps H' := h.sm (.of s)
/-- what is written into a list of the def's own touches no table -/
theorem Tbs.put {Ps : List Addr} {H : Hp} {D : Addr} {xs ys : List V} (h : Tbs Ps H) (hd : H D = some (.lst xs)) : Tbs Ps (upd H D (.lst ys)) := h.fs hd (.of fr_updL)
where fr_updL : Fr D H (upd H D (.lst ys)) := fun b o n e => by rw [upd_ne n]; exact e
theorem Sm.put {H0 H : Hp} {D : Addr} {o : HO} (s : Sm H0 H) (h : H0 D = none) : Sm H0 (upd H D o) :=
  ⟨fun b u e n => by rw [upd_ne (ne_of_none e h)]; exact s.keep b u e n, fun b ⟨q, e, t⟩ => by
    obtain ⟨q2, e2, t2⟩ := s.tab b ⟨q, e, t⟩
    exact ⟨q2, by rw [upd_ne (ne_of_none e h)]; exact e2, t2⟩⟩
/-- a def of the text whose code object is known -/
structure FunC (K : PySem.W.Frag) (x qual : Str) (st : Stmt) (f : Addr) (fd : FuncData) (c : Addr) : Prop where
  ex : ∃ (oc : Value) (od : Option Addr) (kV doc pm : Value) (an : Option Addr) (ct : Value) (osl : Array (Option Value)),
    fd = PySem.W.fnOf x qual (defArgs st) (defBody st) (defScope st) .none kV doc pm an (.ref c) ct ∧ K.lookup f = some ⟨oc, od, .func fd, osl⟩ ∧ PySem.W.codeIn K (.ref c) qual = true
theorem funC_mk {K : PySem.W.Frag} {x qual : Str} {st : Stmt} {f c : Addr} {oc : Value} {od an : Option Addr} {osl : Array (Option Value)} {kV doc pm ct : Value} (l : K.lookup f = some ⟨oc, od, .func (PySem.W.fnOf x qual (defArgs st) (defBody st) (defScope st) .none kV doc pm an (.ref c) ct), osl⟩)
    (h : PySem.W.codeIn K (.ref c) qual = true) : FunC K x qual st f (PySem.W.fnOf x qual (defArgs st) (defBody st) (defScope st) .none kV doc pm an (.ref c) ct) c := ⟨⟨oc, od, kV, doc, pm, an, ct, osl, rfl, l, h⟩⟩
section
variable {P : Program} {w : World} {K : PySem.W.Frag} {mg : Str → Option Value} {base : Heap}
theorem FunC.ok {x qual : Str} {st : Stmt} {f c : Addr} {fd : FuncData} {N ps : List Str} {k : Nat} {sp : Sp} (F : FunC K x qual st f fd c) (S : FnScope N ps (defScope st)) (len : ∀ vs H Q E, sp vs H Q E → vs.length = ps.length)
    (body : ∀ (cdv : Value) (A : Around) (outer : List Env) (s : Shared) (H : Hp) (vs : List V) (Q : VK) (E : XK), cdv = .ref c → Room k (A.deeper (envOfC qual (defScope st) s.heap.objs.size f cdv)) → sp vs H Q E →
      ∃ t, PSs (cxOf CX0 P w K mg base N qual (defScope st) f cdv A outer s H E).nox (defBody st) t ∧ t { nx := fun _ H' => Q .non H', rt := Q } (start N vs) H) : FnOk P w K mg base CX0 (k + 1) f fd ps sp := by
  obtain ⟨_, _, _, _, _, _, _, _, rfl, lk, hcd⟩ := F.ex
  exact fn_of lk hcd S len fun A outer s H vs Q E hr hsp => (body (.ref c) A outer s H vs Q E rfl hr hsp).elim fun t z => ⟨t, z.1.nox, z.2⟩
end
section
variable {P : Program} {w : World} {K : PySem.W.Frag} {mg mb : Str → Option Value} {k : Nat} {fa a : Addr} {fd : FuncData} {x : Str} {sp : Sp} {s₁ : Shared} {vs : List Value} {ns : List Int}
/-- what is tracked when the law is called: the script and the tables -/
def scrT (K : PySem.W.Frag) (a : Addr) (ob : Obj) (ns : List Int) (Ps : List Addr) : Hp := fun b => if b ∈ Ps then some (.tbl #[]) else scr K a ob ns b
theorem scrT_some {ob : Obj} {Ps : List Addr} {b : Addr} {u : HO} (h : scrT K a ob ns Ps b = some u) : (b ∈ Ps ∧ u = .tbl #[]) ∨ (b ∉ Ps ∧ b = a ∧ K.lookup a = none ∧ u = .frz ob (.lst (ns.map V.int))) := by
  unfold scrT at h
  split at h
  · rename_i c
    exact .inl ⟨c, (Option.some.inj h).symm⟩
  · rename_i c
    exact .inr ⟨c, scr_some h⟩
abbrev eob : Obj := { cls := .none, data := .fields #[] }
theorem call_lawT {cs : List (Addr × Addr)} (inK : K.In s₁.heap) (gl : s₁.heap.Ns mainGlobals mg) (bl : s₁.heap.Ns builtinsNs mb) (boot : ∀ x : Str, x ≠ "__name__" → mb x = bootBuiltins x) (lim : s₁.heap.NoLimit) (quiet : s₁.gens = #[])
    (empty : ∀ p ∈ cs, s₁.heap.get? p.2 = some eob) (noK : ∀ p ∈ cs, K.lookup p.2 = none) (head : ∀ p ∈ cs, PySem.W.CodeHd s₁.heap p.1 p.2)
    (bmain : ∃ (bm : Addr) (ob : Obj), mg "__builtins__" = some (.ref bm) ∧ bm ≠ builtinsNs ∧ s₁.heap.get? bm = some ob ∧ ob.cls = .type "module" ∧ ob.dict = some builtinsNs ∧ ob.data = .plain)
    (there : s₁.heap.get? a = some { cls := .type "list", data := .seq vs.toArray }) (areInts : IntsAre vs ns) (len : ns.length ≤ sizeLine) (room : Room k callerA)
    (F : ∀ base : Heap, K.In base → base.Ns mainGlobals mg → (∀ p ∈ cs, GxR.TabB base mg p.1 p.2) → FnG P w K mg base k fa fd [x] sp) (binds : ∀ (s : Shared) (u : Value), BindsTo s fd ⟨[u], []⟩ [(x, u)])
    (asked : ∀ H : Hp, Tbs (cs.map (·.2)) H → SqL K H a (ns.map V.int) → sp [.ref a] H (fun v _ => v = .bl true) fun _ _ _ => False) :
    codeAny (model P w) callerA (.call (.ref fa) ⟨[.ref a], []⟩) (fun r s' => r = .ok (.ret (.bool true)) ∧ OldK s₁.heap s'.heap ∧ s'.os = s₁.os ∧ AllBare s'.gens) s₁ := by
  let ob : Obj := { cls := .type "list", data := .seq vs.toArray }
  let Ps := cs.map (·.2)
  let H := scrT K a ob ns Ps
  have at_ : ∀ {b u}, H b = some u → (b ∈ Ps ∧ u = .tbl #[]) ∨ (b ∉ Ps ∧ b = a ∧ K.lookup a = none ∧ u = .frz ob (.lst (ns.map V.int))) := scrT_some
  have isT : ∀ b ∈ Ps, s₁.heap.get? b = some eob := fun b hb => by
    obtain ⟨p, hp, e⟩ := List.mem_map.mp hb
    rw [← e]
    exact empty p hp
  have aT : a ∉ Ps := fun z => by
    have q := Option.some.inj ((isT a z).symm.trans there)
    have q2 : Data.fields #[] = Data.seq vs.toArray _ := congrArg Obj.data q
    cases q2
  have no : ∀ b o, s₁.heap.get? b = some o → (∀ q n, o.data ≠ .seq q n) → o.data ≠ .fields #[] → H b = none := fun b o e d1 d2 => by
    cases c : H b with
    | none => rfl
    | some u =>
      rcases at_ c with ⟨hb, _⟩ | ⟨_, rfl, _⟩
      · have q := Option.some.inj (e.symm.trans (isT b hb))
        exact absurd (by rw [q]) d2
      · have q := Option.some.inj (e.symm.trans there)
        exact absurd (by rw [q]) (d1 vs.toArray _)
  have keepNs : ∀ {b : Addr} {m : Str → Option Value}, s₁.heap.Ns b m → (hidT s₁.heap H).Ns b m := fun {b m} ⟨o, es, ep, e, d, r⟩ =>
    ⟨o, es, ep, hidT_get e (no b o e (fun q n z => by rw [d] at z; cases z) fun z => by rw [d] at z; cases z), d, r⟩
  have keepK : K.In (hidT s₁.heap H) := fun b o e => hidT_get (inK b o e) (by
    cases c : H b with
    | none => rfl
    | some u =>
      rcases at_ c with ⟨hb, _⟩ | ⟨_, rfl, n, _⟩
      · obtain ⟨p, hp, e2⟩ := List.mem_map.mp hb
        rw [← e2, noK p hp] at e
        cases e
      · rw [n] at e
        cases e)
  have rel := vals_ints areInts
  have holds : HOk P w H s₁.heap := fun b u c => by
    rcases at_ c with ⟨hb, rfl⟩ | ⟨_, rfl, _, rfl⟩
    · exact isT b hb
    · exact ⟨there, by rw [List.length_map]; exact len, vs, _, rel, there⟩
  have tbs : Tbs Ps H := fun b hb => ⟨#[], if_pos hb, by first | trivial | simp [TriplesOk]⟩
  have script : SqL K H a (ns.map V.int) := by
    cases c : K.lookup a with
    | none => exact Or.inl (Or.inr ⟨ob, (if_neg aT).trans (if_pos ⟨rfl, c⟩)⟩)
    | some o =>
      have e := Option.some.inj ((inK a o c).symm.trans there)
      subst e
      exact Or.inr ⟨_, vs.toArray, _, c, rfl, rfl, rfl, by rw [List.size_toArray, areInts.length]; exact len, by simpa using rel⟩
  have modul : Mod K mg (hidT s₁.heap H) := ⟨keepK, keepNs gl, ⟨mb, keepNs bl, boot⟩, lim.elim fun mc z => ⟨mc, keepNs z.1, z.2⟩⟩
  have tabB : ∀ p ∈ cs, GxR.TabB (hidT s₁.heap H) mg p.1 p.2 := fun p hp => by
    refine ⟨?_, ?_, fun z => ?_⟩
    · obtain ⟨o, us, file, tf, flags, tg, inF, text, tt, e1, r0, r1, r2, rest⟩ := head p hp
      refine ⟨o, us, file, tf, flags, tg, inF, text, tt, hidT_get e1 (no _ _ e1 (fun q n z => ?_) fun z => ?_), r0, r1, r2, rest⟩
      · rw [r1] at z
        cases z
      · rw [r1] at z
        cases z
        simp at r2
    · obtain ⟨bm, o, b1, b2, b3, b4, b5, b6⟩ := bmain
      refine ⟨bm, o, b1, b2, fun q => ?_, fun q => ?_, hidT_get b3 (no _ _ b3 (fun q n z => ?_) fun z => ?_), b4, b5, b6⟩
      · obtain ⟨o2, es, ep, e, d, _⟩ := gl
        rw [q, e] at b3
        cases b3
        rw [d] at b6
        cases b6
      · rw [q, empty p hp] at b3
        cases b3
        cases b6
      · rw [b6] at z
        cases z
      · rw [b6] at z
        cases z
    · obtain ⟨o2, es, ep, e, d, _⟩ := gl
      rw [z, empty p hp] at e
      cases e
      cases d
  have start0 : Env0 P w K mg (hidT s₁.heap H) callerA [] s₁ H := ⟨rfl, modul, fun b o e => of_hidT e, Nat.le_of_eq (hidT_size _ _), trivial, fun b hb => (List.not_mem_nil hb).elim, holds, .of_eq quiet⟩
  refine codeAny_mono ((F _ keepK (keepNs gl) tabB).does callerA [] s₁ H _ [.ref a] [.ref a] _ _ room rfl start0 (binds s₁ (.ref a)) (.cons rfl .nil) (asked H tbs script)) ?_
  intro r s' post
  match r, post with
  | .error e, post => exact False.elim post
  | .ok .next, post => exact post.elim
  | .ok .brk, post => exact post.elim
  | .ok .cont, post => exact post.elim
  | .ok (.ret u), ⟨v, H', os, bare, un, held, rv, e⟩ =>
    cases (show v = V.bl true from e)
    cases (show u = Value.bool true from rv)
    have key : ∀ b o, b ∉ Ps → s₁.heap.get? b = some o → s'.heap.get? b = some o := fun b o nb g => by
      cases c : H b with
      | none => exact un.keep b o g c (fun z => (List.not_mem_nil z).elim) (fun z => (List.not_mem_nil z).elim)
      | some u =>
        rcases at_ c with ⟨hb, _⟩ | ⟨_, rfl, _, rfl⟩
        · exact absurd hb nb
        · rw [Option.some.inj (g.symm.trans there)]
          exact (held b _ (un.frzs b ob _ c)).1
    have grown : ∀ p ∈ cs, ∃ more : Array Value, s'.heap.get? p.2 = some { cls := .none, data := .fields more } := fun p hp =>
      (un.tbls p.2 #[] (if_pos (List.mem_map.mpr ⟨p, hp, rfl⟩))).elim fun more z => ⟨_, held p.2 _ z⟩
    refine ⟨rfl, ⟨fun b o g => ?_, fun b o g => ?_⟩, os, bare⟩
    · by_cases hb : b ∈ Ps
      · obtain ⟨p, hp, e2⟩ := List.mem_map.mp hb
        obtain ⟨more, hm⟩ := grown p hp
        subst e2
        cases Option.some.inj (g.symm.trans (empty p hp))
        exact .inr (.inl ⟨((head p hp).tab (empty p hp)).isCodeTable, rfl, #[], more, rfl, by rw [Array.empty_append]; exact hm⟩)
      · exact .inl (key b o hb g)
    · by_cases hb : b ∈ Ps
      · obtain ⟨p, hp, e2⟩ := List.mem_map.mp hb
        subst e2
        exact (grown p hp).elim fun _ z => ⟨_, z⟩
      · exact ⟨o, key b o hb g⟩
end
/-- the goal that is left of a law: xs, the defs in which a generator expression stands -/
theorem walk_ofT {l : PySem.W.OpenLaw} {n k : Nat} {q : Program} {loose : List Str} {XP : (Str → Option Value) → Heap → Prop} {YP : World → Heap → Prop} {d : DefRec} {K : Params → PySem.W.Frag} {sp : World → List Addr → Sp} {x : Str} (xs : List Str)
    (most : l.most = some n) (n9 : n ≤ sizeLine) (nodf : d.params.defaults = []) (room : Room k callerA) (inK : ∀ (w : World) (h : Heap), YP w h → (K w.params).In h) (recs : ∀ y ∈ xs, ((recsOf q).any fun e => e.name == y) = true)
    (F : ∀ (w : World) (mg : Str → Option Value) (fa : Addr) (h : Heap), (K w.params).In h → h.Ns mainGlobals mg → mg d.name = some (.ref fa) →
      ∃ (fd : FuncData) (cs : List (Addr × Addr)), (∀ p ∈ cs, ∃ y ∈ xs, PySem.W.tabIn (K w.params) y = some p) ∧ (∀ p ∈ cs, (K w.params).lookup p.2 = none) ∧ (∀ (s : Shared) (u : Value), BindsTo s fd ⟨[u], []⟩ [(x, u)]) ∧
        ∀ base : Heap, (K w.params).In base → base.Ns mainGlobals mg → (∀ p ∈ cs, GxR.TabB base mg p.1 p.2) → FnG l.prog w (K w.params) mg base k fa fd [x] (sp w (cs.map (·.2))))
    (asked : ∀ (w : World) (Ps : List Addr) (H : Hp) (a : Addr) (ns : List Int), ns.length ≤ n → Tbs Ps H → SqL (K w.params) H a (ns.map V.int) → sp w Ps [.ref a] H (fun v _ => v = .bl true) fun _ _ _ => False) :
    PySem.W.WalkO q loose XP YP l.row.toRowW d [] (fun f vs => PySem.call f vs) :=
  Att.attach_call most nodf fun w s₀ s₁ mg mb fa o pm cd doc a vs ns G Y ho hd hcd hmg hobj hints hlen hg => by
    obtain ⟨fd, cs, ht, hn, b, f⟩ := F w mg fa _ (inK w _ Y) G.T.g hmg
    have tab : ∀ p ∈ cs, PySem.W.CodeHd s₁.heap p.1 p.2 ∧ s₁.heap.get? p.2 = some eob := fun p hp => by
      obtain ⟨y, hy, e⟩ := ht p hp
      obtain ⟨r, hr⟩ : ∃ r, (recsOf q).find? (fun e => e.name == y) = some r := Option.isSome_iff_exists.mp (by
        rw [List.find?_isSome]
        exact List.any_eq_true.mp (recs y hy))
      exact PySem.W.tab_of G.T (inK w _ Y) hr e
    exact call_lawT (inK w _ Y) G.T.g G.T.b G.T.builtins G.T.nolimit hg (fun p hp => (tab p hp).2) hn (fun p hp => (tab p hp).1) G.T.bmain hobj hints (Nat.le_trans hlen n9) room f b fun H tbs sc => asked w _ H a ns hlen tbs sc
/-- a comprehension in a comprehension -/
theorem blkOk_nest {N : List Str} {outer scope sc : Scope} {own : List (Str × Nat)} {cl : List (Str × Addr)} {C : Addr} {env : Env} (hs : env.scope = sc) (h : blkC N (relS outer sc) scope own = true) : BlkOk N (compEnvC outer cl C env).scope scope own := by
  subst hs
  exact blkOk_by h
/-- tuple(x) of a list or a tuple -/
def rTupI (K : PySem.W.Frag) : List V → Hp → VK → Prop := fun xs H Q => ∃ p ys, xs = [.ref p] ∧ ((SqL K H p ys ∧ ∀ l H', Same H H' → H l = none → H' l = some (.tup ys) → Q (.ref l) H') ∨ (SqT K H p ys ∧ Q (.ref p) H))
theorem tupI {X : Cx} {K : PySem.W.Frag} (h : X.K = K) : CallR X (.type "tuple") (rTupI K) := fun pins s σ H xs us Q I r ⟨p, ys, e, q⟩ =>
  call_tuple_of pins s σ H xs us Q I r ⟨p, ys, e, h ▸ q.imp (fun z => ⟨z.1, fun l hl => z.2 l _ (same_new hl) hl upd_same⟩) id⟩
theorem tabIn_of {K : PySem.W.Frag} {x : Str} {f c P : Addr} {oc e : Value} {od dd : Option Addr} {fd : FuncData} {osl sl : Array (Option Value)} {vs : Array Value} (a : PySem.W.nsIn K mainGlobals x = some (some (.ref f))) (l : K.lookup f = some ⟨oc, od, .func fd, osl⟩)
    (hc : fd.code = .ref c) (q : K.lookup c = some ⟨e, dd, .fields vs, sl⟩) (p : vs[11]? = some (.ref P)) : PySem.W.tabIn K x = some (c, P) := by
  unfold PySem.W.tabIn
  rw [a]
  dsimp only
  rw [l]
  dsimp only
  rw [hc]
  dsimp only
  rw [q]
  dsimp only
  rw [p]
end KR
/-! ### all(test for x in ..) whose test names one local of the def (a cell) -/
namespace KR
open PySem PySem.Spec PyProof.Rows L2
/-- the frame's scope: one name of its own, one captured -/
structure GnF (scope : Scope) (x y : Str) : Prop where
  kind : scope.kind = .function
  co : scope.isCoroutine = false
  cell : ∀ z ∈ scope.names, z.2 ≠ .cell
  free : ∀ z ∈ scope.names, z.2 = .free → z.1 = y
  clo : ∀ cells : List (Str × Addr), cloFrom cells scope.names [] = [(y, (cells.lookup y).getD 0)]
  fy : scope.names.lookup y = some .free
  dot : scope.names.lookup (".0" : Str) = some NameKind.local
  loc : scope.names.lookup x = some .local
theorem GnF.ne {scope : Scope} {x y : Str} (S : GnF scope x y) : x ≠ y := fun e => by
  have := S.loc.symm.trans (e ▸ S.fy)
  cases this
/-- the frame's environment, its around -/
abbrev gEnvF (X : Cx) (scope : Scope) (y : Str) (cy C : Addr) (code : Value) : Env := genEnv scope [(y, cy)] C code builtinsNs X.env
/-- the frame's context: it began at s, H; fp: what is walked -/
abbrev gCxF (X : Cx) (ge : Expr) (it : Addr) (x y : Str) (s : Shared) (H : Hp) (env : Env) (fp : List Addr) : Cx :=
  { prog := X.prog, w := X.w, K := X.K, mg := X.mg, base := X.base, A := gAr X ge it env, N := [x, y], s_0 := s, H_0 := H, env := env, outer := X.stack, stack := env :: X.stack, ex := fp, fn := fun _ => false, calm := true, pn := [], xe := fun _ _ => False }
section
variable {X : Cx} {pins : List (Addr × Obj)} {σ : L2.St} {H : Hp} {s : Shared}
theorem gen_okF {elt : Expr} {cs : List Comprehension} {sc : Scope} {gp : Pos} {it : Addr} {x y : Str} {cy : Addr} {scope : Scope} {code : Value} {fp : List Addr} (I : Inv X pins σ H s) (S : GnF scope x y) (hcy : X.env.cells.lookup y = some cy) (hh : X.A.handled = none) (hfp : ∀ b ∈ fp, FpOk X pins H b ∧ b < s.heap.objs.size) :
    (gCxF X (.GeneratorExp elt cs sc gp) it x y s H (gEnvF X scope y cy s.heap.objs.size code) fp).Ok := by
  have one : ∀ z c, ([(y, cy)] : List (Str × Addr)).lookup z = some c → z = y ∧ c = cy := fun z c e => by
    rw [List.lookup_cons] at e
    cases hz : z == y with
    | true =>
      rw [hz] at e
      exact ⟨by simpa using hz, (Option.some.inj e).symm⟩
    | false =>
      rw [hz] at e
      cases e
  exact {
    mod := I.ok.mod, kind := S.kind, glob := I.ok.glob, blt := rfl, above := Nat.le_refl _
    inj := fun z u c e1 e2 => (one z c e1).1.trans (one u c e2).1.symm
    has := fun z h => (by
      rcases h with h | h
      · exact absurd rfl (S.cell _ (PySem.mem_of_lookup h))
      · have e := S.free _ (PySem.mem_of_lookup h) rfl
        have e : z = y := e
        subst e
        exact ⟨cy, by show ([(z, cy)] : List (Str × Addr)).lookup z = some cy; rw [List.lookup_cons, beq_self_eq_true]⟩)
    cab := fun y c z _ => (by cases z)
    hd := fun _ => hh
    frames := (by
      show pushEnvs [gEnvF X scope y cy s.heap.objs.size code] (pushEnvs [] X.A.frames) = _
      rw [I.ok.frames] <;> rfl)
    stk := .inr ⟨rfl, rfl⟩
    exf := fun b hb => ⟨Nat.ne_of_lt (hfp b hb).2, fun z c e => (by
      have e2 := (one z c e).2
      rw [e2]
      exact (hfp b hb).1.2.2.2.2.1 y cy hcy)⟩
    bs := I.bs, bsz := Nat.le_trans I.ok.bsz I.sz
    noex := fun b o e hb => (by
      obtain ⟨_, _, _, old | old, _⟩ := (hfp b hb).1
      · exact I.ok.noex b o e old
      · have z := Heap.lt_size e
        have z2 := I.ok.bsz
        exact Nat.lt_irrefl b (Nat.lt_of_lt_of_le z (Nat.le_trans z2 old)))
    exfs := fun b hb hf => (by
      obtain ⟨⟨_, n1, n2, _⟩, _⟩ := hfp b hb
      rcases List.mem_cons.mp (I.stkSub b hf) with e | e
      · exact n1 e
      · exact n2 e)
    funs := I.stack, frf := I.stkFree }
/-- the frame as it begins: its space at C, its generator behind it -/
theorem gen_invF {elt : Expr} {cs : List Comprehension} {sc : Scope} {gp : Pos} {it : Addr} {x y : Str} {cy : Addr} {w : V} {scope : Scope} {code : Value} {fp : List Addr} {h' : Heap} {G : Obj} {g' : Array GenState} {tk : Nat} {m : Str → Option Value} (I : Inv X pins σ H s) (S : GnF scope x y) (hcy : X.env.cells.lookup y = some cy) (hw : ∃ u, RelV w u ∧ s.heap.IsCell cy (some u)) (hh : X.A.handled = none)
    (hfp : ∀ b ∈ fp, FpOk X pins H b ∧ b < s.heap.objs.size) (hn : h'.Ns s.heap.objs.size m) (hsz : h'.objs.size = s.heap.objs.size + 1) (kp : ∀ b o, s.heap.get? b = some o → h'.get? b = some o) (hg : AllBare g') (hG : ∀ v, G.data ≠ .cell v) (hF : G.isFreed = false) :
    Inv (gCxF X (.GeneratorExp elt cs sc gp) it x y s H (gEnvF X scope y cy s.heap.objs.size code) fp) [(h'.objs.size, G)] [none, some w] H { s with heap := h'.push G, gens := g', toks := tk } := by
  have gone : ∀ z c, ([(y, cy)] : List (Str × Addr)).lookup z = some c → z = y ∧ c = cy := fun z c e => by
    rw [List.lookup_cons] at e
    cases hz : z == y with
    | true =>
      rw [hz] at e
      exact ⟨by simpa using hz, (Option.some.inj e).symm⟩
    | false =>
      rw [hz] at e
      cases e
  have kp2 : ∀ b o, s.heap.get? b = some o → (h'.push G).get? b = some o := fun b o e => Heap.get?_push_of_some _ (kp b o e)
  have gt : s.heap.objs.size ≤ h'.objs.size := by omega
  exact {
    ok := gen_okF I S hcy hh hfp, os := rfl, bare := hg, base := Un.kept kp2
    loc := ⟨m, hn.push _, fun i z v e0 e vis => (by
      match i, e0, e with
      | 0, _, e => cases e
      | 1, e0, e =>
        cases e0
        cases e
        obtain ⟨u, ru, hu⟩ := hw
        exact ⟨u, ru, .inr ⟨.inr S.fy, cy, by show ([(y, cy)] : List (Str × Addr)).lookup y = some cy; rw [List.lookup_cons, beq_self_eq_true], hu.imp fun o ho => ⟨kp2 _ _ ho.1, ho.2⟩⟩⟩
      | j + 2, e0, _ => cases e0)⟩
    cell := fun z c e => (by
      have e2 := (gone z c e).2
      rw [e2]
      obtain ⟨u, _, hu⟩ := hw
      exact ⟨_, hu.imp fun o ho => ⟨kp2 _ _ ho.1, ho.2⟩⟩)
    free := I.hok.fresh (Nat.le_refl _)
    freeC := fun z c e => (by
      have e2 := (gone z c e).2
      rw [e2]
      exact I.freeC y cy hcy)
    pin := fun p hp => (by
      obtain rfl := List.mem_singleton.mp (show p ∈ [(h'.objs.size, G)] from hp)
      refine ⟨Heap.get?_push_size _ hF, I.hok.fresh gt, fun z => ?_, fun z => ?_, hG⟩
      · have z2 : h'.objs.size = s.heap.objs.size := z
        omega
      · rcases List.mem_cons.mp (I.stkSub _ z) with e | e
        · have z2 := I.lt
          rw [← e] at z2
          have z3 : h'.objs.size < s.heap.objs.size := z2
          omega
        · exact I.nofs gt e)
    hok := I.hok.kept kp2, len := rfl }
end
/-- what is so between two steps of the generator, i things taken -/
def GStF (w : V) (Y : Cx) (pn : List (Addr × Obj)) (tn : Nat → Heap → Prop) (fp : List Addr) (W : Nat → Hp → Prop) (i : Nat) (s : Shared) : Prop :=
  ∃ H', Inv Y pn [none, some w] H' s ∧ tn i s.heap ∧ (∀ b ∈ fp, H' b = none) ∧ W i H'
/-- how it ends, how it hands out -/
def gFinF (w : V) (Y : Cx) (pn : List (Addr × Obj)) (Q : VK) (b : Bool) (s : Shared) : Prop := ∃ H', Inv Y pn [none, some w] H' s ∧ Q (.bl b) H'
abbrev gEndF (w : V) (Y : Cx) (pn : List (Addr × Obj)) (Q : VK) : GenEnd := fun _ _ r s1 => r = .ok .next ∧ gFinF w Y pn Q true s1
def gProF (w : V) (Y : Cx) (pn : List (Addr × Obj)) (tn : Nat → Heap → Prop) (fp : List Addr) (W : Nat → Hp → Prop) (Q : VK) : Protocol := fun _ _ v s kap =>
  ∃ b : Bool, v = .bool b ∧ (b = true → ∃ i, GStF w Y pn tn fp W i s ∧ ∀ s', GStF w Y pn tn fp W i s' → kap (.send .none) s') ∧ (b = false → gFinF w Y pn Q false s)
/-- one turn's reading -/
def GTurnF (w : V) (J : It) (te : TE) (n : Nat) (W : Nat → Hp → Prop) (Q : VK) : Prop := ∀ i H2, W i H2 →
  (J.stop i H2 ∧ Q (.bl true) H2) ∨ (J.go i H2 ∧ i < n ∧ ∀ x H3, J.yld i H2 x H3 → te [some x, some w] H3 fun u H4 => ∃ b, u = .bl b ∧ if b = true then W (i + 1) H4 else Q (.bl false) H4)
section
variable {X : Cx} {elt iter : Expr} {x y : Str} {w : V} {px gp : Pos} {sc : Scope} {it C : Addr} {s₁ : Shared} {H₁ : Hp} {code : Value} {fp : List Addr} {pn : List (Addr × Obj)} {tn : Nat → Heap → Prop} {J : It} {te : TE} {n : Nat} {W : Nat → Hp → Prop} {Q : VK}
theorem gen_segF {Y : Cx} {env : Env} (hY : Y = gCxF X (.GeneratorExp elt [⟨.Name x px, iter, [], 0⟩] sc gp) it x y s₁ H₁ env fp) (hco : env.scope.isCoroutine = false) (T : Turn X.prog X.w X.K (.Name x px) J fp it tn)
    (pg : PG Y (.Name x px) (gName 0)) (pe : PE Y elt te) (turn : GTurnF w J te n W Q) (hpn : ∀ b ∈ fp, ∀ p ∈ pn, p.1 ≠ b) :
    ∀ (m i : Nat) (s s₀ : Shared), n - i = m → GStF w Y pn tn fp W i s → Seg (model X.prog X.w) X.A.in1.in1 (gEndF w Y pn Q) (gProF w Y pn tn fp W Q) m s₀
      (.compLoop (.GeneratorExp elt [⟨.Name x px, iter, [], 0⟩] sc gp) 0 (.ref it) .none env) ((model X.prog X.w).den (.compLoop (.GeneratorExp elt [⟨.Name x px, iter, [], 0⟩] sc gp) 0 (.ref it) .none env)) [] s := by
  have hA : Y.A = X.A.in1.in1.over (.compLoop (.GeneratorExp elt [⟨.Name x px, iter, [], 0⟩] sc gp) 0 (.ref it) .none env) [] := by rw [hY]
  have hP : Y.prog = X.prog := by rw [hY]
  have hW : Y.w = X.w := by rw [hY]
  have hK : Y.K = X.K := by rw [hY]
  have hC : Y.calm = true := by rw [hY]
  have hE : Y.env = env := by rw [hY]
  have hX : Y.ex = fp := by rw [hY]
  have hN : Y.pn = [] := by rw [hY]
  have hxe : Y.xe = fun _ _ => False := by rw [hY]
  have stat : ∀ {σ' : L2.St} {H' : Hp} {s' : Shared}, Inv Y pn σ' H' s' → (∀ b ∈ fp, H' b = none) → ∀ b ∈ fp, FpOk Y pn H' b := fun {σ' H' s'} I' hn b hb => by
    have hb2 : b ∈ Y.ex := by rw [hX]; exact hb
    refine ⟨hn b hb, (I'.ok.exf b hb2).1, I'.ok.exfs b hb2, .inl hb2, fun y c e => (I'.ok.exf b hb2).2 y c e, fun p hp => ?_⟩
    rw [hN] at hp
    exact hpn b hb p hp
  have runG := fun pins s σ H v u Q => pg.run pins s σ H v u Q
  have runE := fun pins s σ H Q => pe.run pins s σ H Q
  rw [hA, hP, hW, hE, hxe] at runG runE
  intro m
  induction m with
  | zero =>
    rintro i s s₀ hm ⟨H, I, st, nf, wv⟩
    show Seg _ _ _ _ _ s₀ _ ((compTurn _ 0 (.ref it) .none env).onRaise (leaving env)) [] s
    rw [compTurn_gen, Sem.onRaise_eq_wrap]
    refine seg_bind_wrap (wpAny_standAt ?_)
    rcases turn i H wv with ⟨stop, q⟩ | ⟨_, lt, _⟩
    · have td := T.done Y hP hW hK hC i pn s _ H (fun _ _ => False) I (stat I nf) st stop
      rw [hA] at td
      refine seg_bind_wrap (thnF td fun r s2 ⟨e, I2⟩ => ?_)
      rw [e]
      exact seg_end (.ok .next) ⟨rfl, H, I2, q⟩
    · exact absurd lt (by omega)
  | succ m ih =>
    rintro i s s₀ hm ⟨H, I, st, nf, wv⟩
    show Seg _ _ _ _ _ s₀ _ ((compTurn _ 0 (.ref it) .none env).onRaise (leaving env)) [] s
    rw [compTurn_gen, Sem.onRaise_eq_wrap]
    refine seg_bind_wrap (wpAny_standAt ?_)
    rcases turn i H wv with ⟨stop, q⟩ | ⟨go, lt, step⟩
    · have td := T.done Y hP hW hK hC i pn s _ H (fun _ _ => False) I (stat I nf) st stop
      rw [hA] at td
      refine seg_bind_wrap (thnF td fun r s2 ⟨e, I2⟩ => ?_)
      rw [e]
      exact seg_end (.ok .next) ⟨rfl, H, I2, q⟩
    · have ti := T.item Y hP hW hK hC i pn s _ H (fun _ _ => False) I (stat I nf) st go
      rw [hA] at ti
      refine seg_bind_wrap (thnF ti fun r s2 ⟨u, e, h2⟩ => ?_)
      rw [e]
      refine seg_bind_wrap (thnF h2 fun _ s3 ⟨y0, H3, I3, r3, y3, st3, n3⟩ => ?_)
      have I3' := I3.pinned (stat I3 n3) (T.obj _ _ st3)
      refine seg_bind_wrap (thnF (runG _ s3 _ H3 y0 u _ I3' r3 (show gName 0 y0 [none, some w] H3 (fun σ' H' => σ' = [some y0, some w] ∧ H' = H3) from ⟨rfl, rfl⟩)) fun _ s4 ⟨σ4, H4, I4, e4, e5⟩ => ?_)
      subst e4 e5
      refine seg_bind_wrap (wpAny_tests_nil ?_)
      simp only [if_true]
      have yo : ∀ v, yieldOut env v = yieldValue v := fun v => by
        unfold yieldOut
        rw [hco] <;> rfl
      simp only [yo]
      rw [Sem.bind_eq_wrap', Sem.bind_eq_wrap', Sem.wrap_wrap, Sem.wrap_wrap]
      refine seg_wrap (thnF (runE _ s4 _ _ _ I4 (step y0 _ y3)) fun v s5 ⟨yv, H5, I5, r5, b, e5, q5⟩ => ?_)
      subst e5
      obtain rfl : v = Value.bool b := r5
      have pin' : ∀ b ∈ fp, ∀ o, s3.heap.get? b = some o → s5.heap.get? b = some o ∧ H5 b = none := fun b hb o e =>
        let z := I5.pin (b, o) (List.mem_append_right _ (List.mem_append_right _ (mem_pinsAt hb e)))
        ⟨z.1, z.2.1⟩
      have I6 : Inv Y pn [none, some w] H5 s5 := I5.unpinned.weak rfl fun j v e => by
        match j, e with
        | 0, e => cases e
        | 1, e => exact e
        | j + 2, e => cases e
      have done : W (i + 1) H5 → GStF w Y pn tn fp W (i + 1) s5 := fun w5 => ⟨H5, I6, T.keep _ _ _ st3 fun b hb o e => (pin' b hb o e).1, fun b hb => (by
        obtain ⟨o, e, _⟩ := T.obj _ _ st3 b hb
        exact (pin' b hb o e).2), w5⟩
      refine seg_at (seg_yield rfl rfl rfl ⟨b, rfl, fun hb => ?_, fun hb => ?_⟩)
      · rw [if_pos hb] at q5
        exact ⟨i + 1, done q5, fun s' hj => seg_again rfl (ih (i + 1) s' s' (by omega) hj)⟩
      · rw [if_neg (by rw [hb]; exact Bool.false_ne_true)] at q5
        exact ⟨H5, I6, q5⟩
/-- the generator at a, its number g: what it does next -/
def GAtF (w : V) (M : Model) (A : Around) (Y : Cx) (pn : List (Addr × Obj)) (tn : Nat → Heap → Prop) (fp : List Addr) (W : Nat → Hp → Prop) (Q : VK) (g m : Nat) (s : Shared) : Prop :=
  ∃ i gs, GStF w Y pn tn fp W i s ∧ s.gens[g]? = some gs ∧ ∀ s', GStF w Y pn tn fp W i s' → gs.Goes M A (gEndF w Y pn Q) (gProF w Y pn tn fp W Q) m (.send .none) s'
theorem gst_setF {Y : Cx} {i g : Nat} {s : Shared} {gs0 : GenState} (h : GStF w Y pn tn fp W i s) (hy : gs0.bare = true) : GStF w Y pn tn fp W i (s.setGen g gs0) := by
  obtain ⟨H', I, r⟩ := h
  exact ⟨H', inv_setGen I hy, r⟩
theorem fin_setF {Y : Cx} {g : Nat} {s : Shared} {gs0 : GenState} {b : Bool} (h : gFinF w Y pn Q b s) (hy : gs0.bare = true) : gFinF w Y pn Q b (s.setGen g gs0) := by
  obtain ⟨H', I, r⟩ := h
  exact ⟨H', inv_setGen I hy, r⟩
theorem fin_keptF {Y : Cx} {s : Shared} {b : Bool} {h' : Heap} (h : gFinF w Y pn Q b s) (k : ∀ b o, s.heap.get? b = some o → h'.get? b = some o) : gFinF w Y pn Q b { s with heap := h' } := by
  obtain ⟨H', I, r⟩ := h
  exact ⟨H', I.kept (t' := s.toks) k, r⟩
theorem all_runF {Y : Cx} {a : Addr} {g : Nat} {G : Obj} {R : Result → Shared → Prop} (hp : (a, G) ∈ pn) (hG : ∀ h : Heap, h.get? a = some G → h.IsGen a g) (hh : X.A.handled = none) (hd : X.A.depth + 2 < recursionLimit)
    (hR : ∀ b s', gFinF w Y pn Q b s' → R (.ok (.ret (.bool b))) s') :
    ∀ (m : Nat) (s : Shared), GAtF w (model X.prog X.w) X.A.in1.in1 Y pn tn fp W Q g m s → codeAny (model X.prog X.w) X.A (.builtin "all.loop" ⟨[.ref a], []⟩) R s := by
  have turn : ∀ (m : Nat) (s : Shared), GAtF w (model X.prog X.w) X.A.in1.in1 Y pn tn fp W Q g m s →
      (∀ s', (∃ k, m = k + 1 ∧ GAtF w (model X.prog X.w) X.A.in1.in1 Y pn tn fp W Q g k s') → codeAny (model X.prog X.w) X.A (.builtin "all.loop" ⟨[.ref a], []⟩) R s') → codeAny (model X.prog X.w) X.A (.builtin "all.loop" ⟨[.ref a], []⟩) R s := by
    rintro m s ⟨i, gs, st, hgs, goes⟩ next
    obtain ⟨H, I, _⟩ := id st
    have gen : s.heap.IsGen a g := hG _ (I.pin (a, G) (List.mem_append_right _ hp)).1
    have hgl : g + 1 ≤ s.gens.size := (Array.getElem?_eq_some_iff.mp hgs).1
    refine codeAny_builtin (F.entry_all_loop) ?_
    rw [Around.under_plainId (F.plain_all_loop) _]
    show wpAny (model X.prog X.w) X.A.in1 (pyNext (.ref a) >>= _) _ _ s
    refine wpAny_bind (GenW.wpAny_gsz (n := g + 1) hgl (wpAny_pyNext_genexpQ (n := m) (P := fun _ _ s1 => gFinF w Y pn Q true s1) (Y := gProF w Y pn tn fp W Q) hh I.nolimit (by show X.A.depth < recursionLimit; omega) gen hgs (goes _ (gst_setF st rfl)) (fun v s1 gs' hb hv => ?_) (fun s1 hf h' hk => ?_)))
    · intro hgl2
      obtain ⟨b, rfl, yes, no⟩ := hv
      refine wpAny_bind (wpAny_holding (wpAny_truthy_bool ?_))
      refine wpAny_bind (wpAny_letGo ?_)
      cases b with
      | true =>
        obtain ⟨i2, st2, kap⟩ := yes rfl
        simp only [if_true]
        cases m with
        | zero => exact (kap s1 st2).elim
        | succ k => exact wpAny_pure ⟨plainId_quiet (F.plain_all_loop) _, next _ ⟨k, rfl, i2, gs', gst_setF st2 hb, set_at hgl2, fun s' h => kap s' h⟩⟩
      | false =>
        simp only [Bool.false_eq_true, if_false]
        exact wpAny_bind (wpAny_rule (wpAny_pure (hR false _ (fin_setF (no rfl) hb))))
    · intro _
      refine wpAny_bind (wpAny_rule (wpAny_pure ?_))
      exact hR true _ (fin_keptF (fin_setF hf rfl) hk)
  intro m
  induction m with
  | zero => exact fun s h => turn 0 s h fun s' ⟨k, e, _⟩ => (by cases e)
  | succ m ih => exact fun s h => turn (m + 1) s h fun s' ⟨k, e, z⟩ => ih s' (by cases e; exact z)
end
/-- .. in the def: the table of the def's code may have grown ahead of it -/
def tAllF (P : Addr) (j : Nat) (wi : TI) (te : TE) : TE := fun σ H Q => wi σ H fun J H1 => GxR.TabG H1 P ∧ ∃ (w : V) (n : Nat) (W : Nat → Hp → Prop), σ[j]? = some (some w) ∧ (∀ H2, GxR.Tabbed P H1 H2 → W 0 H2) ∧ GTurnF w J te n W Q
theorem gen_denF {w : V} {X : Cx} {elt iter : Expr} {x : Str} {px gp : Pos} {sc : Scope} {it : Addr} {env : Env} {fp : List Addr} {pn : List (Addr × Obj)} {tn : Nat → Heap → Prop} {W : Nat → Hp → Prop} {Q : VK} {Y : Cx} {J : It} {n : Nat} (T : Turn X.prog X.w X.K (.Name x px) J fp it tn)
    (loop : ∀ (s s₀ : Shared), GStF w Y pn tn fp W 0 s → Seg (model X.prog X.w) X.A.in1.in1 (gEndF w Y pn Q) (gProF w Y pn tn fp W Q) n s₀ (.compLoop (.GeneratorExp elt [⟨.Name x px, iter, [], 0⟩] sc gp) 0 (.ref it) .none env)
      ((model X.prog X.w).den (.compLoop (.GeneratorExp elt [⟨.Name x px, iter, [], 0⟩] sc gp) 0 (.ref it) .none env)) [] s) (s s₀ : Shared) (st : GStF w Y pn tn fp W 0 s) :
    Seg (model X.prog X.w) X.A.in1.in1 (gEndF w Y pn Q) (gProF w Y pn tn fp W Q) n s₀ (.compStart (.GeneratorExp elt [⟨.Name x px, iter, [], 0⟩] sc gp) 0 (.ref it) .none env)
      ((model X.prog X.w).den (.compStart (.GeneratorExp elt [⟨.Name x px, iter, [], 0⟩] sc gp) 0 (.ref it) .none env)) [] s := by
  have go := loop s s₀ st
  obtain ⟨H', I, st0, _⟩ := id st
  show Seg _ _ _ _ _ s₀ _ ((compStart _ 0 (.ref it) .none env).onRaise (leaving env)) [] s
  unfold compStart
  rw [Sem.onRaise_eq_wrap]
  show Seg _ _ _ _ _ s₀ _ ((ask >>= _).wrap _ _ _ _) [] s
  refine seg_bind_wrap (wpAny_askSetting ?_)
  split
  · exact seg_again rfl go
  · refine seg_bind_wrap (wpAny_rule ?_)
    show Seg _ _ _ _ _ s₀ _ ((standAt iter.pos >>= _).wrap _ _ _ _) [] s
    refine seg_bind_wrap (wpAny_standAt (seg_bind_wrap ?_))
    exact T.self _ 0 s _ _ st0 (seg_again rfl go)
theorem pe_allF {X : Cx} {c P : Addr} {elt iter : Expr} {x y : Str} {jy : Nat} {px p pos gp : Pos} {scope : Scope} {wi : TI} {te : TE} {k : Nat}
    (hr : Room k X.A) (hg : Gl X "all") (hm : X.mg "all" = none) (hb : bootBuiltins "all" = some (.builtin "all")) (TB : GxR.TabB X.base X.mg c P) (hcode : X.env.code = .ref c) (S : GnF scope x y) (hN : X.N[jy]? = some y) (hky : X.env.kindOf y = some .cell) (hi : PI X (.Name x px) iter wi)
    (hel : ∀ (it cy C : Addr) (s : Shared) (H : Hp) (code : Value) (fp : List Addr), PE (gCxF X (.GeneratorExp elt [⟨.Name x px, iter, [], 0⟩] scope gp) it x y s H (gEnvF X scope y cy C code) fp) elt te)
    (hs : ∀ v, genFold iter X.env v = pure v)
    (he : starEach [.GeneratorExp elt [⟨.Name x px, iter, [], 0⟩] scope gp] X.env = (false, eval (.GeneratorExp elt [⟨.Name x px, iter, [], 0⟩] scope gp) X.env) :: starEach [] X.env := by rfl) :
    PE X (.Call (.Name "all" p) [.GeneratorExp elt [⟨.Name x px, iter, [], 0⟩] scope gp] [] pos) (tAllF P jy wi te) := by
  have dep := hr.dp
  refine ⟨fun pins s σ H Q I h => ?_⟩
  refine wpAny_Call_Name_kw (ld_blt I hg hm hb ?_)
  refine PyProof.Rows.callWith_builtin1 ?_ he (by rfl)
  rw [he]
  obtain ⟨cy, hcy⟩ := I.ok.has y (.inl hky)
  refine Calls.spliced_cons (wpAny_GeneratorExp_make (cl := [(y, cy)]) S.co ?_ S.cell S.dot S.kind (by omega) ?_ hs)
  · rw [closure_ok (fun z hz e => by rw [S.free z hz e]; exact ⟨cy, hcy⟩), S.clo, hcy] <;> rfl
  refine thn (hi.run pins s σ H _ I h) fun xv s1 hx => thn hx fun itv s2 ⟨it, fp, tn, J, H2, e, I2, T, st2, f2, TG, w, n, W, hw0, w0, turn⟩ => ⟨I2.nolimit, ?_⟩
  subst e
  obtain ⟨ps, hP, ht⟩ := TG
  have hPs : s2.heap.get? P = some { cls := .none, data := .fields ps } := I2.hok P _ hP
  have cd : PySem.W.CodeHd s2.heap c P := TB.code.keeps I2.bk
  have fpP : ∀ b ∈ fp, b ≠ P := fun b hb z => by
    have q := (f2 b hb).1
    rw [z, hP] at q
    cases q
  have cont : ∀ (code : Value) (h3 : Heap) (tk : Nat) (ps' : Array Value), Heap.ExtBut P s2.heap h3 → s2.heap.objs.size ≤ h3.objs.size → h3.get? P = some { cls := .none, data := .fields ps' } → (∃ more, ps' = ps ++ more) → TriplesOk ps'.toList →
      wpAny (model X.prog X.w) X.A (builtinsFor X.env.globals X.env.builtins) (fun bi s₄ => ∀ h', h'.Ns s₄.heap.objs.size (fun y => if y = ".0" then some (.ref it) else none) →
        Heap.SameBut s₄.heap.objs.size (s₄.heap.push { cls := .type "frame", data := .dict #[] }) h' → wpAny (model X.prog X.w) X.A (spliced (backTo pos (starEach [] X.env))) (fun us s' => wpAny (model X.prog X.w) X.A (call (.builtin "all") (.ref h'.objs.size :: us)) (EP X pins σ Q) X.xe s') X.xe
          { s₄ with gens := s₄.gens.push (.fresh (.compStart (.GeneratorExp elt [⟨.Name x px, iter, [], 0⟩] scope gp) 0 (.ref it) .none (genEnv scope [(y, cy)] s₄.heap.objs.size code bi X.env))), toks := s₄.toks + 1 + 1 + 1,
                    heap := h'.push { cls := .type "generator", data := .fields #[.int s₄.gens.size 0, .str "<genexpr>" (s₄.toks + 1), .str (X.env.qual ++ "<genexpr>") (s₄.toks + 1 + 1)] } }) X.xe { s2 with heap := h3, toks := tk } := by
    intro code h3 tk ps' hx hsz hP3 hmore ht3
    obtain ⟨bm, ob, e1, e2, e3, e4, e5, e6, e7, e8⟩ := TB.bm
    have keep3 : ∀ b u, b ≠ P → s2.heap.get? b = some u → h3.get? b = some u := fun b u hb e => hx b u hb e
    refine wpAny_builtinsFor (m := X.mg) (by rw [I2.ok.glob]; exact (I2.mod.glob.keeps I2.bk).extBut hx TB.gP) e1 e2 (keep3 _ _ e4 (I2.bk _ _ e5)) e6 e7 e8 ?_
    obtain ⟨more, em⟩ := hmore
    have I4 := GxR.inv_tab (more := more) (h' := h3) (g' := s2.gens) (d' := s2.drawn) (t' := tk) I2 hP (fun b u hb e => keep3 b u hb e) (by rw [← em]; exact hP3) I2.bare
    generalize hs4 : ({ s2 with heap := h3, toks := tk } : Shared) = s4 at I4 ⊢
    have h4 : s4.heap = h3 := by rw [← hs4]
    have tabbed : GxR.Tabbed P H2 (upd H2 P (.tbl (ps ++ more))) := ⟨⟨_, upd_same, by rw [← em]; exact ht3⟩, fun b hb => upd_ne hb⟩
    generalize upd H2 P (.tbl (ps ++ more)) = H4 at I4 tabbed
    have lt4 : ∀ b ∈ fp, b < s4.heap.objs.size := fun b hb => by
      obtain ⟨o, e, _⟩ := T.obj _ _ st2 b hb
      have z := Heap.lt_size e
      rw [h4]
      exact Nat.lt_of_lt_of_le z hsz
    have f4 : ∀ b ∈ fp, FpOk X pins H4 b ∧ b < s4.heap.objs.size := fun b hb => ⟨⟨(tabbed.2 b (fpP b hb)).trans (f2 b hb).1, (f2 b hb).2⟩, lt4 b hb⟩
    intro h' hn' hs'
    have sz' : h'.objs.size = s4.heap.objs.size + 1 := by rw [hs'.1, Heap.size_push]
    have kp : ∀ b o, s4.heap.get? b = some o → h'.get? b = some o := fun b o e => hs'.extBut b o (Nat.ne_of_lt (Heap.lt_size e)) (Heap.get?_push_of_some _ e)
    generalize hG : ({ cls := .type "generator", data := .fields #[.int s4.gens.size 0, .str "<genexpr>" (s4.toks + 1), .str (X.env.qual ++ "<genexpr>") (s4.toks + 1 + 1)] } : Obj) = G
    have hw4 : ∃ u, RelV w u ∧ s4.heap.IsCell cy (some u) := by
      obtain ⟨m, _, lk⟩ := I4.loc
      obtain ⟨u, ru, k⟩ := lk jy y w hN hw0 (.inr (.inl hky))
      rcases k with ⟨k, _⟩ | ⟨_, c', e', hc'⟩
      · rw [hky] at k
        cases k
      · rw [hcy] at e'
        cases e'
        exact ⟨u, ru, hc'⟩
    have IG := gen_invF (elt := elt) (cs := [⟨.Name x px, iter, [], 0⟩]) (sc := scope) (gp := gp) (it := it) (code := code) (G := G) (g' := s4.gens.push (.fresh (.compStart (.GeneratorExp elt [⟨.Name x px, iter, [], 0⟩] scope gp) 0 (.ref it) .none (gEnvF X scope y cy s4.heap.objs.size code)))) (tk := s4.toks + 1 + 1 + 1)
      I4 S hcy hw4 hr.hd f4 hn' sz' kp (I4.bare.push rfl) (fun v z => by rw [← hG] at z; cases z) (by rw [← hG] <;> rfl)
    have st5 : tn 0 (h'.push G) := T.keep _ _ _ st2 fun b hb o e => Heap.get?_push_of_some _ (kp b o (by rw [h4]; exact keep3 b o (fpP b hb) e))
    refine Calls.spliced_nil ?_
    have isG : ∀ hp : Heap, hp.get? h'.objs.size = some G → hp.IsGen h'.objs.size s4.gens.size := fun hp e => ⟨G, _, _, e, by rw [← hG], by rw [← hG], by rw [← hG]⟩
    have hpn : ∀ b ∈ fp, ∀ p ∈ [(h'.objs.size, G)], p.1 ≠ b := fun b hb p hp z => by
      obtain rfl := List.mem_singleton.mp hp
      have q : b < s4.heap.objs.size := lt4 b hb
      have z2 : h'.objs.size = b := z
      rw [← z2, sz'] at q
      exact Nat.lt_irrefl _ (Nat.lt_of_succ_lt q)
    have loop := gen_segF (elt := elt) (iter := iter) (px := px) (gp := gp) (sc := scope) (Q := Q) (tn := tn) (n := n) rfl S.co T (pg_name (X := gCxF X (.GeneratorExp elt [⟨.Name x px, iter, [], 0⟩] scope gp) it x y s4 H4 (gEnvF X scope y cy s4.heap.objs.size code) fp) (List.nodup_cons.mpr ⟨fun z => S.ne (List.mem_singleton.mp z), List.nodup_cons.mpr ⟨List.not_mem_nil, List.nodup_nil⟩⟩) rfl (.inl S.loc) (.inr S.loc))
      (hel it cy s4.heap.objs.size s4 H4 code fp) turn hpn
    refine call_function_tree (F.kind_all) (F.plain_all) (F.entry_all) (F.args_all1 _) ?_
    unfold Builtin.«all»
    refine wpAny_bind (m := oneArg "all" _) (wpAny_pure ?_)
    refine wpAny_bind (wpAny_pyIter_gen (isG _ (IG.pin (h'.objs.size, G) (List.mem_singleton.mpr rfl)).1) ?_)
    refine wpAny_pure ⟨plainId_quiet (F.plain_all_loop) _, all_runF (pn := [(h'.objs.size, G)]) (tn := tn) (fp := fp) (W := W) (Q := Q) (List.mem_singleton.mpr rfl) isG hr.hd (by omega) (fun b s' hf => ?_) n _ ⟨0, _, ⟨H4, IG, st5, fun b hb => (f4 b hb).1.1, w0 H4 tabbed⟩, Array.getElem?_push_size .., fun s' hst => ⟨rfl, gen_denF T (fun s s₀ q => loop n 0 s s₀ (Nat.sub_zero n) q) s' s' hst⟩⟩⟩
    obtain ⟨H', IY, q⟩ := hf
    have J := I4.call' (ch := fp) IY.os IY.base IY.hok IY.bare fun b hb => ⟨(f4 b hb).1.2.2.2.1, (f4 b hb).1.2.1, (f4 b hb).1.2.2.2.2.1, (f4 b hb).1.2.2.2.2.2⟩
    exact ⟨.bl b, H', J, rfl, q⟩
  cases hf : codeAmong gp ps.toList with
  | none =>
    refine wpAny_genexprCodeX hcode (cd.code hPs ht) (cd.tab hPs) hf fun c' h' tk hx hge hlt hco' _ htab' _ => ?_
    obtain ⟨o1, vs, f1, tf, fl, tg, inF, tx, tt, op, _, _, _, _, _, _, _, _, _, htr, _⟩ := hco'
    exact cont _ h' tk _ hx (Nat.le_trans hge (Nat.le_of_lt hlt)) htab'.2 ⟨_, rfl⟩ htr
  | some cv =>
    refine wpAny_genexprCode_hit hcode (cd.code hPs ht) hf ?_
    exact cont cv s2.heap s2.toks ps (Heap.ExtBut.refl _ _) (Nat.le_refl _) hPs ⟨#[], by simp⟩ ht
end KR
/-! ### fractions as numbers of the field -/
namespace KR
open PySem PySem.Spec PyProof.Rows L2
theorem Same.tup {K : PySem.W.Frag} {H H' : Hp} {a : Addr} {xs : List V} (e : Same H H') (h : SqT K H a xs) : SqT K H' a xs :=
  h.elim (fun h => .inl (h.elim (fun h => .inl (e _ _ h)) fun ⟨o, h⟩ => .inr ⟨o, e _ _ h⟩)) fun h => .inr h
theorem sqT_ty {K : PySem.W.Frag} {H : Hp} {a : Addr} {xs : List V} (h : SqT K H a xs) : TyX K H (.ref a) (.type "tuple") := by
  rcases h with (h | ⟨o, h⟩) | ⟨o, its, n, h1, h2, _⟩
  · exact .base (.tup h)
  · exact .fTuple h
  · exact .kTuple h1 h2
theorem sqT_frL {K : PySem.W.Frag} {H H' : Hp} {a p : Addr} {xs ys : List V} (h : SqT K H a xs) (hp : H p = some (.lst ys)) (f : Fr p H H') : SqT K H' a xs := by
  rcases h with (h | ⟨o, h⟩) | h
  · exact .inl (.inl (f _ _ (ne_of h hp (by intro z; cases z)) h))
  · exact .inl (.inr ⟨o, f _ _ (ne_of h hp (by intro z; cases z)) h⟩)
  · exact .inr h
theorem sqT_fr {K : PySem.W.Frag} {H H' : Hp} {a p : Addr} {n : Nat} {xs : List V} (h : SqT K H a xs) (B : BoxAt H p n) (f : Fr p H H') : SqT K H' a xs := by
  obtain ⟨i, j, k, hp, _⟩ := B
  exact sqT_frL h hp f
theorem fr_upd {p : Addr} {H : Hp} {o : HO} : Fr p H (upd H p o) := Fr.put Fr.refl
theorem BoxAt.upd {H : Hp} {p D : Addr} {n : Nat} {o : HO} (h : BoxAt H p n) (ne : D ≠ p) : BoxAt (L2.upd H D o) p n := by
  obtain ⟨a, b, c, h1, h2⟩ := h
  exact ⟨a, b, c, by rw [upd_ne ne.symm]; exact h1, h2⟩
def rq (t b : Int) : Rat := (t : Rat) / (b : Rat)
theorem rat_nd (q : Rat) : (q.num : Rat) / ((q.den : Int) : Rat) = q := by rw [← Rat.divInt_eq_div, Rat.num_divInt_den]
theorem den_ne (q : Rat) : ((q.den : Int) : Rat) ≠ 0 := by
  intro h
  have k := q.den_pos
  have h2 : ((q.den : Int) : Rat) = ((0 : Int) : Rat) := h
  have e := Rat.intCast_inj.mp h2
  omega
theorem den_ne' (q : Rat) : (q.den : Int) ≠ 0 := by
  have k := q.den_pos
  omega
theorem int_ne {b : Int} (h : b ≠ 0) : (b : Rat) ≠ 0 := fun z => h (Rat.intCast_inj.mp (z.trans (by rfl : (0 : Rat) = ((0 : Int) : Rat))))
theorem rat_low (q : Rat) : IsLow q.num q.den := ⟨by have k := q.den_pos; omega, by rw [Int.natAbs_natCast]; exact q.reduced⟩
theorem rq_cross {t b : Int} (hb : b ≠ 0) : t * ((rq t b).den : Int) = (rq t b).num * b := by
  have e := rat_nd (rq t b)
  have h1 := den_ne (rq t b)
  have h2 := int_ne hb
  refine Rat.intCast_inj.mp ?_
  rw [Rat.intCast_mul, Rat.intCast_mul]
  generalize ((rq t b).den : Int) = d at *
  generalize (rq t b).num = n at *
  unfold rq at e
  grind
theorem rq_low {t b : Int} (hb : b ≠ 0) : low t b = ((rq t b).num, ((rq t b).den : Int)) := low_eq hb (rat_low _) (rq_cross hb)
theorem cast_pos {b : Int} (h : 0 < b) : (0 : Rat) < (b : Rat) := (Rat.intCast_lt_intCast (a := 0)).mpr h
theorem cast_nn {b : Int} (h : 0 ≤ b) : (0 : Rat) ≤ (b : Rat) := (Rat.intCast_le_intCast (a := 0)).mpr h
theorem le_div {a b c : Rat} (h : 0 < c) (k : a * c ≤ b) : a ≤ b / c := Rat.not_lt.mp fun z => absurd ((Rat.div_lt_iff h).mp z) (Rat.not_lt.mpr k)
theorem div_le {a b c : Rat} (h : 0 < c) (k : b ≤ a * c) : b / c ≤ a := Rat.not_lt.mp fun z => absurd ((Rat.lt_div_iff h).mp z) (Rat.not_lt.mpr k)
theorem rq_nn {t b : Int} (ht : 0 ≤ t) (hb : 0 < b) : 0 ≤ rq t b := by
  have h1 := cast_nn ht
  have h2 := cast_pos hb
  unfold rq
  generalize (t : Rat) = x at *
  generalize (b : Rat) = y at *
  exact le_div h2 (by grind)
theorem rq_pos {t b : Int} (ht : 0 < t) (hb : 0 < b) : 0 < rq t b := by
  have h1 := cast_pos ht
  have h2 := cast_pos hb
  unfold rq
  generalize (t : Rat) = x at *
  generalize (b : Rat) = y at *
  exact (Rat.lt_div_iff h2).mpr (by grind)
theorem rq_lt_one {t b : Int} (ht : t < b) (hb : 0 < b) : rq t b < 1 := by
  have h1 := Rat.intCast_lt_intCast.mpr ht
  have h2 := cast_pos hb
  unfold rq
  generalize (t : Rat) = x at *
  generalize (b : Rat) = y at *
  exact (Rat.div_lt_iff h2).mpr (by grind)
theorem rq_le_one {t b : Int} (ht : t ≤ b) (hb : 0 < b) : rq t b ≤ 1 := by
  have h1 := Rat.intCast_le_intCast.mpr ht
  have h2 := cast_pos hb
  unfold rq
  generalize (t : Rat) = x at *
  generalize (b : Rat) = y at *
  exact div_le h2 (by grind)
theorem rq_add (p q : Rat) : rq (p.num * q.den + q.num * p.den) (p.den * q.den) = p + q := by
  have e1 := rat_nd p
  have e2 := rat_nd q
  have h1 := den_ne p
  have h2 := den_ne q
  unfold rq
  rw [Rat.intCast_add, Rat.intCast_mul, Rat.intCast_mul, Rat.intCast_mul]
  generalize ((p.den : Int) : Rat) = d at *
  generalize (p.num : Rat) = n at *
  generalize ((q.den : Int) : Rat) = d2 at *
  generalize (q.num : Rat) = n2 at *
  grind
theorem rq_sub (p q : Rat) : rq (p.num * q.den - q.num * p.den) (p.den * q.den) = p - q := by
  have e1 := rat_nd p
  have e2 := rat_nd q
  have h1 := den_ne p
  have h2 := den_ne q
  unfold rq
  rw [Rat.intCast_sub, Rat.intCast_mul, Rat.intCast_mul, Rat.intCast_mul]
  generalize ((p.den : Int) : Rat) = d at *
  generalize (p.num : Rat) = n at *
  generalize ((q.den : Int) : Rat) = d2 at *
  generalize (q.num : Rat) = n2 at *
  grind
theorem rq_mul (p q : Rat) : rq (p.num * q.num) (p.den * q.den) = p * q := by
  have e1 := rat_nd p
  have e2 := rat_nd q
  have h1 := den_ne p
  have h2 := den_ne q
  unfold rq
  rw [Rat.intCast_mul, Rat.intCast_mul]
  generalize ((p.den : Int) : Rat) = d at *
  generalize (p.num : Rat) = n at *
  generalize ((q.den : Int) : Rat) = d2 at *
  generalize (q.num : Rat) = n2 at *
  grind
theorem rq_div (p q : Rat) : rq (p.num * q.den) (p.den * q.num) = p / q := by
  have e1 := rat_nd p
  have e2 := rat_nd q
  have h1 := den_ne p
  have h2 := den_ne q
  unfold rq
  rw [Rat.intCast_mul, Rat.intCast_mul]
  generalize ((p.den : Int) : Rat) = d at *
  generalize (p.num : Rat) = n at *
  generalize ((q.den : Int) : Rat) = d2 at *
  generalize (q.num : Rat) = n2 at *
  grind
theorem rq_self (q : Rat) : rq q.num q.den = q := rat_nd q
theorem num_ne {q : Rat} (h : q ≠ 0) : q.num ≠ 0 := fun z => h (by
  have e := rat_nd q
  rw [z] at e
  rw [← e]
  grind)
theorem num_zero {q : Rat} : q.num = 0 ↔ q = 0 := ⟨fun z => Classical.byContradiction fun y => num_ne y z, fun z => by rw [z] <;> rfl⟩
theorem num_pos {q : Rat} : 0 < q.num ↔ 0 < q := by
  have k := Rat.lt_iff 0 q
  simp at k
  exact k.symm
theorem num_nn {q : Rat} : 0 ≤ q.num ↔ 0 ≤ q := Rat.num_nonneg
theorem lt_cross (p q : Rat) : (p.num * q.den < q.num * p.den) ↔ p < q := (Rat.lt_iff p q).symm
/-- top and bottom fit so many bits -/
def Sz (n : Nat) (q : Rat) : Prop := q.num.natAbs < 2 ^ n ∧ (q.den : Int).natAbs < 2 ^ n
theorem Sz.up {n m : Nat} {q : Rat} (h : Sz n q) (le : n ≤ m) : Sz m q := ⟨lt_up h.1 le, lt_up h.2 le⟩
theorem sz_rq {t b : Int} {n : Nat} (hb : b ≠ 0) (h1 : t.natAbs < 2 ^ n) (h2 : b.natAbs < 2 ^ n) : Sz n (rq t b) := by
  have k := low_lt h1 h2
  rw [rq_low hb] at k
  exact k
theorem Sz.int {z : Int} {n : Nat} (h : z.natAbs < 2 ^ n) (h0 : 0 < n) : Sz n (z : Rat) := ⟨h, Nat.lt_of_lt_of_le (by decide : (1 : Nat) < 2 ^ 1) (Nat.pow_le_pow_right (by decide) h0)⟩
theorem Sz.neg {n : Nat} {q : Rat} (h : Sz n q) : Sz n (-q) := ⟨by
  show (-q.num).natAbs < 2 ^ n
  rw [Int.natAbs_neg]
  exact h.1, h.2⟩
/-- a fraction that is read -/
def FrQ (K : PySem.W.Frag) (H : Hp) (x : Addr) (q : Rat) : Prop := SqT K H x [.int q.num, .int (q.den : Int)]
theorem FrQ.same {K : PySem.W.Frag} {H H' : Hp} {x : Addr} {q : Rat} (h : FrQ K H x q) (s : Same H H') : FrQ K H' x q := Same.tup s h
theorem FrQ.fr {K : PySem.W.Frag} {H H' : Hp} {x p : Addr} {n : Nat} {q : Rat} (h : FrQ K H x q) (B : BoxAt H p n) (f : Fr p H H') : FrQ K H' x q := sqT_fr h B f
theorem FrQ.of {K : PySem.W.Frag} {H : Hp} {x : Addr} {q : Rat} (h : H x = some (.tup [.int q.num, .int (q.den : Int)])) : FrQ K H x q := SqT.of h
theorem FrQ.int {K : PySem.W.Frag} {H : Hp} {x : Addr} {z : Int} (h : H x = some (.tup [.int z, .int 1])) : FrQ K H x (z : Rat) := SqT.of h
/-- a juice that is read -/
def JuQ (K : PySem.W.Frag) (H : Hp) (x : Addr) (s w : Rat) : Prop := ∃ a b, SqT K H x [.ref a, .ref b] ∧ FrQ K H a s ∧ FrQ K H b w
theorem JuQ.same {K : PySem.W.Frag} {H H' : Hp} {x : Addr} {s w : Rat} (h : JuQ K H x s w) (e : Same H H') : JuQ K H' x s w := by
  obtain ⟨a, b, h1, h2, h3⟩ := h
  exact ⟨a, b, Same.tup e h1, h2.same e, h3.same e⟩
theorem JuQ.fr {K : PySem.W.Frag} {H H' : Hp} {x p : Addr} {n : Nat} {s w : Rat} (h : JuQ K H x s w) (B : BoxAt H p n) (f : Fr p H H') : JuQ K H' x s w := by
  obtain ⟨a, b, h1, h2, h3⟩ := h
  exact ⟨a, b, sqT_fr h1 B f, h2.fr B f, h3.fr B f⟩
theorem JuQ.new {K : PySem.W.Frag} {H : Hp} {x a b : Addr} {s w : Rat} (h : H x = some (.tup [.ref a, .ref b])) (ha : FrQ K H a s) (hb : FrQ K H b w) : JuQ K H x s w := ⟨a, b, SqT.of h, ha, hb⟩
/-- a new pair of two numbers' lowest terms -/
def sp_lowQ (K : PySem.W.Frag) : Sp := fun vs H Q _ => ∃ (t b : Int) (n : Nat), vs = [.int t, .int b] ∧ b ≠ 0 ∧ t.natAbs < 2 ^ n ∧ b.natAbs < 2 ^ n ∧ n ≤ 2000 ∧ ∀ p H', Same H H' → H p = none → FrQ K H' p (rq t b) → Sz n (rq t b) → Q (.ref p) H'
theorem lowQ {K : PySem.W.Frag} {vs : List V} {H : Hp} {Q : VK} {E : XK} (h : sp_lowQ K vs H Q E) : sp_low vs H Q E := by
  obtain ⟨t, b, n, e, hb, h1, h2, hn, q⟩ := h
  refine ⟨t, b, e, hb, lt_up h1 hn, lt_up h2 hn, fun p H' s hp h' => q p H' s hp ?_ (sz_rq hb h1 h2)⟩
  rw [rq_low hb] at h'
  exact .of h'
/-- two fractions in, one out -/
def sp_q2 (K : PySem.W.Frag) (f : Rat → Rat → Rat) (ok : Rat → Rat → Prop) : Sp := fun vs H Q _ => ∃ (x y : Addr) (p q : Rat) (m n : Nat), vs = [.ref x, .ref y] ∧ FrQ K H x p ∧ FrQ K H y q ∧ Sz m p ∧ Sz n q ∧ m + n ≤ 1900 ∧ ok p q ∧
  ∀ z H', Same H H' → H z = none → FrQ K H' z (f p q) → Sz (m + n + 1) (f p q) → Q (.ref z) H'
def sp_less (K : PySem.W.Frag) : Sp := fun vs H Q _ => ∃ (x y : Addr) (p q : Rat), vs = [.ref x, .ref y] ∧ FrQ K H x p ∧ FrQ K H y q ∧ Sz 1900 p ∧ Sz 1900 q ∧ Q (.bl (decide (p < q))) H
theorem mulZ {i j : Int} {a b : Nat} (ha : i.natAbs < 2 ^ a) (hb : j.natAbs < 2 ^ b) (h : a + b ≤ 100000) : IntMulOk i j :=
  mulW (lt_up ha (by omega : a ≤ a + 1)) (lt_up hb (by omega : b ≤ b + 1)) (by omega) (by omega) (by omega)
/-! data of the law's own making, tuples of the written part among them -/
inductive Dk (K : PySem.W.Frag) (H : Hp) : Nat → V → PyData → Prop
  | non (n : Nat) : Dk K H (n + 1) .non .none
  | bl (n : Nat) (b : Bool) : Dk K H (n + 1) (.bl b) (.bool b)
  | int (n : Nat) (i : Int) : Dk K H (n + 1) (.int i) (.int i)
  | str (n : Nat) (x : Str) (ok : PyData.canLay0 (.str x) = true) : Dk K H (n + 1) (.str x) (.str x)
  | lst {n : Nat} {a : Addr} {xs : List V} {ds : List PyData} : H a = some (.lst xs) → xs.length = ds.length → xs.length ≤ 100000 → (∀ (i : Nat) (x : V) (d : PyData), xs[i]? = some x → ds[i]? = some d → Dk K H n x d) → Dk K H (n + 1) (.ref a) (.list ds)
  | tup {n : Nat} {a : Addr} {xs : List V} {ds : List PyData} : SqT K H a xs → xs.length = ds.length → xs.length ≤ 100000 → (∀ (i : Nat) (x : V) (d : PyData), xs[i]? = some x → ds[i]? = some d → Dk K H n x d) → Dk K H (n + 1) (.ref a) (.tuple ds)
theorem Dk.same {K : PySem.W.Frag} {H H' : Hp} (s : Same H H') : ∀ {n : Nat} {v : V} {d : PyData}, Dk K H n v d → Dk K H' n v d := by
  intro n v d h
  induction h with
  | non n => exact .non n
  | bl n b => exact .bl n b
  | int n i => exact .int n i
  | str n x ok => exact .str n x ok
  | lst h1 h2 h3 _ ih => exact .lst (s _ _ h1) h2 h3 ih
  | tup h1 h2 h3 _ ih => exact .tup (Same.tup s h1) h2 h3 ih
theorem Dk.up {K : PySem.W.Frag} {H : Hp} {n m : Nat} {v : V} {d : PyData} (h : Dk K H n v d) : n ≤ m → Dk K H m v d := by
  intro le
  induction h generalizing m with
  | non n => obtain ⟨k, rfl⟩ : ∃ k, m = k + 1 := ⟨m - 1, by omega⟩; exact .non k
  | bl n b => obtain ⟨k, rfl⟩ : ∃ k, m = k + 1 := ⟨m - 1, by omega⟩; exact .bl k b
  | int n i => obtain ⟨k, rfl⟩ : ∃ k, m = k + 1 := ⟨m - 1, by omega⟩; exact .int k i
  | str n x ok => obtain ⟨k, rfl⟩ : ∃ k, m = k + 1 := ⟨m - 1, by omega⟩; exact .str k x ok
  | lst h1 h2 h3 _ ih => obtain ⟨k, rfl⟩ : ∃ k, m = k + 1 := ⟨m - 1, by omega⟩; exact .lst h1 h2 h3 fun i x d a b => ih i x d a b (by omega)
  | tup h1 h2 h3 _ ih => obtain ⟨k, rfl⟩ : ∃ k, m = k + 1 := ⟨m - 1, by omega⟩; exact .tup h1 h2 h3 fun i x d a b => ih i x d a b (by omega)
/-- rows of data beside their values -/
def DkAll (K : PySem.W.Frag) (H : Hp) (n : Nat) (xs : List V) (ds : List PyData) : Prop := xs.length = ds.length ∧ ∀ (i : Nat) (x : V) (d : PyData), xs[i]? = some x → ds[i]? = some d → Dk K H n x d
theorem DkAll.nil {K : PySem.W.Frag} {H : Hp} {n : Nat} : DkAll K H n [] [] := ⟨rfl, fun i x d h => by simp at h⟩
theorem DkAll.cons {K : PySem.W.Frag} {H : Hp} {n : Nat} {x : V} {d : PyData} {xs : List V} {ds : List PyData} (h : Dk K H n x d) (t : DkAll K H n xs ds) : DkAll K H n (x :: xs) (d :: ds) :=
  ⟨by rw [List.length_cons, List.length_cons, t.1], fun i u v hu hv => match i, hu, hv with
    | 0, hu, hv => by cases hu; cases hv; exact h
    | i + 1, hu, hv => t.2 i u v hu hv⟩
theorem DkAll.tup {K : PySem.W.Frag} {H : Hp} {n : Nat} {xs : List V} {ds : List PyData} {a : Addr} (t : DkAll K H n xs ds) (h : SqT K H a xs) (z : Nat.ble xs.length 100000 = true := by rfl) : Dk K H (n + 1) (.ref a) (.tuple ds) := .tup h t.1 (Nat.le_of_ble_eq_true z) t.2
theorem DkAll.lst {K : PySem.W.Frag} {H : Hp} {n : Nat} {xs : List V} {ds : List PyData} {a : Addr} (t : DkAll K H n xs ds) (h : H a = some (.lst xs)) (z : Nat.ble xs.length 100000 = true := by rfl) : Dk K H (n + 1) (.ref a) (.list ds) := .lst h t.1 (Nat.le_of_ble_eq_true z) t.2
/-- the data of a fraction, of a juice -/
def dq (q : Rat) : PyData := .tuple [.int q.num, .int (q.den : Int)]
def dj (s w : Rat) : PyData := .tuple [dq s, dq w]
theorem FrQ.dk {K : PySem.W.Frag} {H : Hp} {x : Addr} {q : Rat} (h : FrQ K H x q) (n : Nat := 0) : Dk K H (n + 2) (.ref x) (dq q) := DkAll.tup (.cons (.int _ _) (.cons (.int _ _) .nil)) h
theorem JuQ.dk {K : PySem.W.Frag} {H : Hp} {x : Addr} {s w : Rat} (h : JuQ K H x s w) (n : Nat := 0) : Dk K H (n + 3) (.ref x) (dj s w) := by
  obtain ⟨a, b, h1, h2, h3⟩ := h
  exact DkAll.tup (.cons (h2.dk n) (.cons (h3.dk n) .nil)) h1
/-- forty figures -/
theorem b133 {n : Nat} (h : n < 10 ^ 40) : n < 2 ^ 133 := Nat.lt_trans h (by decide)
/-- a fraction or None -/
def OQ (K : PySem.W.Frag) (H : Hp) (v : V) : Option Rat → Prop
  | none => v = .non
  | some q => ∃ x, v = .ref x ∧ FrQ K H x q
theorem OQ.same {K : PySem.W.Frag} {H H' : Hp} {v : V} {o : Option Rat} (h : OQ K H v o) (e : Same H H') : OQ K H' v o := by
  cases o with
  | none => exact h
  | some q =>
    obtain ⟨x, e1, h1⟩ := h
    exact ⟨x, e1, h1.same e⟩
def oq : Option Rat → PyData
  | none => .none
  | some q => dq q
theorem OQ.dk {K : PySem.W.Frag} {H : Hp} {v : V} {o : Option Rat} (h : OQ K H v o) (n : Nat := 0) : Dk K H (n + 2) v (oq o) := by
  cases o with
  | none => rw [show v = .non from h]; exact .non _
  | some q =>
    obtain ⟨x, e1, h1⟩ := h
    rw [e1]
    exact h1.dk n
/-- the strength of a juice -/
def stren (s w : Rat) : Option Rat := if s + w = 0 then none else some (s / (s + w))
theorem stren_part {s w t : Rat} (h : t ≠ 0) : stren (s * t) (w * t) = stren s w := by
  unfold stren
  by_cases c : s + w = 0
  · rw [if_pos c, if_pos (by grind)]
  · rw [if_neg c, if_neg (by grind)]
    congr 1
    grind
theorem stren_more {s w t : Rat} (h : 0 ≤ t) : stren (s + s * t) (w + w * t) = stren s w := by
  have e1 : s + s * t = s * (1 + t) := by grind
  have e2 : w + w * t = w * (1 + t) := by grind
  rw [e1, e2]
  exact stren_part (by grind)
theorem strength_between {s w x y : Rat} (hs : 0 ≤ s) (hw : 0 ≤ w) (hx : 0 ≤ x) (hy : 0 ≤ y) (h1 : s + w ≠ 0) (h2 : x + y ≠ 0) (le : s / (s + w) ≤ x / (x + y)) :
    s / (s + w) ≤ (s + x) / (s + x + (w + y)) ∧ (s + x) / (s + x + (w + y)) ≤ x / (x + y) := by
  have p1 : 0 < s + w := by grind
  have p2 : 0 < x + y := by grind
  have p3 : 0 < s + x + (w + y) := by grind
  generalize ea : s / (s + w) = a at *
  generalize eb : x / (x + y) = b at *
  have sa : s = a * (s + w) := by grind
  have xb : x = b * (x + y) := by grind
  have d : 0 ≤ b - a := by grind
  constructor
  · refine le_div p3 ?_
    have k := Rat.mul_nonneg d (Rat.le_of_lt p2)
    grind
  · refine div_le p3 ?_
    have k := Rat.mul_nonneg d (Rat.le_of_lt p1)
    grind
theorem is_zero {q : Rat} : decide (q.num = 0 ∧ (q.den : Int) = 1) = decide (q = 0) := by
  rw [decide_eq_decide]
  constructor
  · rintro ⟨h, _⟩
    exact num_zero.mp h
  · rintro rfl
    exact ⟨rfl, rfl⟩
/-- boiling -/
def wat (s u : Rat) : Rat := s / u - s
def boil (s w : Rat) (f : Int) (u h : Rat) : Rat := if wat s u < w then (if w - f * h < wat s u then wat s u else w - f * h) else w
theorem rq_wat (s u : Rat) (hu : u ≠ 0) : rq (s.num * ((u.den : Int) - u.num)) (s.den * u.num) = wat s u := by
  have e1 := rat_nd s
  have e2 := rat_nd u
  have h1 := den_ne s
  have h2 := den_ne u
  have h3 := int_ne (num_ne hu)
  unfold rq wat
  rw [Rat.intCast_mul, Rat.intCast_mul, Rat.intCast_sub]
  generalize ((s.den : Int) : Rat) = d at *
  generalize (s.num : Rat) = n at *
  generalize ((u.den : Int) : Rat) = d2 at *
  generalize (u.num : Rat) = n2 at *
  rw [← e1, ← e2]
  grind
theorem Sz.add {m n : Nat} {p q : Rat} (h : Sz m p) (k : Sz n q) : Sz (m + n + 1) (p + q) := by
  rw [← rq_add]
  exact sz_rq (Int.mul_ne_zero (den_ne' p) (den_ne' q)) (lt_up (add_lt (wide_lt h.1 k.2) (lt_up (wide_lt k.1 h.2) (by omega : n + m ≤ m + n))) (by omega)) (lt_up (wide_lt h.2 k.2) (by omega))
theorem Sz.sub {m n : Nat} {p q : Rat} (h : Sz m p) (k : Sz n q) : Sz (m + n + 1) (p - q) := by
  rw [← rq_sub]
  exact sz_rq (Int.mul_ne_zero (den_ne' p) (den_ne' q)) (lt_up (sub_lt (wide_lt h.1 k.2) (lt_up (wide_lt k.1 h.2) (by omega : n + m ≤ m + n))) (by omega)) (lt_up (wide_lt h.2 k.2) (by omega))
theorem Sz.mul {m n : Nat} {p q : Rat} (h : Sz m p) (k : Sz n q) : Sz (m + n) (p * q) := by
  rw [← rq_mul]
  exact sz_rq (Int.mul_ne_zero (den_ne' p) (den_ne' q)) (wide_lt h.1 k.1) (wide_lt h.2 k.2)
theorem Sz.wat {m n : Nat} {s u : Rat} (h : Sz m s) (k : Sz n u) (hu : u ≠ 0) : Sz (m + n + 1) (wat s u) := by
  rw [← rq_wat s u hu]
  exact sz_rq (Int.mul_ne_zero (den_ne' s) (num_ne hu)) (lt_up (wide_lt h.1 (sub_lt k.2 k.1)) (by omega)) (lt_up (wide_lt h.2 k.1) (by omega))
theorem Sz.boil {a b c n N : Nat} {s w u h : Rat} {f : Int} (zs : Sz a s) (zu : Sz n u) (hu : u ≠ 0) (zw : Sz b w) (zh : Sz c h) (hf : f.natAbs < 2 ^ 14) (h1 : a + n + 1 ≤ N) (h2 : b + (14 + c) + 1 ≤ N) : Sz N (KR.boil s w f u h) := by
  unfold KR.boil
  split
  · split
    · exact (Sz.wat zs zu hu).up h1
    · exact (Sz.sub zw (Sz.mul (Sz.int hf (by decide)) zh)).up h2
  · exact zw.up (by omega)
theorem boil_zero {s w u : Rat} {f : Int} : boil s w f u 0 = w := by
  unfold boil
  rw [Rat.mul_zero]
  split <;> grind
theorem boil_boil {s w u h k : Rat} {f : Int} (hf : 0 ≤ f) (hh : 0 ≤ h) (hk : 0 ≤ k) : boil s (boil s w f u h) f u k = boil s w f u (h + k) := by
  have f0 := cast_nn hf
  have a0 := Rat.mul_nonneg f0 hh
  have b0 := Rat.mul_nonneg f0 hk
  unfold boil
  rw [Rat.mul_add]
  generalize (f : Rat) * h = a at *
  generalize (f : Rat) * k = b at *
  generalize wat s u = L
  grind
theorem boil_fire {s w u h : Rat} {f g : Int} (hf : f ≤ g) (hh : 0 ≤ h) : boil s w g u h ≤ boil s w f u h := by
  have k := Rat.mul_nonneg (cast_nn (show 0 ≤ g - f by omega)) hh
  rw [Rat.intCast_sub] at k
  unfold boil
  generalize wat s u = L
  have e : ((g : Rat) - (f : Rat)) * h = (g : Rat) * h - (f : Rat) * h := by grind
  rw [e] at k
  generalize (f : Rat) * h = a at *
  generalize (g : Rat) * h = b at *
  grind
theorem boil_two {s w u h : Rat} {f : Int} : boil (s + s) (w + w) (2 * f) u h = boil s w f u h + boil s w f u h := by
  unfold boil
  have e : wat (s + s) u = wat s u + wat s u := by
    unfold wat
    grind
  rw [e, Rat.intCast_mul]
  have e2 : ((2 : Int) : Rat) * (f : Rat) * h = (f : Rat) * h + (f : Rat) * h := by
    have e3 : ((2 : Int) : Rat) = 2 := rfl
    rw [e3]
    grind
  rw [e2]
  generalize (f : Rat) * h = a at *
  generalize wat s u = L at *
  grind
theorem Sz.div {m n : Nat} {p q : Rat} (h : Sz m p) (k : Sz n q) (hq : q ≠ 0) : Sz (m + n) (p / q) := by
  rw [← rq_div]
  exact sz_rq (Int.mul_ne_zero (den_ne' p) (num_ne hq)) (wide_lt h.1 k.2) (wide_lt h.2 k.1)
theorem rq_divi (r : Rat) (f : Int) : rq r.num (r.den * f) = r / (f : Rat) := by
  have e := rq_div r (f : Rat)
  rw [← e]
  show rq r.num (r.den * f) = rq (r.num * 1) (r.den * f)
  rw [Int.mul_one]
theorem FrQ.dp {K : PySem.W.Frag} {H : Hp} {x : Addr} {q : Rat} (h : FrQ K H x q) : Dp K H (.ref x) (dq q) := .tup h (.cons (.int _) (.cons (.int _) .nil))
theorem JuQ.dp {K : PySem.W.Frag} {H : Hp} {x : Addr} {s w : Rat} (h : JuQ K H x s w) : Dp K H (.ref x) (dj s w) := by
  obtain ⟨a, b, h1, h2, h3⟩ := h
  exact .tup h1 (.cons h2.dp (.cons h3.dp .nil))
theorem eqv_dq (a b : Rat) : PyData.eqv (dq a) (dq b) = decide (a = b) := by
  refine eqv_pair.trans ?_
  rw [decide_eq_decide]
  constructor
  · rintro ⟨h1, h2⟩
    exact Rat.ext h1 (by omega)
  · rintro rfl
    exact ⟨rfl, rfl⟩
theorem OQ.dp {K : PySem.W.Frag} {H : Hp} {v : V} {o : Option Rat} (h : OQ K H v o) : Dp K H v (oq o) := by
  cases o with
  | none => rw [show v = .non from h]; exact .non
  | some q =>
    obtain ⟨x, e1, h1⟩ := h
    rw [e1]
    exact h1.dp
theorem oq_fit (o : Option Rat) : PyData.canLay0 (oq o) = true ∧ PyData.depth (oq o) ≤ 60 := by
  cases o with
  | none => exact ⟨rfl, by decide⟩
  | some q => exact ⟨rfl, by show 1 ≤ 60; decide⟩
/-- when a juice is ready -/
def ready (s w : Rat) (f : Int) (u : Rat) : Option Rat := if s = 0 then none else if wat s u < w then (if f = 0 then none else some ((w - wat s u) / (f : Rat))) else some 0
theorem wat_nn {s u : Rat} (hs : 0 ≤ s) (u0 : 0 < u) (u1 : u < 1) : 0 ≤ wat s u := by
  have k := Rat.mul_nonneg hs (show 0 ≤ 1 - u by grind)
  have h : s ≤ s / u := le_div u0 (by grind)
  unfold wat
  grind
theorem on_way {s w u : Rat} {f : Int} (hs : 0 < s) (u0 : 0 < u) (u1 : u < 1) (hf : 0 < f) (lt : wat s u < w) {t : Rat} (et : t = (w - wat s u) / (f : Rat)) :
    boil s w f u t = wat s u ∧ stren s (wat s u) = some u ∧ 0 < t ∧ ∀ h : Rat, 0 < h → (boil s w f u (t + h) = wat s u ∧ (h ≤ 1 → ∃ q, stren s (boil s w f u (t * h)) = some q ∧ (q = u ↔ h = 1) ∧ ready s (boil s w f u (t * h)) f u = some (t - t * h))) := by
  have f0 := cast_pos hf
  have fne : (f : Rat) ≠ 0 := by grind
  have ft : (f : Rat) * t = w - wat s u := by rw [et]; grind
  have wn := wat_nn (Rat.le_of_lt hs) u0 u1
  have tp : 0 < t := by
    rw [et]
    exact (Rat.lt_div_iff f0).mpr (by grind)
  refine ⟨?_, ?_, tp, fun h hh => ⟨?_, fun h1 => ?_⟩⟩
  · unfold boil
    rw [ft]
    grind
  · have e : s + wat s u = s / u := by
      unfold wat
      grind
    have ne : s / u ≠ 0 := by grind
    unfold stren
    rw [e, if_neg ne]
    congr 1
    grind
  · have k := Rat.mul_pos f0 hh
    unfold boil
    rw [Rat.mul_add, ft]
    grind
  · have d : 0 < w - wat s u := by grind
    have k := Rat.mul_nonneg (Rat.le_of_lt d) (show 0 ≤ 1 - h by grind)
    have e : (f : Rat) * (t * h) = (w - wat s u) * h := by rw [← ft]; grind
    have eb : boil s w f u (t * h) = w - (w - wat s u) * h := by
      unfold boil
      rw [e]
      grind
    have xge : wat s u ≤ w - (w - wat s u) * h := by grind
    have sx : s + (w - (w - wat s u) * h) ≠ 0 := by grind
    rw [eb]
    refine ⟨s / (s + (w - (w - wat s u) * h)), if_neg sx, ⟨fun q => ?_, fun q => ?_⟩, ?_⟩
    · have q2 : s = u * (s + (w - (w - wat s u) * h)) := by grind
      have q3 : wat s u = w - (w - wat s u) * h := by
        unfold wat at *
        grind
      have q4 : (w - wat s u) * (1 - h) = 0 := by grind
      have q5 : 1 - h = 0 := by
        rcases Rat.mul_eq_zero.mp q4 with z | z
        · grind
        · exact z
      grind
    · rw [q]
      have e2 : s + (w - (w - wat s u) * 1) = s / u := by
        unfold wat
        grind
      rw [e2]
      grind
    · unfold ready
      rw [if_neg (by grind)]
      by_cases c : wat s u < w - (w - wat s u) * h
      · rw [if_pos c, if_neg (by omega)]
        congr 1
        rw [et]
        grind
      · rw [if_neg c]
        have q4 : (w - wat s u) * (1 - h) = 0 := by grind
        have q5 : 1 - h = 0 := by
          rcases Rat.mul_eq_zero.mp q4 with z | z
          · grind
          · exact z
        have q6 : h = 1 := by grind
        rw [q6]
        congr 1
        grind
/-- a thing is not among those of a tuple -/
def rNoTup (K : PySem.W.Frag) : R2 := fun x y H Q => ∃ d ds, Dp K H x d ∧ Dp K H y (.tuple ds) ∧ PyData.canLay0 d = true ∧ PyData.canLayAll0 ds = true ∧ PyData.depth d ≤ 60 ∧ Q (.bl (!ds.any fun z => PyData.eqv z d)) H
theorem notTup {X : Cx} {K : PySem.W.Frag} (hK : X.K = K) (room : X.A.units + 64 < cLine) : OpR X (compareOp .NotIn) (rNoTup K) := by
  subst hK
  intro pn s0 σ H x y v1 v2 Q I a1 a2 h
  obtain ⟨d, ds, h1, h2, h3, h4, h5, q⟩ := h
  obtain ⟨as1, r1⟩ := Dp.reads I d x v1 h1 a1
  obtain ⟨as2, r2⟩ := Dp.reads I (.tuple ds) y v2 h2 a2
  exact SeqAt.notIn_tuple_reads r2 r1 h4 h3 (by omega) ⟨.bl _, H, I, rfl, q⟩
/-- a juice in, a juice and a share in, two juices in -/
def sp_j2 (K : PySem.W.Frag) : Sp := fun vs H Q _ => ∃ (x y : Addr) (s w s' w' : Rat) (m n : Nat), vs = [.ref x, .ref y] ∧ JuQ K H x s w ∧ JuQ K H y s' w' ∧ Sz m s ∧ Sz m w ∧ Sz n s' ∧ Sz n w' ∧ m + n ≤ 1900 ∧
  ∀ z H', Same H H' → JuQ K H' z (s + s') (w + w') → Sz (m + n + 1) (s + s') → Sz (m + n + 1) (w + w') → Q (.ref z) H'
def sp_jt (K : PySem.W.Frag) (f : Rat → Rat) : Sp := fun vs H Q _ => ∃ (x y : Addr) (s w t : Rat) (m n : Nat), vs = [.ref x, .ref y] ∧ JuQ K H x s w ∧ FrQ K H y t ∧ Sz m s ∧ Sz m w ∧ Sz n t ∧ m + n ≤ 900 ∧ n ≤ 400 ∧
  ∀ z H', Same H H' → JuQ K H' z (s * f t) (w * f t) → Sz (m + n + 10) (s * f t) → Sz (m + n + 10) (w * f t) → Q (.ref z) H'
def sp_vol (K : PySem.W.Frag) : Sp := fun vs H Q _ => ∃ (x : Addr) (s w : Rat) (m : Nat), vs = [.ref x] ∧ JuQ K H x s w ∧ Sz m s ∧ Sz m w ∧ m ≤ 900 ∧ ∀ z H', Same H H' → FrQ K H' z (s + w) → Sz (m + m + 1) (s + w) → Q (.ref z) H'
def sp_str (K : PySem.W.Frag) : Sp := fun vs H Q _ => ∃ (x : Addr) (s w : Rat) (m : Nat), vs = [.ref x] ∧ JuQ K H x s w ∧ Sz m s ∧ Sz m w ∧ m ≤ 600 ∧ ∀ v H', Same H H' → OQ K H' v (stren s w) → (∀ q, stren s w = some q → Sz (3 * m + 2) q) → Q v H'
end KR
/-! ### walks over things that may be lists or tuples: for, enumerate, zip -/
namespace KR
open PySem PySem.Spec PyProof.Rows L2
/-- a list, or a tuple -/
def SqB (K : PySem.W.Frag) (H : Hp) (a : Addr) (xs : List V) : Bool → Prop
  | true => SqL K H a xs
  | false => SqT K H a xs
def ItB (h : Heap) (it a : Addr) (i : Nat) : Bool → Prop
  | true => h.IsListIter it a i
  | false => h.IsTupleIter it a i
def IsB (h : Heap) (a : Addr) (items : Array Value) : Bool → Prop
  | true => h.IsList a items
  | false => h.IsTuple a items
def objB (a : Addr) : Bool → Obj
  | true => { cls := .type "list_iterator", data := .fields #[.ref a, .int 0 0] }
  | false => { cls := .type "tuple_iterator", data := .fields #[.ref a, .int 0 0] }
theorem SqB.same {K : PySem.W.Frag} {H H' : Hp} {a : Addr} {xs : List V} {b : Bool} (h : SqB K H a xs b) (s : Same H H') : SqB K H' a xs b := by
  cases b with
  | true => exact s.seq h
  | false => exact Same.tup s h
theorem draws_b {prog : Program} {w : World} {A : Around} (hh : A.handled = none) (it a : Addr) (ne : a ≠ it) (items : Array Value) (b : Bool) :
    Draws prog w A it [it, a] items.size (fun i v => items[i]? = some v) (fun i h => ItB h it a i b ∧ IsB h a items b) := by
  cases b with
  | true => exact Draws.list hh it a ne items
  | false => exact Draws.tuple hh it a ne items
theorem begins_b (a : Addr) (items : Array Value) (b : Bool) : Begins (.ref a) (objB a b) fun h => IsB h a items b := by
  cases b with
  | true => exact begins_list a items
  | false => exact begins_tuple a items
theorem first_b {h : Heap} {it a : Addr} {b : Bool} (e : h.get? it = some (objB a b)) : ItB h it a 0 b := by
  cases b with
  | true => exact ⟨_, e, rfl, rfl⟩
  | false => exact ⟨_, e, rfl, rfl⟩
theorem ItB.obj {h : Heap} {it a : Addr} {i : Nat} {b : Bool} (t : ItB h it a i b) : ∃ o, h.get? it = some o ∧ ∀ v, o.data ≠ .cell v := by
  cases b with
  | true =>
    obtain ⟨o, e, _, d⟩ := t
    exact ⟨o, e, fun v q => by rw [d] at q; cases q⟩
  | false =>
    obtain ⟨o, e, _, d⟩ := t
    exact ⟨o, e, fun v q => by rw [d] at q; cases q⟩
theorem ItB.keep {h h' : Heap} {it a : Addr} {i : Nat} {b : Bool} (t : ItB h it a i b) (k : ∀ o, h.get? it = some o → h'.get? it = some o) : ItB h' it a i b := by
  cases b with
  | true =>
    obtain ⟨o, e, r⟩ := t
    exact ⟨o, k _ e, r⟩
  | false =>
    obtain ⟨o, e, r⟩ := t
    exact ⟨o, k _ e, r⟩
section
variable {X : Cx} {pins : List (Addr × Obj)} {σ : L2.St} {H : Hp} {s : Shared} {a : Addr} {xs ys : List V} {b : Bool}
theorem inv_b (I : Inv X pins σ H s) (h : SqB X.K H a xs b) : ∃ its : List Value, Vals xs its ∧ IsB s.heap a its.toArray b ∧ a < s.heap.objs.size := by
  cases b with
  | true =>
    obtain ⟨its, rv, p, _⟩ := I.list h
    exact ⟨its, rv, p.isList, p.lt⟩
  | false =>
    obtain ⟨its, rv, p, _⟩ := I.tuple h
    obtain ⟨o, e, _⟩ := id p
    exact ⟨its, rv, p, Heap.lt_size e⟩
theorem inj_b (I : Inv X pins σ H s) (h : SqB X.K H a xs b) (k : SqB X.K H a ys b) : xs = ys := by
  cases b with
  | true => exact I.list_inj h k
  | false => exact I.tuple_inj h k
end
/-- pairs of what two things hold -/
def ItzB (K : PySem.W.Frag) (a b : Addr) (p q : Bool) : It :=
  ⟨fun i H => ∃ (xs ys : List V) (x y : V), SqB K H a xs p ∧ SqB K H b ys q ∧ xs[i]? = some x ∧ ys[i]? = some y,
    fun i H v H' => ∃ T x y, v = .ref T ∧ H T = none ∧ H' = upd H T (.tup [x, y]) ∧ (∀ xs, SqB K H a xs p → xs[i]? = some x) ∧ ∀ ys, SqB K H b ys q → ys[i]? = some y,
    fun i H => ∃ xs ys : List V, SqB K H a xs p ∧ SqB K H b ys q ∧ xs.length = i ∧ ys.length = i⟩
theorem turn_zipB {P : Program} {w : World} {K : PySem.W.Frag} {elts : List Expr} {kk : Nat} {tpos : Pos} {a b : Addr} {p q : Bool} {N : Nat} (la : a < N) (lb : b < N) :
    Turn P w K (.Tuple elts kk tpos) (ItzB K a b p q) [N + 4, N + 2, N + 3, N, N + 1] (N + 4) (fun i h => IsZip h (N + 4) (N + 2) (N + 3) .none ∧ IsTupOf2 h (N + 2) (.ref N) (.ref (N + 1)) ∧ (∃ x y, IsTupOf2 h (N + 3) x y) ∧ ItB h N a i p ∧ ItB h (N + 1) b i q) where
  mem := List.mem_cons_self
  obj := fun i h st c hc => by
    obtain ⟨st1, st2, ⟨x, y, st3⟩, st4, st5⟩ := st
    have cs : c = N + 4 ∨ c = N + 2 ∨ c = N + 3 ∨ c = N ∨ c = N + 1 := by simpa using hc
    rcases cs with rfl | rfl | rfl | rfl | rfl
    · exact ⟨_, st1, nofun⟩
    · exact ⟨_, st2, nofun⟩
    · exact ⟨_, st3, nofun⟩
    · exact st4.obj
    · exact st5.obj
  keep := fun i h h' st k => by
    obtain ⟨st1, st2, ⟨x, y, st3⟩, st4, st5⟩ := st
    exact ⟨k _ (by simp) _ st1, k _ (by simp) _ st2, ⟨x, y, k _ (by simp) _ st3⟩, st4.keep (k _ (by simp)), st5.keep (k _ (by simp))⟩
  item := by
    intro X hP hw hK hc i pins s σ H E I hf st hg
    subst hP hw hK
    obtain ⟨st1, st2, ⟨x0, y0, st3⟩, st4, st5⟩ := st
    obtain ⟨xs, ys, x, y, sx, sy, gx, gy⟩ := hg
    obtain ⟨its, rv, ia, _⟩ := inv_b I sx
    obtain ⟨its2, rv2, ib, _⟩ := inv_b I sy
    obtain ⟨u, hu, ru⟩ := rv.get gx
    obtain ⟨u2, hu2, ru2⟩ := rv2.get gy
    have calm : X.A.in1.handled = none := I.ok.hd hc
    have S : ZipSep2 (N + 4) (N + 2) (N + 3) N (N + 1) [N, a] [N + 1, b] := zip_sep2 (fun c z => by rw [List.mem_singleton.mp z]; exact la) (fun c z => by rw [List.mem_singleton.mp z]; exact lb)
    have zlt : N + 4 < s.heap.objs.size := Heap.lt_size st1
    have i1 : i < its.toArray.size := by
      rw [List.size_toArray]
      exact (List.getElem?_eq_some_iff.mp hu).1
    have i2 : i < its2.toArray.size := by
      rw [List.size_toArray]
      exact (List.getElem?_eq_some_iff.mp hu2).1
    refine wpAny_pyNext_zipD2_item S (draws_b calm N a (Nat.ne_of_lt la) its.toArray p) (draws_b calm (N + 1) b (Nat.ne_of_lt (Nat.lt_succ_of_lt lb)) its2.toArray q) st1 st2 st3 ⟨st4, ia⟩ ⟨st5, ib⟩ i1 i2 fun v1 v2 h' tk p1 p2 z' TO' t1' t2' hT hsz hk => ?_
    have p1' : its.toArray[i]? = some v1 := p1
    have p2' : its2.toArray[i]? = some v2 := p2
    rw [List.getElem?_toArray, hu] at p1'
    rw [List.getElem?_toArray, hu2] at p2'
    obtain rfl := Option.some.inj p1'
    obtain rfl := Option.some.inj p2'
    refine ⟨_, rfl, wpAny_letOwnedTupleGo_zip (s := { s with heap := h', toks := tk }) z' fun h'' z'' sb => ?_⟩
    have hT2 : h''.get? s.heap.objs.size = some { cls := .type "tuple", data := .seq #[u, u2] } := (sb.2 _ (Nat.ne_of_gt zlt)).trans hT
    have new : ObjOk X.prog X.w (upd H s.heap.objs.size (.tup [x, y])) h'' s.heap.objs.size (.tup [x, y]) :=
      ⟨small (by show 2 ≤ 100000; decide), [u, u2], .cons ru (.cons ru2 .nil), ⟨_, hT2, rfl, _, rfl⟩⟩
    have out : ∀ {c : Nat}, c ∉ [N + 4, N + 2, N + 3, N, N + 1] → c ≠ N + 4 ∧ c ≠ N + 3 ∧ c ≠ N ∧ c ≠ N + 1 := fun {c} n => ⟨fun q => n (by simp [q]), fun q => n (by simp [q]), fun q => n (by simp [q]), fun q => n (by simp [q])⟩
    have I1 : Inv X pins σ (upd H s.heap.objs.size (.tup [x, y])) { s with heap := h'', toks := tk } :=
      I.turnedNew (t' := tk) (ch := [N + 4, N + 2, N + 3, N, N + 1]) (fun c o hb q => by
        obtain ⟨n1, n2, n3, n4⟩ := out hb
        exact (sb.2 c n1).trans (hk c o n1 n2 n3 n4 q)) hf (Nat.le_refl _) new
    have d1 : (N + 2 : Nat) ≠ N + 4 := by omega
    have d2 : (N + 3 : Nat) ≠ N + 4 := by omega
    have d3 : (N : Nat) ≠ N + 4 := by omega
    have d4 : (N + 1 : Nat) ≠ N + 4 := by omega
    have d5 : (N + 2 : Nat) ≠ N + 3 ∧ (N + 2 : Nat) ≠ N ∧ (N + 2 : Nat) ≠ N + 1 := by omega
    refine ⟨.ref s.heap.objs.size, _, I1, rfl, ⟨_, x, y, rfl, I.hok.fresh (Nat.le_refl _), rfl, fun l hl => by rw [inj_b I hl sx]; exact gx, fun l hl => by rw [inj_b I hl sy]; exact gy⟩, ⟨z'', ?_, ⟨u, u2, ?_⟩, ?_, ?_⟩, fun c hcm => ?_⟩
    · exact (sb.2 _ d1).trans (hk _ _ d1 d5.1 d5.2.1 d5.2.2 st2)
    · exact (sb.2 _ d2).trans TO'
    · exact t1'.1.keep fun o e => (sb.2 _ d3).trans e
    · exact t2'.1.keep fun o e => (sb.2 _ d4).trans e
    · have hlt : c < s.heap.objs.size := by
        have cs : c = N + 4 ∨ c = N + 2 ∨ c = N + 3 ∨ c = N ∨ c = N + 1 := by simpa using hcm
        have : (c : Nat) ≤ N + 4 := by
          rcases cs with q | q | q | q | q <;> rw [q]
          · exact Nat.le_refl _
          · exact Nat.add_le_add_left (by decide : 2 ≤ 4) N
          · exact Nat.add_le_add_left (by decide : 3 ≤ 4) N
          · exact Nat.le_add_right _ _
          · exact Nat.add_le_add_left (by decide : 1 ≤ 4) N
        exact Nat.lt_of_le_of_lt this zlt
      rw [upd_ne (Nat.ne_of_lt hlt)]
      exact (hf c hcm).1
  done := by
    intro X hP hw hK hc i pins s σ H E I hf st hg
    subst hP hw hK
    obtain ⟨st1, st2, ⟨x0, y0, st3⟩, st4, st5⟩ := st
    obtain ⟨xs, ys, sx, sy, l1, l2⟩ := hg
    obtain ⟨its, rv, ia, _⟩ := inv_b I sx
    obtain ⟨its2, rv2, ib, _⟩ := inv_b I sy
    have k1 := rv.length
    have k2 := rv2.length
    have calm : X.A.in1.handled = none := I.ok.hd hc
    have S : ZipSep2 (N + 4) (N + 2) (N + 3) N (N + 1) [N, a] [N + 1, b] := zip_sep2 (fun c z => by rw [List.mem_singleton.mp z]; exact la) (fun c z => by rw [List.mem_singleton.mp z]; exact lb)
    have i1 : its.toArray.size = i := by rw [List.size_toArray]; omega
    have i2 : its2.toArray.size = i := by rw [List.size_toArray]; omega
    refine wpAny_pyNext_zipD2_end S (draws_b calm N a (Nat.ne_of_lt la) its.toArray p) (draws_b calm (N + 1) b (Nat.ne_of_lt (Nat.lt_succ_of_lt lb)) its2.toArray q) st1 st2 st3 ⟨st4, ia⟩ ⟨st5, ib⟩ (by omega) (by omega) (by omega) fun h' tk hk => ⟨rfl, ?_⟩
    exact I.turnedL (t' := tk) (ch := [N + 4, N + 2, N + 3, N, N + 1]) (fun c o hb q => hk c o (fun z => hb (by simp [z])) (fun z => hb (by simp [z])) (fun z => hb (by simp [z])) (fun z => hb (by simp [z])) q) hf
  self := fun A i s Q E st h => wpAny_pyIter_zip st.1 h
def iZipB (K : PySem.W.Frag) (ta : TA) : TI := fun σ H R => ta σ H fun vs H1 => ∃ (a b : Addr) (xs ys : List V) (p q : Bool), vs = [.ref a, .ref b] ∧ SqB K H1 a xs p ∧ SqB K H1 b ys q ∧ R (ItzB K a b p q) H1
theorem pi_zipB {X : Cx} {K : PySem.W.Frag} {e e2 : Expr} {ta : TA} {p pos tpos : Pos} {elts : List Expr} {kk : Nat} (hK : X.K = K) (glob : Gl X "zip") (free : X.mg "zip" = none) (args : PA X [e, e2] ta)
    (st : starEach [e, e2] X.env = (false, eval e X.env) :: starEach [e2] X.env := by rfl) (bk : (backTo pos (starEach [e2] X.env)).any (·.1) = false := by rfl) : PI X (.Tuple elts kk tpos) (.Call (.Name "zip" p) [e, e2] [] pos) (iZipB K ta) := by
  subst hK
  constructor
  intro pins s σ H R I ask
  refine Call_ (ld_blt I glob free PyProof.Rows.boot_zip (PyProof.Rows.callWith_type1 (thn (args.run pos pins s σ H _ I ask) ?_) st bk))
  rintro us s1 ⟨vs, H1, I1, rel, a, b, xs, ys, p, q, ev, sx, sy, k⟩
  subst ev
  cases rel with
  | cons r rr =>
    cases rr with
    | cons r' rr =>
      cases rr
      cases r
      cases r'
      have fresh5 : ∀ c, c ∈ [s1.heap.objs.size + 4, s1.heap.objs.size + 2, s1.heap.objs.size + 3, s1.heap.objs.size, s1.heap.objs.size + 1] → FpOk X pins H1 c := fun c hcm => by
        have cs : c = s1.heap.objs.size + 4 ∨ c = s1.heap.objs.size + 2 ∨ c = s1.heap.objs.size + 3 ∨ c = s1.heap.objs.size ∨ c = s1.heap.objs.size + 1 := by simpa using hcm
        have low : s1.heap.objs.size ≤ c := by rcases cs with q | q | q | q | q <;> rw [q] <;> first | exact Nat.le_refl _ | exact Nat.le_add_right _ _
        exact I1.fpOk low (I1.hok.fresh low)
      obtain ⟨its, _, ia, la⟩ := inv_b I1 sx
      obtain ⟨its2, _, ib, lb⟩ := inv_b I1 sy
      refine zip_begins2 (begins_b a its.toArray p) (begins_b b its2.toArray q) ia ib fun h' hz hTI hTO h1 h2 hsz hk => wpAny_pyIter_zip hz ?_
      have I2 : Inv X pins σ H1 { s1 with heap := h' } := I1.kept (t' := s1.toks) hk
      exact ⟨s1.heap.objs.size + 4, [s1.heap.objs.size + 4, s1.heap.objs.size + 2, s1.heap.objs.size + 3, s1.heap.objs.size, s1.heap.objs.size + 1], _, _, H1, rfl, I2, turn_zipB la lb, ⟨hz, hTI, ⟨_, _, hTO⟩, first_b h1, first_b h2⟩, fresh5, k⟩
theorem walk_zipB {K : PySem.W.Frag} {a b : Addr} {xs ys : List V} {p q : Bool} {n : Nat} (hx : xs.length = n) (hy : ys.length = n) :
    Walk (ItzB K a b p q) n (fun H => SqB K H a xs p ∧ SqB K H b ys q) (YPair (fun i => xs[i]?) (fun i => ys[i]?)) where
  goes := fun i H hi g => ⟨xs, ys, xs[i]'(by omega), ys[i]'(by omega), g.1, g.2, List.getElem?_eq_getElem _, List.getElem?_eq_getElem _⟩
  stops := fun H g => ⟨xs, ys, g.1, g.2, hx, hy⟩
  yields := fun i H v H' hi g y => by
    obtain ⟨T, x, y, rfl, hT, e, f1, f2⟩ := y
    exact ⟨T, x, y, rfl, hT, e, f1 _ g.1, f2 _ g.2⟩
/-- what a thing holds, counted -/
def IteB (K : PySem.W.Frag) (a : Addr) (p : Bool) : It :=
  ⟨fun i H => ∃ (xs : List V) (x : V), SqB K H a xs p ∧ xs[i]? = some x, fun i H v H' => ∃ T x, v = .ref T ∧ H T = none ∧ H' = upd H T (.tup [.int (i : Nat), x]) ∧ ∀ xs, SqB K H a xs p → xs[i]? = some x, fun i H => ∃ xs : List V, SqB K H a xs p ∧ xs.length = i⟩
theorem turn_enumB {P : Program} {w : World} {K : PySem.W.Frag} {elts : List Expr} {kk : Nat} {tpos : Pos} {a : Addr} {p : Bool} {N : Nat} (la : a < N) :
    Turn P w K (.Tuple elts kk tpos) (IteB K a p) [N + 1, N] (N + 1) (fun i h => (∃ old, IsEnum h (N + 1) N ((i : Nat) : Int) old) ∧ ItB h N a i p) where
  mem := List.mem_cons_self
  obj := fun i h st c hc => by
    obtain ⟨⟨old, st1⟩, st2⟩ := st
    have cs : c = N + 1 ∨ c = N := by simpa using hc
    rcases cs with rfl | rfl
    · exact ⟨_, st1, nofun⟩
    · exact st2.obj
  keep := fun i h h' st k => by
    obtain ⟨⟨old, st1⟩, st2⟩ := st
    exact ⟨⟨old, k _ (by simp) _ st1⟩, st2.keep (k _ (by simp))⟩
  item := by
    intro X hP hw hK hc i pins s σ H E I hf st hg
    subst hP hw hK
    obtain ⟨⟨old, st1⟩, st2⟩ := st
    obtain ⟨xs, x, sx, gx⟩ := hg
    obtain ⟨its, rv, ia, _⟩ := inv_b I sx
    obtain ⟨u, hu, ru⟩ := rv.get gx
    have calm : X.A.in1.handled = none := I.ok.hd hc
    have elt : N + 1 < s.heap.objs.size := Heap.lt_size st1
    have i1 : i < its.toArray.size := by
      rw [List.size_toArray]
      exact (List.getElem?_eq_some_iff.mp hu).1
    refine wpAny_pyNext_enum_itemC (draws_b calm N a (Nat.ne_of_lt la) its.toArray p) st1 ⟨st2, ia⟩ i1 (Nat.succ_ne_self N) (by
      intro z
      have cs : N + 1 = N ∨ N + 1 = a := by simpa using z
      have : ¬ (N + 1 = N) := Nat.succ_ne_self N
      rcases cs with q | q
      · exact this q
      · have la' : (a : Nat) < N := la
        rw [← q] at la'
        exact Nat.lt_irrefl N (Nat.lt_trans (Nat.lt_succ_self N) la')) fun v h' tk p1 out t1 hT hsz hk => ?_
    have p1' : its.toArray[i]? = some v := p1
    rw [List.getElem?_toArray, hu] at p1'
    obtain rfl := Option.some.inj p1'
    refine ⟨_, rfl, wpAny_letOwnedTupleGo_enum (s := { s with heap := h', toks := tk + 1 }) out fun h'' he' sb => ?_⟩
    have hT2 : h''.get? s.heap.objs.size = some { cls := .type "tuple", data := .seq #[.int i tk, u] } := (sb.2 _ (Nat.ne_of_gt elt)).trans hT
    have new : ObjOk X.prog X.w (upd H s.heap.objs.size (.tup [.int (i : Nat), x])) h'' s.heap.objs.size (.tup [.int (i : Nat), x]) :=
      ⟨small (by show 2 ≤ 100000; decide), [.int i tk, u], .cons ⟨_, rfl⟩ (.cons ru .nil), ⟨_, hT2, rfl, _, rfl⟩⟩
    have I1 : Inv X pins σ (upd H s.heap.objs.size (.tup [.int (i : Nat), x])) { s with heap := h'', toks := tk + 1 } :=
      I.turnedNew (t' := tk + 1) (ch := [N + 1, N]) (fun c o hb q => (sb.2 c (fun z => hb (by simp [z]))).trans (hk c o (fun z => hb (by simp [z])) (fun z => hb (by simp [z])) q)) hf (Nat.le_refl _) new
    refine ⟨.ref s.heap.objs.size, _, I1, rfl, ⟨_, x, rfl, I.hok.fresh (Nat.le_refl _), rfl, fun l hl => by rw [inj_b I hl sx]; exact gx⟩, ⟨⟨u, ?_⟩, ?_⟩, fun c hcm => ?_⟩
    · have e1 : ((i + 1 : Nat) : Int) = (i : Int) + 1 := by omega
      rw [e1]
      exact he'
    · exact t1.1.keep fun o e => (sb.2 _ (Nat.ne_of_lt (Nat.lt_succ_self N))).trans e
    · have hlt : c < s.heap.objs.size := by
        have cs : c = N + 1 ∨ c = N := by simpa using hcm
        rcases cs with q | q <;> rw [q]
        · exact elt
        · exact Nat.lt_trans (Nat.lt_succ_self N) elt
      rw [upd_ne (Nat.ne_of_lt hlt)]
      exact (hf c hcm).1
  done := by
    intro X hP hw hK hc i pins s σ H E I hf st hg
    subst hP hw hK
    obtain ⟨⟨old, st1⟩, st2⟩ := st
    obtain ⟨xs, sx, l1⟩ := hg
    obtain ⟨its, rv, ia, _⟩ := inv_b I sx
    have k1 := rv.length
    have calm : X.A.in1.handled = none := I.ok.hd hc
    have i1 : its.toArray.size = i := by rw [List.size_toArray]; omega
    refine wpAny_pyNext_enum_endD (draws_b calm N a (Nat.ne_of_lt la) its.toArray p) st1 (by rw [i1]; exact ⟨st2, ia⟩) fun h' hx => ⟨rfl, ?_⟩
    exact I.turnedL (t' := s.toks) (ch := [N + 1, N]) (fun c o hb q => hx c o (fun z => hb (by simp [z])) q) hf
  self := fun A i s Q E st h => by
    obtain ⟨⟨old, st1⟩, _⟩ := st
    exact wpAny_pyIter_enum st1 h
theorem enum1_meets {v : Value} {o : Obj} {G : Heap → Prop} (B : Begins v o G) :
    Meets (Builtin.«enumerate.__new__» ⟨[.type "enumerate", v], []⟩) (fun _ R s => G s.heap ∧ R (.ok (.ret (.ref (s.heap.push o).objs.size))) { s with heap := (s.heap.push o).push { cls := .type "enumerate", data := .fields #[.none, .bool false, .ref s.heap.objs.size, rawInt 0, .none, .none] } }) :=
  .of_wp fun prog w A R s ask => by
    obtain ⟨hp, g, d, tk, os⟩ := s; obtain ⟨g1, ask⟩ := ask
    have hsub := sub_enumerate
    have way : ∀ {A' : Around} {E : Value → Shared → Prop} {Q : Value → Shared → Prop}, Q (.ref hp.objs.size) ⟨hp.push o, g, d, tk, os⟩ → wpAny (model prog w) A' (pyIter v) Q E ⟨hp, g, d, tk, os⟩ := fun k => B.iter prog w _ _ ⟨hp, g, d, tk, os⟩ _ g1 k
    wp_walk using way
    refine wpAny_stack_any fun st => wpAny_pure ?_
    split
    · rename_i c _ _ _ _ _
      cases (c == Value.type "enumerate") <;> (wp_walk using way; exact ⟨_, rfl, ask⟩)
    · wp_walk using way
      exact ⟨_, rfl, ask⟩
theorem enum1_begins {prog : Program} {w : World} {A : Around} {E : Value → Shared → Prop} {s : Shared} {v : Value} {o : Obj} {G : Heap → Prop} {Q : Value → Shared → Prop} (B : Begins v o G) (g1 : G s.heap)
    (ask : ∀ h', IsEnum h' (s.heap.objs.size + 1) s.heap.objs.size 0 .none → h'.get? s.heap.objs.size = some o → h'.objs.size = s.heap.objs.size + 2 → (∀ b o, s.heap.get? b = some o → h'.get? b = some o) → Q (.ref (s.heap.objs.size + 1)) { s with heap := h' }) :
    wpAny (model prog w) A (call (.type "enumerate") [v]) Q E s := by
  refine callType_new F.called_enumerate (by decide) (F.typeCall_enumerate_1 _) (F.newCall_enumerate_1 _) (fun obj => F.args_object_init_2 obj _) F.entry_enumerate_new (enum1_meets B) ⟨g1, ?_⟩
  have sz : (s.heap.push o).objs.size = s.heap.objs.size + 1 := Heap.size_push ..
  show _ ∧ _
  rw [sz]
  have he : IsEnum ((s.heap.push o).push { cls := .type "enumerate", data := .fields #[.none, .bool false, .ref s.heap.objs.size, rawInt 0, .none, .none] }) (s.heap.objs.size + 1) s.heap.objs.size 0 .none := by
    have k := Heap.get?_push_size (s.heap.push o) (o := { cls := .type "enumerate", data := .fields #[.none, .bool false, .ref s.heap.objs.size, rawInt 0, .none, .none] }) rfl
    rw [sz] at k; exact k
  exact ⟨⟨_, he, rfl⟩, ask _ he (Heap.get?_push_of_some _ (Heap.get?_push_size _ B.free)) (by rw [Heap.size_push, sz]) fun b o x => Heap.get?_push_of_some _ (Heap.get?_push_of_some _ x)⟩
def iEnumB (K : PySem.W.Frag) (ta : TA) : TI := fun σ H R => ta σ H fun vs H1 => ∃ (a : Addr) (xs : List V) (p : Bool), vs = [.ref a] ∧ SqB K H1 a xs p ∧ R (IteB K a p) H1
theorem pi_enumB {X : Cx} {K : PySem.W.Frag} {e : Expr} {ta : TA} {p pos tpos : Pos} {elts : List Expr} {kk : Nat} (hK : X.K = K) (glob : Gl X "enumerate") (free : X.mg "enumerate" = none) (args : PA X [e] ta) (st : starEach [e] X.env = [(false, eval e X.env)] := by rfl) :
    PI X (.Tuple elts kk tpos) (.Call (.Name "enumerate" p) [e] [] pos) (iEnumB K ta) := by
  subst hK
  constructor
  intro pins s σ H R I ask
  refine Call_ (ld_blt I glob free boot_enumerate (PyProof.Rows.callWith_type1 (thn (args.run pos pins s σ H _ I ask) ?_) st rfl))
  rintro us s1 ⟨vs, H1, I1, rel, a, xs, p, ev, sx, k⟩
  subst ev
  cases rel with
  | cons r rr =>
    cases rr
    cases r
    obtain ⟨its, _, ia, la⟩ := inv_b I1 sx
    refine enum1_begins (begins_b a its.toArray p) ia fun h' he h1 hsz hk => wpAny_pyIter_enum he ?_
    have I2 : Inv X pins σ H1 { s1 with heap := h' } := I1.kept (t' := s1.toks) hk
    refine ⟨s1.heap.objs.size + 1, [s1.heap.objs.size + 1, s1.heap.objs.size], _, _, H1, rfl, I2, turn_enumB la, ⟨⟨.none, he⟩, first_b h1⟩, fun c hcm => ?_, k⟩
    have cs : c = s1.heap.objs.size + 1 ∨ c = s1.heap.objs.size := by simpa using hcm
    have low : s1.heap.objs.size ≤ c := by rcases cs with q | q <;> rw [q] <;> first | exact Nat.le_refl _ | exact Nat.le_add_right _ _
    exact I1.fpOk low (I1.hok.fresh low)
theorem walk_enumB {K : PySem.W.Frag} {a : Addr} {xs : List V} {p : Bool} : Walk (IteB K a p) xs.length (fun H => SqB K H a xs p) (YPair (fun i => some (.int (i : Nat))) (fun i => xs[i]?)) where
  goes := fun i H hi g => ⟨xs, xs[i]'(by omega), g, List.getElem?_eq_getElem _⟩
  stops := fun H g => ⟨xs, g, rfl⟩
  yields := fun i H v H' hi g y => by
    obtain ⟨T, x, rfl, hT, e, f⟩ := y
    exact ⟨T, _, x, rfl, hT, e, rfl, f _ g⟩
/-- for over a list or a tuple -/
def iSeqB (K : PySem.W.Frag) (tl : TE) : TI := fun σ H R => tl σ H fun x H1 => ∃ a, x = .ref a ∧ (((∃ xs, SqL K H1 a xs) ∧ R (Itl K a) H1) ∨ ((∃ xs, SqT K H1 a xs) ∧ R (Itt K a) H1))
theorem pi_seqB {X : Cx} {K : PySem.W.Frag} {tg l : Expr} {tl : TE} (hK : X.K = K) (hl : PE X l tl) : PI X tg l (iSeqB K tl) := by
  subst hK
  constructor
  intro pins s σ H R I ask
  refine thn (hl.run pins s σ H _ I ask) fun v s1 ⟨x, H1, I1, r1, a, e, q⟩ => ?_
  subst e
  have e1 : v = Value.ref a := r1
  subst e1
  rcases q with ⟨⟨xs, sx⟩, k⟩ | ⟨⟨xs, sx⟩, k⟩
  · obtain ⟨its, _, ia, _⟩ := I1.list sx
    refine wpAny_pyIter_list ia.isList ⟨s1.heap.objs.size, [s1.heap.objs.size], _, _, H1, rfl, I1.kept (t' := s1.toks) (fun b o e => Heap.get?_push_of_some _ e), turn_list a _, ⟨_, Heap.get?_push_size _ rfl, rfl, rfl⟩, fun c hc => ?_, k⟩
    rw [List.mem_singleton.mp hc]; exact I1.fpOk (Nat.le_refl _) (I1.hok.fresh (Nat.le_refl _))
  · obtain ⟨its, _, ia, _⟩ := I1.tuple sx
    refine wpAny_pyIter_tuple (show s1.heap.IsTuple a its.toArray from ia) ⟨s1.heap.objs.size, [s1.heap.objs.size], _, _, H1, rfl, I1.kept (t' := s1.toks) (fun b o e => Heap.get?_push_of_some _ e), turn_tuple a _, ⟨_, Heap.get?_push_size _ rfl, rfl, rfl⟩, fun c hc => ?_, k⟩
    rw [List.mem_singleton.mp hc]; exact I1.fpOk (Nat.le_refl _) (I1.hok.fresh (Nat.le_refl _))
/-- one rule for a list and a tuple -/
def ItsB (K : PySem.W.Frag) (a : Addr) : Bool → It
  | true => Itl K a
  | false => Itt K a
def iSeqU (K : PySem.W.Frag) (tl : TE) : TI := fun σ H R => tl σ H fun x H1 => ∃ (a : Addr) (xs : List V) (p : Bool), x = .ref a ∧ SqB K H1 a xs p ∧ R (ItsB K a p) H1
theorem pi_seqU {X : Cx} {K : PySem.W.Frag} {tg l : Expr} {tl : TE} (hK : X.K = K) (hl : PE X l tl) : PI X tg l (iSeqU K tl) := by
  subst hK
  constructor
  intro pins s σ H R I ask
  refine thn (hl.run pins s σ H _ I ask) fun v s1 ⟨x, H1, I1, r1, a, xs, p, e, sx, k⟩ => ?_
  subst e
  have e1 : v = Value.ref a := r1
  subst e1
  cases p with
  | true =>
    obtain ⟨its, _, ia, _⟩ := I1.list sx
    refine wpAny_pyIter_list ia.isList ⟨s1.heap.objs.size, [s1.heap.objs.size], _, _, H1, rfl, I1.kept (t' := s1.toks) (fun b o e => Heap.get?_push_of_some _ e), turn_list a _, ⟨_, Heap.get?_push_size _ rfl, rfl, rfl⟩, fun c hc => ?_, k⟩
    rw [List.mem_singleton.mp hc]; exact I1.fpOk (Nat.le_refl _) (I1.hok.fresh (Nat.le_refl _))
  | false =>
    obtain ⟨its, _, ia, _⟩ := I1.tuple sx
    refine wpAny_pyIter_tuple (show s1.heap.IsTuple a its.toArray from ia) ⟨s1.heap.objs.size, [s1.heap.objs.size], _, _, H1, rfl, I1.kept (t' := s1.toks) (fun b o e => Heap.get?_push_of_some _ e), turn_tuple a _, ⟨_, Heap.get?_push_size _ rfl, rfl, rfl⟩, fun c hc => ?_, k⟩
    rw [List.mem_singleton.mp hc]; exact I1.fpOk (Nat.le_refl _) (I1.hok.fresh (Nat.le_refl _))
theorem walk_seqU {K : PySem.W.Frag} {a : Addr} {xs : List V} {p : Bool} : Walk (ItsB K a p) xs.length (fun H => SqB K H a xs p) (YAt xs) := by
  cases p with
  | true => exact walk_list
  | false => exact walk_tup
end KR
/-! ### days: ladles hour by hour, what each place has taken -/
namespace KR
open PySem PySem.Spec PyProof.Rows L2
theorem minLK {X : Cx} {K : PySem.W.Frag} (hK : X.K = K) (hc : X.calm = true) : CallR X (.builtin "min") (rMin K) := hK ▸ cr_min hc
theorem maxLK {X : Cx} {K : PySem.W.Frag} (hK : X.K = K) (hc : X.calm = true) : CallR X (.builtin "max") (rMax K) := hK ▸ cr_max hc
theorem nuMin3_int (i j k : Int) : nuMin3 (.int i) (.int j) (.int k) = some (.int (min (min i j) k)) := by
  have two : ∀ a b : Int, nuMin2 (.int a) (.int b) = some (.int (min a b)) := fun a b => by
    show some (if decide (b < a) = true then V.int b else V.int a) = _
    by_cases h : b < a
    · rw [decide_eq_true h, if_pos rfl, Int.min_def, if_neg (by omega)]
    · rw [decide_eq_false h, if_neg Bool.false_ne_true, Int.min_def, if_pos (by omega)]
  show (nuMin2 (.int i) (.int j)).bind (fun m => nuMin2 m (.int k)) = _
  rw [two i j]
  exact two _ k
/-! the sum of a list or a tuple of numbers; a part of a list or a tuple -/
theorem sum_intTuple {prog : Program} {w : World} {A : Around} {E : Value → Shared → Prop} {s : Shared} {l : Addr} {xs : Array (Int × Tok)} {Q : Value → Shared → Prop} (hh : A.handled = none) (hl : s.heap.IsTuple l (intItems xs))
    (h : ∀ h' tk t', (∀ b o, s.heap.get? b = some o → h'.get? b = some o) → Q (.int (preSum (numAt xs) xs.size) t') { s with heap := h', toks := tk }) :
    wpAny (model prog w) A (call (.builtin "sum") [.ref l]) Q E s := by
  have hlt : l < s.heap.objs.size := by obtain ⟨_, e, _⟩ := id hl; exact Heap.lt_size e
  refine call_sum_walkG (wpAny_pyIter_tuple hl ?_)
  refine ⟨_, [_, l], [_], _, _, _, numAt xs, rfl, Walks.tuple (A := A.in1) hh s.heap.objs.size l (Nat.ne_of_lt hlt) (intItems xs), ⟨⟨_, Heap.get?_push_size _ rfl, rfl, rfl⟩, hl.push _⟩, fun c hc => ?_, (fun _ _ => intItems_at), fun h' tk t' hk => ?_⟩
  · show c < (s.heap.push _).objs.size
    rw [Heap.size_push]
    rcases List.mem_cons.mp hc with rfl | hc
    · exact Nat.lt_succ_self _
    · rcases List.mem_cons.mp hc with rfl | hc
      · exact Nat.lt_succ_of_lt hlt
      · cases hc
  · have := h h' tk t' fun b o e => hk b o (fun hm => by
      rcases List.mem_cons.mp hm with e1 | hm
      · exact absurd (e1 ▸ Heap.lt_size e) (Nat.lt_irrefl _)
      · cases hm) (Heap.get?_push_of_some _ e)
    simpa [intItems] using this
theorem sum_rawT {prog : Program} {w : World} {A : Around} {E : Value → Shared → Prop} {s : Shared} {l : Addr} {its : List Value} {ns : List Int} {Q : Value → Shared → Prop} (hh : A.handled = none) (hl : s.heap.IsTuple l its.toArray) (hi : IntsAre its ns)
    (h : ∀ h' tk t', (∀ b o, s.heap.get? b = some o → h'.get? b = some o) → Q (.int ns.sum t') { s with heap := h', toks := tk }) : wpAny (model prog w) A (call (.builtin "sum") [.ref l]) Q E s := by
  obtain ⟨xs, e⟩ := hi.allInts.items
  have hn : numsOf (intItems xs).toList = ns := by rw [← e]; exact hi.numsOf
  rw [nums_intItems] at hn
  rw [e] at hl
  refine sum_intTuple hh hl fun h' tk t' hk => ?_
  have := h h' tk t' hk
  rw [preSum_eq, List.take_of_length_le (by simp), hn]; exact this
def rSumB (K : PySem.W.Frag) : List V → Hp → VK → Prop := fun vs H Q => ∃ (a : Addr) (ns : List Int) (p : Bool), vs = [V.ref a] ∧ SqB K H a (ns.map V.int) p ∧ Q (.int ns.sum) H
theorem sumBK {X : Cx} {K : PySem.W.Frag} (hK : X.K = K) (hc : X.calm = true) : CallR X (.builtin "sum") (rSumB K) := by
  subst hK
  intro pins s σ H vs us Q I r h
  obtain ⟨a, ns, p, rfl, hs, q⟩ := h
  cases p with
  | true => exact cr_sum hc pins s σ H _ us Q I r ⟨a, ns, rfl, hs, q⟩
  | false =>
    obtain ⟨its, rv, hl, _⟩ := I.tuple hs
    rw [Vals.ref1 r]
    exact sum_rawT (I.ok.hd hc) hl rv.ints fun h' tk t' hk => ⟨.int _, H, I.kept hk, ⟨_, rfl⟩, q⟩
def rSlB (K : PySem.W.Frag) : V → Option Int → Option Int → Hp → VK → Prop := fun x lo hi H Q => ∃ (a : Addr) (xs : List V) (p : Bool), x = .ref a ∧ SqB K H a xs p ∧ ∀ (c : Addr) (H' : Hp), Same H H' → SqB K H' c (cutV xs lo hi) p → Q (.ref c) H'
theorem cut_whole {xs : List V} {lo hi : Option Int} (h : HT.sIx xs.length 0 lo = 0 ∧ HT.sIx xs.length xs.length hi = xs.length) : cutV xs lo hi = xs := by
  unfold cutV
  rw [h.1, h.2, List.drop_zero, Nat.sub_zero, List.take_length]
theorem slBK {X : Cx} {K : PySem.W.Frag} (hK : X.K = K) : SlR X (rSlB K) := by
  subst hK
  intro pins s σ H x v vl vu lo hi sl Q I rx hs pl pu h
  obtain ⟨a, xs, p, rfl, hx, q⟩ := h
  cases p with
  | true => exact sl_list pins s σ H _ v vl vu lo hi sl Q I rx hs pl pu ⟨a, xs, rfl, hx, fun c hc => q c _ (same_new hc) (SqL.of upd_same)⟩
  | false =>
    refine sl_tupA pins s σ H _ v vl vu lo hi sl Q I rx hs pl pu ⟨a, xs, rfl, hx, fun w => ?_, fun _ c hc => q c _ (same_new hc) (SqT.of upd_same)⟩
    refine q a H (.refl _) ?_
    rw [cut_whole w]
    exact hx
theorem cut_to' {xs : List V} {n : Nat} (h : n ≤ xs.length) : cutV xs none (some (n : Int)) = xs.take n := by
  unfold cutV
  rw [HT.sIx_none, HT.sIx_nat, Nat.min_eq_left h, Nat.sub_zero, List.drop_zero]
theorem same_none' {H H' : Hp} {a : Addr} (s : Same H H') (n : H' a = none) : H a = none := by
  cases e : H a with
  | none => rfl
  | some o =>
    have k := s _ _ e
    rw [n] at k
    cases k
theorem fr_new' {p c : Addr} {H H' : Hp} (F : Fr p H H') (n : H' c = none) (ne : c ≠ p) : H c = none := by
  cases e : H c with
  | none => rfl
  | some o =>
    have k := F _ _ ne e
    rw [n] at k
    cases k
/-! what a day tells -/
structure Dy where
  cs : List Int
  ks : List (Int × List Int)
  ss : List Int
structure DyOk (D : Dy) : Prop where
  h1 : 1 ≤ D.cs.length
  h2 : D.cs.length ≤ 48
  k1 : 1 ≤ D.ks.length
  k2 : D.ks.length ≤ 8
  ts : ∀ k ∈ D.ks, k.2.length = D.cs.length
  sl : D.ss.length = D.cs.length
def csum (D : Dy) (t : Nat) : Int := (D.cs.take t).sum
def kt (D : Dy) (p : Nat) : Int × List Int := D.ks.getD p (0, [])
def tkQ (D : Dy) (t : Nat) (prev : Nat → Int) : Nat → Int
  | 0 => min (prev (D.ks.length - 1)) (prev D.ks.length + D.ss.getD t 0)
  | q + 1 => min (min (if D.ks.length - (q + 1) = 0 then csum D (t + 1) else prev (D.ks.length - (q + 1) - 1)) (prev (D.ks.length - (q + 1)) + (kt D (D.ks.length - (q + 1))).2.getD t 0)) (tkQ D t prev q + (kt D (D.ks.length - (q + 1))).1)
/-- what a place has taken by so many hours -/
def tk (D : Dy) : Nat → Nat → Int
  | 0, _ => 0
  | t + 1, p => tkQ D t (tk D t) (D.ks.length - p)
theorem tk_zero (D : Dy) (p : Nat) : tk D 0 p = 0 := rfl
theorem tk_last (D : Dy) (t : Nat) : tk D (t + 1) D.ks.length = min (tk D t (D.ks.length - 1)) (tk D t D.ks.length + D.ss.getD t 0) := by
  show tkQ D t (tk D t) (D.ks.length - D.ks.length) = _
  rw [Nat.sub_self] <;> rfl
theorem tk_at {D : Dy} {t p : Nat} (h : p < D.ks.length) : tk D (t + 1) p = min (min (if p = 0 then csum D (t + 1) else tk D t (p - 1)) (tk D t p + (kt D p).2.getD t 0)) (tk D (t + 1) (p + 1) + (kt D p).1) := by
  show tkQ D t (tk D t) (D.ks.length - p) = min (min _ _) (tkQ D t (tk D t) (D.ks.length - (p + 1)) + _)
  obtain ⟨q, e⟩ : ∃ q, D.ks.length - p = q + 1 := ⟨D.ks.length - p - 1, by omega⟩
  have e1 : D.ks.length - (q + 1) = p := by omega
  have e2 : D.ks.length - (p + 1) = q := by omega
  rw [e, e2]
  show min (min (if D.ks.length - (q + 1) = 0 then _ else tk D t (D.ks.length - (q + 1) - 1)) (tk D t (D.ks.length - (q + 1)) + (kt D (D.ks.length - (q + 1))).2.getD t 0)) (tkQ D t (tk D t) q + (kt D (D.ks.length - (q + 1))).1) = _
  rw [e1]
/-- what each hour takes at a place -/
def rowI (D : Dy) (p : Nat) : List Int := (List.range D.cs.length).map fun t => tk D (t + 1) p - tk D t p
theorem row_len (D : Dy) (p : Nat) : (rowI D p).length = D.cs.length := by
  unfold rowI
  rw [List.length_map, List.length_range]
theorem row_get {D : Dy} {p t : Nat} (h : t < D.cs.length) : (rowI D p)[t]? = some (tk D (t + 1) p - tk D t p) := by
  unfold rowI
  rw [List.getElem?_map, List.getElem?_range h] <;> rfl
theorem row_sum (D : Dy) (p : Nat) : ∀ t, t ≤ D.cs.length → ((rowI D p).take t).sum = tk D t p := fun t => by
  induction t with
  | zero => intro _; rw [List.take_zero, tk_zero] <;> rfl
  | succ t ih =>
    intro h
    rw [take_one (row_get (by omega)), List.sum_append, ih (by omega), List.sum_cons, List.sum_nil]
    omega
/-! where a day stands -/
def IsB' (K : PySem.W.Frag) (H : Hp) (p a : Addr) (ns : List Int) (b : Bool) : Prop := SqB K H a (ns.map V.int) b ∧ a ≠ p
structure KtAt (K : PySem.W.Frag) (H : Hp) (p a : Addr) (k : Int × List Int) : Prop where
  ex : ∃ t b, SqT K H a [.int k.1, .ref t] ∧ IsB' K H p t k.2 b
structure DyP where
  c : Addr
  k : Addr
  s : Addr
  pc : Bool
  pk : Bool
  ps : Bool
  as : List Addr
structure DayAt (K : PySem.W.Frag) (H : Hp) (p a : Addr) (x : DyP) (D : Dy) : Prop where
  at_ : SqT K H a [.ref x.c, .ref x.k, .ref x.s]
  cs : IsB' K H p x.c D.cs x.pc
  ks : SqB K H x.k (x.as.map V.ref) x.pk
  kp : x.k ≠ p
  ss : IsB' K H p x.s D.ss x.ps
  len : x.as.length = D.ks.length
  kt : ∀ (j : Nat) (a : Addr) (k : Int × List Int), x.as[j]? = some a → D.ks[j]? = some k → KtAt K H p a k
theorem IsB'.same {K : PySem.W.Frag} {H H' : Hp} {p a : Addr} {ns : List Int} {b : Bool} (h : IsB' K H p a ns b) (s : Same H H') : IsB' K H' p a ns b := ⟨h.1.same s, h.2⟩
theorem SqB.fr {K : PySem.W.Frag} {H H' : Hp} {p a : Addr} {xs : List V} {b : Bool} {n : Nat} (h : SqB K H a xs b) (ne : a ≠ p) (B : BoxAt H p n) (f : Fr p H H') : SqB K H' a xs b := by
  cases b with
  | true =>
    rcases h with (h | ⟨o, h⟩) | h
    · exact .inl (.inl (f _ _ ne h))
    · exact .inl (.inr ⟨o, f _ _ ne h⟩)
    · exact .inr h
  | false => exact sqT_fr h B f
theorem IsB'.fr {K : PySem.W.Frag} {H H' : Hp} {p a : Addr} {ns : List Int} {b : Bool} {n : Nat} (h : IsB' K H p a ns b) (B : BoxAt H p n) (f : Fr p H H') : IsB' K H' p a ns b := ⟨SqB.fr h.1 h.2 B f, h.2⟩
theorem KtAt.same {K : PySem.W.Frag} {H H' : Hp} {p a : Addr} {k : Int × List Int} (h : KtAt K H p a k) (s : Same H H') : KtAt K H' p a k := by
  obtain ⟨t, b, h1, h2⟩ := h.ex
  exact ⟨t, b, Same.tup s h1, h2.same s⟩
theorem KtAt.fr {K : PySem.W.Frag} {H H' : Hp} {p a : Addr} {k : Int × List Int} {n : Nat} (h : KtAt K H p a k) (B : BoxAt H p n) (f : Fr p H H') : KtAt K H' p a k := by
  obtain ⟨t, b, h1, h2⟩ := h.ex
  exact ⟨t, b, sqT_fr h1 B f, h2.fr B f⟩
theorem DayAt.same {K : PySem.W.Frag} {H H' : Hp} {p a : Addr} {x : DyP} {D : Dy} (h : DayAt K H p a x D) (s : Same H H') : DayAt K H' p a x D :=
  ⟨Same.tup s h.at_, h.cs.same s, h.ks.same s, h.kp, h.ss.same s, h.len, fun j a k e1 e2 => (h.kt j a k e1 e2).same s⟩
theorem DayAt.fr {K : PySem.W.Frag} {H H' : Hp} {p a : Addr} {x : DyP} {D : Dy} {n : Nat} (h : DayAt K H p a x D) (B : BoxAt H p n) (f : Fr p H H') : DayAt K H' p a x D :=
  ⟨sqT_fr h.at_ B f, h.cs.fr B f, SqB.fr h.ks h.kp B f, h.kp, h.ss.fr B f, h.len, fun j a k e1 e2 => (h.kt j a k e1 e2).fr B f⟩
theorem DayAt.pot {K : PySem.W.Frag} {H : Hp} {p a : Addr} {x : DyP} {D : Dy} (h : DayAt K H p a x D) {j : Nat} (lt : j < D.ks.length) : ∃ ka t b, (x.as.map V.ref)[j]? = some (.ref ka) ∧ SqT K H ka [.int (KR.kt D j).1, .ref t] ∧ IsB' K H p t (KR.kt D j).2 b := by
  have e1 : x.as[j]? = some (x.as[j]'(by rw [h.len]; exact lt)) := List.getElem?_eq_getElem _
  have e2 : D.ks[j]? = some D.ks[j] := List.getElem?_eq_getElem lt
  obtain ⟨t, b, h1, h2⟩ := (h.kt j _ _ e1 e2).ex
  have e3 : KR.kt D j = D.ks[j] := by
    unfold KR.kt
    rw [List.getD_eq_getElem?_getD, e2] <;> rfl
  rw [e3]
  exact ⟨_, t, b, by rw [List.getElem?_map, e1] <;> rfl, h1, h2⟩
theorem ints_get {ns : List Int} {t : Nat} (h : t < ns.length) : (ns.map V.int)[t]? = some (.int (ns.getD t 0)) := by
  rw [List.getElem?_map, List.getD_eq_getElem?_getD, List.getElem?_eq_getElem h] <;> rfl
theorem kt_len {D : Dy} (O : DyOk D) {p : Nat} (h : p < D.ks.length) : (kt D p).2.length = D.cs.length := by
  refine O.ts _ ?_
  unfold kt
  rw [List.getD_eq_getElem?_getD, List.getElem?_eq_getElem h]
  exact List.getElem_mem h
theorem lenV_b {K : PySem.W.Frag} {H : Hp} {a : Addr} {xs : List V} {p : Bool} (h : SqB K H a xs p) : LenV K (.ref a) H xs.length := by
  cases p with
  | true => exact .inl ⟨xs, h, rfl⟩
  | false => exact .inr ⟨xs, h, rfl⟩
theorem ix_b {K : PySem.W.Frag} {H : Hp} {a : Addr} {xs : List V} {p : Bool} {i : Nat} {j : Int} {v : V} {Q : VK} (h : SqB K H a xs p) (e : j = (i : Int)) (g : xs[i]? = some v) (q : Q v H) : rIx K (.ref a) (.int j) H Q := by
  subst e
  cases p with
  | true => exact .inl ⟨a, xs, _, v, rfl, rfl, h, at_of rfl g, q⟩
  | false => exact .inr (.inl ⟨a, xs, _, v, rfl, rfl, h, at_of rfl g, q⟩)
/-! bounds -/
structure Bd where
  word : Str
  lead : Option (Int × Int)
  more : Int
def leadV (H : Hp) (l : V) : Option (Int × Int) → Prop
  | none => l = .non
  | some (p, h) => ∃ q, l = .ref q ∧ H q = some (.tup [.int p, .int h])
def BdAt (H : Hp) (kv : Key × V) (b : Bd) : Prop := kv.1 = .inr b.word ∧ ∃ t l, kv.2 = .ref t ∧ H t = some (.tup [l, .int b.more]) ∧ leadV H l b.lead
theorem leadV.same {H H' : Hp} {l : V} {o : Option (Int × Int)} (h : leadV H l o) (s : Same H H') : leadV H' l o := by
  cases o with
  | none => exact h
  | some x =>
    obtain ⟨q, e, h1⟩ := h
    exact ⟨q, e, s _ _ h1⟩
theorem BdAt.same {H H' : Hp} {kv : Key × V} {b : Bd} (h : BdAt H kv b) (s : Same H H') : BdAt H' kv b := by
  obtain ⟨h1, t, l, h2, h3, h4⟩ := h
  exact ⟨h1, t, l, h2, s _ _ h3, h4.same s⟩
/-- what bounds a place at an hour, that one behind so many hours -/
def firstB (D : Dy) (p t : Nat) : Bd := if p = 0 then ⟨"comes", none, csum D (t + 1)⟩ else ⟨"ahead", some ((p : Int) - 1, (t : Int) - 1), 0⟩
def bnds (D : Dy) (p : Nat) : Nat → List Bd
  | 0 => [⟨"begin", none, 0⟩]
  | t + 1 => if p = D.ks.length then [firstB D p t, ⟨"takes", some ((p : Int), (t : Int) - 1), D.ss.getD t 0⟩]
    else [firstB D p t, ⟨"takes", some ((p : Int), (t : Int) - 1), (kt D p).2.getD t 0⟩, ⟨"room", some ((p : Int) + 1, (t : Int)), (kt D p).1⟩]
def AllBd (H : Hp) (kvs : List (Key × V)) (bs : List Bd) : Prop := Paired (BdAt H) kvs bs
theorem AllBd.same {H H' : Hp} {kvs : List (Key × V)} {bs : List Bd} (h : AllBd H kvs bs) (s : Same H H') : AllBd H' kvs bs := by
  induction h with
  | nil => exact .nil
  | cons a _ ih => exact .cons (a.same s) ih
theorem AllBd.get {H : Hp} : ∀ {kvs : List (Key × V)} {bs : List Bd}, AllBd H kvs bs → ∀ {i : Nat} {kv : Key × V}, kvs[i]? = some kv → ∃ b, bs[i]? = some b ∧ BdAt H kv b
  | [], _, _, i, _, e => by simp at e
  | _ :: _, _, .cons a h, 0, _, e => by cases e; exact ⟨_, rfl, a⟩
  | _ :: _, _, .cons _ h, i + 1, _, e => AllBd.get h (i := i) e
theorem AllBd.len {H : Hp} {kvs : List (Key × V)} {bs : List Bd} (h : AllBd H kvs bs) : kvs.length = bs.length := Paired.length h
/-- a place and an hour as a key -/
def kk (p t : Nat) : List Key := [.inl (p : Int), .inl ((t : Int) - 1)]
theorem kk_inj {p t p' t' : Nat} (h : kk p t = kk p' t') : p = p' ∧ t = t' := by
  unfold kk at h
  injection h with h1 h2
  injection h2 with h3 h4
  injection h1 with h1
  injection h3 with h3
  omega
/-- what is told of places and hours -/
def Told (D : Dy) (kvs : List (List Key × V)) (d : Nat → Nat → Prop) : Prop := ∀ p t, d p t → valV kvs (kk p t) = some (.int (tk D t p))
theorem Told.put {D : Dy} {kvs : List (List Key × V)} {d d' : Nat → Nat → Prop} (h : Told D kvs d) (p t : Nat) (hd : ∀ p' t', d' p' t' → d p' t' ∨ (p' = p ∧ t' = t)) : Told D (putK kvs (kk p t) (.int (tk D t p))) d' := fun p' t' h' => by
  rw [valV_put]
  by_cases c : kk p' t' = kk p t
  · rw [if_pos c]
    obtain ⟨e1, e2⟩ := kk_inj c
    rw [e1, e2]
  · rw [if_neg c]
    rcases hd p' t' h' with g | ⟨e1, e2⟩
    · exact h p' t' g
    · exact absurd (by rw [e1, e2]) c
/-- what a bound comes to -/
def valB (D : Dy) (b : Bd) : Int := match b.lead with
  | none => b.more
  | some (p, h) => tk D (h + 1).toNat p.toNat + b.more
theorem min_mem {ns : List Int} {m a : Int} (h : m ∈ ns) (le : ∀ y ∈ ns, m ≤ y) (ha : a ∈ ns) (la : ∀ y ∈ ns, a ≤ y) : m = a := Int.le_antisymm (le a ha) (la m h)
/-- the least that the bounds come to is what has been taken -/
theorem bnds_min {D : Dy} {p t : Nat} (k1 : 1 ≤ D.ks.length) (hp : p ≤ D.ks.length) : tk D t p ∈ (bnds D p t).map (valB D) ∧ ∀ y ∈ (bnds D p t).map (valB D), tk D t p ≤ y := by
  cases t with
  | zero =>
    show (0 : Int) ∈ [(0 : Int)] ∧ ∀ y ∈ [(0 : Int)], 0 ≤ y
    exact ⟨List.mem_cons_self, fun y hy => by rw [List.mem_singleton.mp hy]; decide⟩
  | succ t =>
    have e1 : valB D (firstB D p t) = if p = 0 then csum D (t + 1) else tk D t (p - 1) := by
      unfold firstB
      by_cases c : p = 0
      · rw [if_pos c, if_pos c] <;> rfl
      · rw [if_neg c, if_neg c]
        show tk D ((t : Int) - 1 + 1).toNat ((p : Int) - 1).toNat + 0 = _
        rw [show ((t : Int) - 1 + 1).toNat = t by omega, show ((p : Int) - 1).toNat = p - 1 by omega, Int.add_zero]
    have e2 : ∀ m, valB D ⟨"takes", some ((p : Int), (t : Int) - 1), m⟩ = tk D t p + m := fun m => by
      show tk D ((t : Int) - 1 + 1).toNat ((p : Int)).toNat + m = _
      rw [show ((t : Int) - 1 + 1).toNat = t by omega, Int.toNat_natCast]
    have e3 : ∀ m, valB D ⟨"room", some ((p : Int) + 1, (t : Int)), m⟩ = tk D (t + 1) (p + 1) + m := fun m => by
      show tk D ((t : Int) + 1).toNat ((p : Int) + 1).toNat + m = _
      rw [show ((t : Int) + 1).toNat = t + 1 by omega, show ((p : Int) + 1).toNat = p + 1 by omega]
    by_cases c : p = D.ks.length
    · have eb : bnds D p (t + 1) = [firstB D p t, ⟨"takes", some ((p : Int), (t : Int) - 1), D.ss.getD t 0⟩] := if_pos c
      rw [eb, List.map_cons, List.map_cons, List.map_nil, e1, e2]
      have et := tk_last D t
      rw [← c] at et
      rw [et, if_neg (show ¬ p = 0 by omega)]
      refine ⟨?_, fun y hy => ?_⟩
      · simp only [List.mem_cons, List.not_mem_nil, or_false]
        omega
      · simp only [List.mem_cons, List.not_mem_nil, or_false] at hy
        omega
    · have eb : bnds D p (t + 1) = [firstB D p t, ⟨"takes", some ((p : Int), (t : Int) - 1), (kt D p).2.getD t 0⟩, ⟨"room", some ((p : Int) + 1, (t : Int)), (kt D p).1⟩] := if_neg c
      have et := tk_at (D := D) (t := t) (p := p) (by omega)
      rw [eb, List.map_cons, List.map_cons, List.map_cons, List.map_nil, e1, e2, e3]
      generalize (if p = 0 then csum D (t + 1) else tk D t (p - 1)) = fb at *
      refine ⟨?_, fun y hy => ?_⟩
      · simp only [List.mem_cons, List.not_mem_nil, or_false]
        omega
      · simp only [List.mem_cons, List.not_mem_nil, or_false] at hy
        omega
theorem same_frb {H0 H1 H2 : Hp} {b : Addr} (s : Same H0 H1) (n : H0 b = none) (f : Fr b H1 H2) : Same H0 H2 := fun c o e => f c o (ne_of_none e n) (s c o e)
/-- the lists of ints in a row, one upon another -/
def RowsAt (H : Hp) (rs : List Addr) (f : Nat → List Int) : Prop := ∀ (j : Nat) (r : Addr), rs[j]? = some r → H r = some (.lst ((f j).map V.int))
theorem leadV.frb {H H' : Hp} {b : Addr} {kb : List (Key × V)} {l : V} {o : Option (Int × Int)} (h : leadV H l o) (hb : H b = some (.dK kb)) (F : Fr b H H') : leadV H' l o := by
  cases o with
  | none => exact h
  | some y =>
    obtain ⟨q, e, h1⟩ := h
    exact ⟨q, e, F _ _ (ne_of h1 hb (by intro z; cases z)) h1⟩
theorem bnds_lead {D : Dy} {p t : Nat} {b : Bd} {p' h' : Int} (hp : p ≤ D.ks.length) (m : b ∈ bnds D p t) (e : b.lead = some (p', h')) : ∃ pn tn : Nat, p' = (pn : Int) ∧ h' = (tn : Int) - 1 ∧ pn ≤ D.ks.length ∧ (tn < t ∨ (tn = t ∧ p < pn)) := by
  cases t with
  | zero =>
    have e1 : b = ⟨"begin", none, 0⟩ := List.mem_singleton.mp m
    rw [e1] at e
    cases e
  | succ t =>
    have f1 : b = firstB D p t → ∃ pn tn : Nat, p' = (pn : Int) ∧ h' = (tn : Int) - 1 ∧ pn ≤ D.ks.length ∧ (tn < t + 1 ∨ (tn = t + 1 ∧ p < pn)) := fun z => by
      rw [z] at e
      unfold firstB at e
      by_cases c : p = 0
      · rw [if_pos c] at e
        cases e
      · rw [if_neg c] at e
        obtain ⟨rfl, rfl⟩ := Prod.mk.inj (Option.some.inj e)
        exact ⟨p - 1, t, by omega, rfl, by omega, .inl (by omega)⟩
    have f2 : ∀ x, b = ⟨"takes", some ((p : Int), (t : Int) - 1), x⟩ → ∃ pn tn : Nat, p' = (pn : Int) ∧ h' = (tn : Int) - 1 ∧ pn ≤ D.ks.length ∧ (tn < t + 1 ∨ (tn = t + 1 ∧ p < pn)) := fun x z => by
      rw [z] at e
      obtain ⟨rfl, rfl⟩ := Prod.mk.inj (Option.some.inj e)
      exact ⟨p, t, rfl, rfl, hp, .inl (by omega)⟩
    by_cases c : p = D.ks.length
    · rw [show bnds D p (t + 1) = [firstB D p t, ⟨"takes", some ((p : Int), (t : Int) - 1), D.ss.getD t 0⟩] from if_pos c] at m
      rcases List.mem_cons.mp m with z | z
      · exact f1 z
      · exact f2 _ (List.mem_singleton.mp z)
    · rw [show bnds D p (t + 1) = [firstB D p t, ⟨"takes", some ((p : Int), (t : Int) - 1), (kt D p).2.getD t 0⟩, ⟨"room", some ((p : Int) + 1, (t : Int)), (kt D p).1⟩] from if_neg c] at m
      rcases List.mem_cons.mp m with z | z
      · exact f1 z
      · rcases List.mem_cons.mp z with z | z
        · exact f2 _ z
        · rw [List.mem_singleton.mp z] at e
          obtain ⟨rfl, rfl⟩ := Prod.mk.inj (Option.some.inj e)
          exact ⟨p + 1, t + 1, by omega, by omega, by omega, .inr ⟨rfl, by omega⟩⟩
theorem bnds_len (D : Dy) (p t : Nat) : 0 < (bnds D p t).length := by
  cases t with
  | zero => exact Nat.zero_lt_succ _
  | succ t =>
    show 0 < (if p = D.ks.length then _ else _ : List Bd).length
    split <;> exact Nat.zero_lt_succ _
theorem bnds_len3 (D : Dy) (p t : Nat) : (bnds D p t).length ≤ 3 := by
  cases t with
  | zero => show 1 ≤ 3; decide
  | succ t =>
    show (if p = D.ks.length then _ else _ : List Bd).length ≤ 3
    split
    · show 2 ≤ 3
      decide
    · show 3 ≤ 3
      decide
/-- the first hour by which so many are struck -/
def FirstV (D : Dy) (m : Int) (v : V) : Prop := (∃ t : Nat, t < D.cs.length ∧ (∀ j, j < t → tk D (j + 1) D.ks.length < m) ∧ m ≤ tk D (t + 1) D.ks.length ∧ v = .int (t : Int)) ∨ ((∀ j, j < D.cs.length → tk D (j + 1) D.ks.length < m) ∧ v = .non)
/-- ladles that a day may have -/
def Ldl (ns : List Int) : Prop := ∀ z ∈ ns, 0 ≤ z ∧ z ≤ 1000000
structure DyNn (D : Dy) : Prop where
  cs : Ldl D.cs
  ks : ∀ k ∈ D.ks, 1 ≤ k.1 ∧ k.1 ≤ 1000000 ∧ Ldl k.2
  ss : Ldl D.ss
/-- kettles beside their lists -/
def KtF (K : PySem.W.Frag) (H : Hp) (p f : Addr) (a : Addr) (k : Int × List Int) : Prop := ∃ t, SqT K H a [.int k.1, .ref t] ∧ H t = some (.lst (k.2.map V.int)) ∧ t ≠ p ∧ t ≠ f
def PotsF (K : PySem.W.Frag) (H : Hp) (p f : Addr) (as : List Addr) (ks : List (Int × List Int)) : Prop := Paired (KtF K H p f) as ks
theorem KtF.same {K : PySem.W.Frag} {H H' : Hp} {p f a : Addr} {k : Int × List Int} (h : KtF K H p f a k) (s : Same H H') : KtF K H' p f a k := by
  obtain ⟨t, h1, h2, h3, h4⟩ := h
  exact ⟨t, Same.tup s h1, s _ _ h2, h3, h4⟩
theorem KtF.fr {K : PySem.W.Frag} {H H' : Hp} {p f a : Addr} {k : Int × List Int} {n : Nat} (h : KtF K H p f a k) (B : BoxAt H p n) (F : Fr p H H') : KtF K H' p f a k := by
  obtain ⟨t, h1, h2, h3, h4⟩ := h
  exact ⟨t, sqT_fr h1 B F, F _ _ h3 h2, h3, h4⟩
theorem KtF.put {K : PySem.W.Frag} {H : Hp} {p f a : Addr} {k : Int × List Int} {xs ys : List V} (h : KtF K H p f a k) (hf : H f = some (.lst xs)) : KtF K (upd H f (.lst ys)) p f a k := by
  obtain ⟨t, h1, h2, h3, h4⟩ := h
  exact ⟨t, sqT_frL h1 hf fr_upd, by rw [upd_ne h4]; exact h2, h3, h4⟩
theorem KtF.to {K : PySem.W.Frag} {H : Hp} {p f g a : Addr} {k : Int × List Int} (h : KtF K H p f a k) (n : H g = none) : KtF K H p g a k := by
  obtain ⟨t, h1, h2, h3, h4⟩ := h
  exact ⟨t, h1, h2, h3, ne_of_none h2 n⟩
theorem PotsF.map {K : PySem.W.Frag} {H H' : Hp} {p f g : Addr} {as : List Addr} {ks : List (Int × List Int)} (h : PotsF K H p f as ks) (m : ∀ a k, KtF K H p f a k → KtF K H' p g a k) : PotsF K H' p g as ks := by
  induction h with
  | nil => exact .nil
  | cons a _ ih => exact .cons (m _ _ a) ih
theorem PotsF.snoc {K : PySem.W.Frag} {H : Hp} {p f : Addr} {as : List Addr} {ks : List (Int × List Int)} {a : Addr} {k : Int × List Int} (h : PotsF K H p f as ks) (ha : KtF K H p f a k) : PotsF K H p f (as ++ [a]) (ks ++ [k]) := by
  induction h with
  | nil => exact .cons ha .nil
  | cons b _ ih => exact .cons b ih
theorem PotsF.get {K : PySem.W.Frag} {H : Hp} {p f : Addr} : ∀ {as : List Addr} {ks : List (Int × List Int)}, PotsF K H p f as ks → ∀ {j : Nat} {a : Addr}, as[j]? = some a → ∃ k, ks[j]? = some k ∧ KtF K H p f a k
  | [], _, _, j, _, e => by simp at e
  | _ :: _, _, .cons h _, 0, _, e => by cases e; exact ⟨_, rfl, h⟩
  | _ :: _, _, .cons _ h, j + 1, _, e => PotsF.get h (j := j) e
theorem PotsF.at_ {K : PySem.W.Frag} {H : Hp} {p f : Addr} {as : List Addr} {ks : List (Int × List Int)} (h : PotsF K H p f as ks) : ∀ (j : Nat) (a : Addr) (k : Int × List Int), as[j]? = some a → ks[j]? = some k → KtAt K H p a k := fun j a k e1 e2 => by
  obtain ⟨k', e3, t, h1, h2, h3, _⟩ := h.get e1
  rw [e2] at e3
  obtain rfl := Option.some.inj e3
  exact ⟨t, true, h1, SqL.of h2, h3⟩
theorem rep_ints (k : Nat) (z : Int) : (List.replicate ((k : Int)).toNat [V.int z]).flatten = (List.replicate k z).map V.int := by
  rw [Int.toNat_natCast, List.map_replicate]
  induction k with
  | zero => rfl
  | succ k ih => rw [List.replicate_succ, List.flatten_cons, ih, List.replicate_succ] <;> rfl
/-! tuple(x) of a list or a tuple -/
def rTupJ (K : PySem.W.Frag) : List V → Hp → VK → Prop := fun xs H Q => ∃ p ys, xs = [.ref p] ∧ ((SqL K H p ys ∧ ∀ l H', Same H H' → H l = none → H' l = some (.tup ys) → Q (.ref l) H') ∨ (SqT K H p ys ∧ Q (.ref p) H))
theorem tupJ {X : Cx} {K : PySem.W.Frag} (h : X.K = K) : CallR X (.type "tuple") (rTupJ K) := fun pins s σ H xs us Q I r ⟨p, ys, e, q⟩ =>
  call_tuple_of pins s σ H xs us Q I r ⟨p, ys, e, h ▸ q.imp (fun z => ⟨z.1, fun l hl => z.2 l _ (same_new hl) hl upd_same⟩) id⟩
/-! rows of numbers as data -/
theorem eqv_nums : ∀ (a b : List Int), PyData.eqvAll (a.map PyData.int) (b.map PyData.int) = decide (a = b)
  | [], [] => rfl
  | [], _ :: _ => rfl
  | _ :: _, [] => rfl
  | x :: a, y :: b => by
    show (PyData.eqv (.int x) (.int y) && PyData.eqvAll (a.map PyData.int) (b.map PyData.int)) = _
    rw [eqv_nums a b]
    show (decide (x = y) && _) = _
    by_cases c : x = y
    · subst c
      by_cases d : a = b
      · subst d
        simp
      · simp [d]
    · simp [c]
def din (ns : List Int) : PyData := .list (ns.map PyData.int)
theorem din_eqv (a b : List Int) : PyData.eqv (din a) (din b) = decide (a = b) := eqv_nums a b
theorem nums_dps {K : PySem.W.Frag} {H : Hp} : ∀ (ns : List Int), DpAll K H (ns.map V.int) (ns.map PyData.int)
  | [] => .nil
  | _ :: r => .cons (.int _) (nums_dps r)
theorem din_at {K : PySem.W.Frag} {H : Hp} {a : Addr} {ns : List Int} (h : H a = some (.lst (ns.map V.int))) : Dp K H (.ref a) (din ns) := .lst (SqL.of h) (nums_dps ns)
theorem nums_flat : ∀ (ns : List Int), PyData.canLayAll0 (ns.map PyData.int) = true ∧ PyData.depthAll (ns.map PyData.int) = 0
  | [] => ⟨rfl, rfl⟩
  | z :: r => by
    obtain ⟨h1, h2⟩ := nums_flat r
    refine ⟨?_, ?_⟩
    · show (PyData.canLay0 (.int z) && PyData.canLayAll0 (r.map PyData.int)) = true
      rw [h1] <;> rfl
    · show max (PyData.depth (.int z)) (PyData.depthAll (r.map PyData.int)) = 0
      rw [h2] <;> rfl
theorem din_shaped (ns : List Int) : SeqAt.shaped (din ns) = true := by
  obtain ⟨h1, h2⟩ := nums_flat ns
  show (PyData.canLayAll0 (ns.map PyData.int) && decide (PyData.depthAll (ns.map PyData.int) + 1 ≤ 64)) = true
  rw [h1, h2] <;> rfl
/-! the hours by which so many are struck -/
theorem filter_head {P : Nat → Bool} : ∀ (n t : Nat), t < n → P t = true → (∀ j, j < t → P j = false) → ∃ r, (List.range n).filter P = t :: r := fun n t lt pt no => by
  induction n with
  | zero => omega
  | succ n ih =>
    rw [List.range_succ, List.filter_append]
    by_cases c : t < n
    · obtain ⟨r, e⟩ := ih c
      rw [e]
      exact ⟨_, rfl⟩
    · have e : t = n := by omega
      subst e
      have e0 : (List.range t).filter P = [] := List.filter_eq_nil_iff.mpr fun j hj => by
        rw [no j (List.mem_range.mp hj)]
        exact Bool.false_ne_true
      rw [e0, List.nil_append, List.filter_cons, if_pos pt]
      exact ⟨_, rfl⟩
def hoursBy (D : Dy) (m : Int) : List Nat := (List.range D.cs.length).filter fun t => decide (m ≤ tk D (t + 1) D.ks.length)
theorem FirstV.hours {D : Dy} {m : Int} {v : V} (h : FirstV D m v) : (hoursBy D m = [] ∧ v = .non) ∨ ∃ t r, hoursBy D m = t :: r ∧ v = .int ((t : Nat) : Int) := by
  rcases h with ⟨t, lt, below, ge, rfl⟩ | ⟨below, rfl⟩
  · obtain ⟨r, e⟩ := filter_head (P := fun t => decide (m ≤ tk D (t + 1) D.ks.length)) D.cs.length t lt (decide_eq_true ge) fun j hj => decide_eq_false (by have := below j hj; omega)
    exact .inr ⟨t, r, e, rfl⟩
  · refine .inl ⟨List.filter_eq_nil_iff.mpr fun j hj => ?_, rfl⟩
    have := below j (List.mem_range.mp hj)
    rw [decide_eq_false (by omega)]
    exact Bool.false_ne_true
/-- what has been taken is neither below nought nor great -/
theorem csum_nn {D : Dy} (N : DyNn D) : ∀ t, 0 ≤ csum D t := fun t => by
  unfold csum
  have all : ∀ l : List Int, (∀ z ∈ l, 0 ≤ z) → 0 ≤ l.sum := fun l => by
    induction l with
    | nil => exact fun _ => Int.le_refl _
    | cons a r ih =>
      intro h
      have h1 := h a List.mem_cons_self
      have h2 := ih fun z hz => h z (List.mem_cons_of_mem _ hz)
      rw [List.sum_cons]
      omega
  exact all _ fun z hz => (N.cs z (List.mem_of_mem_take hz)).1
theorem ldl_at {ns : List Int} (h : Ldl ns) (t : Nat) : 0 ≤ ns.getD t 0 ∧ ns.getD t 0 ≤ 1000000 := by
  rw [List.getD_eq_getElem?_getD]
  cases e : ns[t]? with
  | none => exact ⟨by decide, by decide⟩
  | some z => exact h z (List.mem_of_getElem? e)
theorem kt_nn {D : Dy} (N : DyNn D) (p : Nat) : 0 ≤ (kt D p).1 ∧ Ldl (kt D p).2 := by
  unfold kt
  rw [List.getD_eq_getElem?_getD]
  cases e : D.ks[p]? with
  | none => exact ⟨by decide, fun z hz => absurd hz List.not_mem_nil⟩
  | some k =>
    have h := N.ks k (List.mem_of_getElem? e)
    exact ⟨by show 0 ≤ k.1; omega, h.2.2⟩
theorem tk_nn {D : Dy} (N : DyNn D) : ∀ t q p, p + q = D.ks.length → 0 ≤ tk D t p ∧ tk D t p ≤ 1000000 * t := fun t => by
  induction t with
  | zero =>
    intro q p _
    rw [tk_zero]
    omega
  | succ t ih =>
    intro q
    induction q with
    | zero =>
      intro p hp
      have e : p = D.ks.length := by omega
      subst e
      rw [tk_last]
      have h1 := ih 1 (D.ks.length - 1)
      have h0 := ih 0 D.ks.length rfl
      have s := ldl_at N.ss t
      by_cases c : D.ks.length = 0
      · rw [c] at h0 ⊢
        have e : tk D t (0 - 1) = tk D t 0 := rfl
        omega
      · have := h1 (by omega)
        omega
    | succ q ihq =>
      intro p hp
      rw [tk_at (by omega)]
      have h0 := ih (q + 1) p hp
      have h1 := ihq (p + 1) (by omega)
      have kn := kt_nn N p
      have s := ldl_at kn.2 t
      have c0 := csum_nn N (t + 1)
      by_cases c : p = 0
      · rw [if_pos c]
        omega
      · rw [if_neg c]
        have h2 := ih (q + 2) (p - 1) (by omega)
        omega
/-- a part of a row of numbers -/
theorem cut_nums (ns : List Int) (lo hi : Option Int) : ∃ ms : List Int, cutV (ns.map V.int) lo hi = ms.map V.int ∧ (∀ z ∈ ms, z ∈ ns) ∧ ms.length ≤ ns.length := by
  unfold cutV
  refine ⟨(ns.drop _).take _, by rw [List.map_take, List.map_drop], fun z hz => List.mem_of_mem_drop (List.mem_of_mem_take hz), ?_⟩
  rw [List.length_take, List.length_drop]
  omega
theorem rg_nums (a b : Int) : ∃ ms : List Int, rgV a b = ms.map V.int ∧ ms.length = (b - a).toNat := by
  refine ⟨(List.range (b - a).toNat).map fun i => a + (i : Nat), ?_, by rw [List.length_map, List.length_range]⟩
  unfold rgV
  rw [List.map_map] <;> rfl
/-- a day of tuples stands beside a list that is written -/
theorem DayAt.frT {K : PySem.W.Frag} {H H' : Hp} {p a q : Addr} {c k s : Addr} {as : List Addr} {D : Dy} {xs : List V} (h : DayAt K H p a ⟨c, k, s, false, false, false, as⟩ D) (F : Fr q H H') (hq : H q = some (.lst xs)) (tt : ∀ (j : Nat) (b : Addr) (k : Int × List Int), as[j]? = some b → D.ks[j]? = some k → ∃ t, SqT K H b [.int k.1, .ref t] ∧ SqT K H t (k.2.map V.int) ∧ t ≠ p) : DayAt K H' p a ⟨c, k, s, false, false, false, as⟩ D :=
  ⟨sqT_frL h.at_ hq F, ⟨sqT_frL h.cs.1 hq F, h.cs.2⟩, sqT_frL h.ks hq F, h.kp, ⟨sqT_frL h.ss.1 hq F, h.ss.2⟩, h.len, fun j b k e1 e2 => by
    obtain ⟨t, a1, a2, a3⟩ := tt j b k e1 e2
    exact ⟨t, false, sqT_frL a1 hq F, sqT_frL a2 hq F, a3⟩⟩
theorem same_new_fr {H0 H1 H2 : Hp} {p : Addr} (s : Same H0 H1) (n : H0 p = none) (f : Fr p H1 H2) : Same H0 H2 := fun c o e => f c o (ne_of_none e n) (s c o e)
end KR
/-! ### data of tuples, texts, numbers; repr of any of it -/
namespace KR
open PySem PySem.Spec PyProof.Rows L2
inductive Dg (K : PySem.W.Frag) (H : Hp) : Nat → V → PyData → Prop
  | non (n : Nat) : Dg K H n .non .none
  | int (n : Nat) (i : Int) : Dg K H n (.int i) (.int i)
  | str (n : Nat) (x : Str) : Dg K H n (.str x) (.str x)
  | tup {n : Nat} {a : Addr} {xs : List V} {ds : List PyData} : SqT K H a xs → xs.length = ds.length → (∀ (i : Nat) (x : V) (d : PyData), xs[i]? = some x → ds[i]? = some d → Dg K H n x d) → Dg K H (n + 1) (.ref a) (.tuple ds)
theorem Dg.on {K : PySem.W.Frag} {H H' : Hp} (k : ∀ a xs, SqT K H a xs → SqT K H' a xs) : ∀ {n : Nat} {v : V} {d : PyData}, Dg K H n v d → Dg K H' n v d := by
  intro n v d h
  induction h with
  | non n => exact .non n
  | int n i => exact .int n i
  | str n x => exact .str n x
  | tup h1 h2 _ ih => exact .tup (k _ _ h1) h2 ih
theorem Dg.same {K : PySem.W.Frag} {H H' : Hp} (s : Same H H') {n : Nat} {v : V} {d : PyData} (h : Dg K H n v d) : Dg K H' n v d := h.on fun _ _ q => Same.tup s q
theorem Dg.fr {K : PySem.W.Frag} {H H' : Hp} {p : Addr} {m n : Nat} {v : V} {d : PyData} (h : Dg K H n v d) (B : BoxAt H p m) (f : Fr p H H') : Dg K H' n v d := h.on fun _ _ q => sqT_fr q B f
theorem dps_of {K : PySem.W.Frag} {H : Hp} : ∀ {xs : List V} {ds : List PyData}, xs.length = ds.length → (∀ (i : Nat) (x : V) (d : PyData), xs[i]? = some x → ds[i]? = some d → Dp K H x d) → DpAll K H xs ds
  | [], [], _, _ => .nil
  | x :: xs, d :: ds, hl, h => .cons (h 0 x d rfl rfl) (dps_of (by rw [List.length_cons, List.length_cons] at hl; omega) fun i y e a b => h (i + 1) y e a b)
theorem Dg.dp {K : PySem.W.Frag} {H : Hp} {n : Nat} {v : V} {d : PyData} (h : Dg K H n v d) : Dp K H v d := by
  induction h with
  | non n => exact .non
  | int n i => exact .int i
  | str n x => exact .str x
  | tup h1 h2 _ ih => exact .tup h1 (dps_of h2 ih)
def DgAll (K : PySem.W.Frag) (H : Hp) (n : Nat) (xs : List V) (ds : List PyData) : Prop := xs.length = ds.length ∧ ∀ (i : Nat) (x : V) (d : PyData), xs[i]? = some x → ds[i]? = some d → Dg K H n x d
theorem DgAll.nil {K : PySem.W.Frag} {H : Hp} {n : Nat} : DgAll K H n [] [] := ⟨rfl, fun i x d h => by simp at h⟩
theorem DgAll.cons {K : PySem.W.Frag} {H : Hp} {n : Nat} {x : V} {d : PyData} {xs : List V} {ds : List PyData} (h : Dg K H n x d) (t : DgAll K H n xs ds) : DgAll K H n (x :: xs) (d :: ds) :=
  ⟨by rw [List.length_cons, List.length_cons, t.1], fun i u v hu hv => match i, hu, hv with
    | 0, hu, hv => by cases hu; cases hv; exact h
    | i + 1, hu, hv => t.2 i u v hu hv⟩
theorem DgAll.tup {K : PySem.W.Frag} {H : Hp} {n : Nat} {xs : List V} {ds : List PyData} {a : Addr} (t : DgAll K H n xs ds) (h : SqT K H a xs) : Dg K H (n + 1) (.ref a) (.tuple ds) := .tup h t.1 t.2
/-- data that can be shown -/
structure Fine (k w : Nat) (d : PyData) : Prop where
  lay : PyData.canLay0 d = true
  dep : PyData.depth d ≤ k
  wt : PyData.weight d ≤ w
  ish : PyData.intsShort 13 d = true
  sh : PyData.showable d = true
  nd : PyData.hasDict d = false
structure FineAll (k w : Nat) (ds : List PyData) : Prop where
  lay : PyData.canLayAll0 ds = true
  dep : PyData.depthAll ds ≤ k
  wt : PyData.weightAll ds ≤ w
  ish : PyData.intsShortAll 13 ds = true
  sh : PyData.showableAll ds = true
  nd : PyData.hasDictAll ds = false
theorem FineAll.nil (k : Nat) : FineAll k 0 [] := ⟨rfl, Nat.zero_le _, Nat.le_refl _, rfl, rfl, rfl⟩
theorem FineAll.cons {k a b : Nat} {d : PyData} {ds : List PyData} (h : Fine k a d) (t : FineAll k b ds) : FineAll k (a + 1 + b) (d :: ds) := by
  refine ⟨?_, ?_, ?_, ?_, ?_, ?_⟩
  · show (PyData.canLay0 d && PyData.canLayAll0 ds) = true
    rw [h.lay, t.lay] <;> rfl
  · show max (PyData.depth d) (PyData.depthAll ds) ≤ k
    have := h.dep
    have := t.dep
    omega
  · show PyData.weight d + 1 + PyData.weightAll ds ≤ a + 1 + b
    have := h.wt
    have := t.wt
    omega
  · show (PyData.intsShort 13 d && PyData.intsShortAll 13 ds) = true
    rw [h.ish, t.ish] <;> rfl
  · show (PyData.showable d && PyData.showableAll ds) = true
    rw [h.sh, t.sh] <;> rfl
  · show (PyData.hasDict d || PyData.hasDictAll ds) = false
    rw [h.nd, t.nd] <;> rfl
theorem FineAll.tup {k w : Nat} {ds : List PyData} (t : FineAll k w ds) : Fine (k + 1) w (.tuple ds) := ⟨t.lay, Nat.succ_le_succ t.dep, t.wt, t.ish, t.sh, t.nd⟩
theorem Fine.up {k k' w w' : Nat} {d : PyData} (h : Fine k w d) (h1 : k ≤ k') (h2 : w ≤ w') : Fine k' w' d := ⟨h.lay, Nat.le_trans h.dep h1, Nat.le_trans h.wt h2, h.ish, h.sh, h.nd⟩
theorem Fine.non (k : Nat) : Fine k 0 .none := ⟨rfl, Nat.zero_le _, Nat.le_refl _, rfl, rfl, rfl⟩
theorem nat_short : ∀ n < 1001, (PyData.shown (.int ((n : Nat) : Int))).length ≤ 13 ∧ PyData.weight (.int ((n : Nat) : Int)) ≤ 12 ∧ ((n : Nat) : Int).natAbs.log2 < 1920 := by decide +kernel
theorem Fine.int {i : Int} (k : Nat) (h0 : 0 ≤ i) (h1 : i ≤ 1000) : Fine k 12 (.int i) := by
  obtain ⟨n, rfl⟩ : ∃ n : Nat, i = (n : Int) := ⟨i.toNat, by omega⟩
  obtain ⟨e1, e2, e3⟩ := nat_short n (by omega)
  exact ⟨rfl, Nat.zero_le _, e2, decide_eq_true e1, decide_eq_true e3, rfl⟩
theorem Fine.minus (k : Nat) : Fine k 12 (.int (-1)) := ⟨rfl, Nat.zero_le _, by decide +kernel, by decide +kernel, by decide +kernel, rfl⟩
theorem Fine.str {x : Str} {n : Nat} (k : Nat) (h : x.length ≤ n) (c : ∀ c ∈ TL.tl x, c < 128) : Fine k n (.str x) := by
  refine ⟨?_, Nat.zero_le _, h, rfl, rfl, rfl⟩
  show PyData.strOk x = true
  unfold PyData.strOk
  rw [← Array.all_toList, List.all_eq_true]
  exact fun d hd => decide_eq_true (Nat.lt_trans (c d hd) (by decide))
theorem Fine.line {k w : Nat} {d : PyData} (h : Fine k w d) (hk : k ≤ 60) (hw : w ≤ 100000) : d.shown.length ≤ sizeLine := by
  have dep := h.dep
  have wt := h.wt
  have l : PyData.layable0 d = true := by
    show (PyData.canLay0 d && decide (PyData.depth d ≤ 64) && decide (PyData.weight d ≤ 2 ^ 20)) = true
    rw [h.lay, decide_eq_true (by omega), decide_eq_true (show PyData.weight d ≤ 2 ^ 20 by omega)] <;> rfl
  exact Nat.le_trans (shown_le13 l h.ish) (by decide)
/-- repr of any such data -/
def rReprV (K : PySem.W.Frag) : List V → Hp → VK → Prop := fun xs H Q => ∃ (v : V) (d : PyData) (k w : Nat), xs = [v] ∧ Dp K H v d ∧ Fine k w d ∧ k ≤ 60 ∧ w ≤ 100000 ∧ Q (.str d.shown) H
theorem cr_reprV {X : Cx} {K : PySem.W.Frag} (hK : X.K = K) (hg : X.A.guards = some []) (hu : X.A.units + 64 < cLine) : CallR X (.builtin "repr") (rReprV K) := by
  subst hK
  intro pn s σ H xs us Q I r want
  obtain ⟨v, d, k, w, rfl, dp, f, hk, hw, q⟩ := want
  have len := f.line hk hw
  have dep := f.dep
  cases r with
  | cons r1 r2 =>
    cases r2
    cases dp with
    | non =>
      cases r1
      exact PySem.P.repr_of_none ⟨.str _, H, I.tok _, ⟨_, rfl⟩, q⟩
    | bl b =>
      cases r1
      exact PySem.P.repr_of_bool ⟨.str _, H, I.tok _, ⟨_, rfl⟩, q⟩
    | int i =>
      obtain ⟨t, rfl⟩ := r1
      exact PySem.P.repr_of_int (of_decide_eq_true f.sh) ⟨.str _, H, I.tok _, ⟨_, rfl⟩, q⟩
    | str x =>
      obtain ⟨t, rfl⟩ := r1
      exact PySem.P.repr_of_str ⟨.str _, H, I.tok _, ⟨_, rfl⟩, q⟩ len
    | lst a1 a2 =>
      obtain ⟨as, rd⟩ := Dp.reads I _ _ _ (Dp.lst a1 a2) r1
      cases r1
      exact repr_of_reads' rd f.sh (PyData.noDict_hsm f.nd) hg (by omega) (fun _ _ e => e) (fun h' u tk hkk => ⟨.str _, H, I.kept (fun b o e => hkk b o e), ⟨_, rfl⟩, q⟩) len
    | tup a1 a2 =>
      obtain ⟨as, rd⟩ := Dp.reads I _ _ _ (Dp.tup a1 a2) r1
      cases r1
      exact repr_of_reads' rd f.sh (PyData.noDict_hsm f.nd) hg (by omega) (fun _ _ e => e) (fun h' u tk hkk => ⟨.str _, H, I.kept (fun b o e => hkk b o e), ⟨_, rfl⟩, q⟩) len
end KR
/-! ### plans of a day: a range that is kept; data of days -/
namespace KR
open PySem PySem.Spec PyProof.Rows L2
/-- a comprehension in a comprehension -/
theorem blkOk_in {N : List Str} {outer scope sc : Scope} {own : List (Str × Nat)} {cl : List (Str × Addr)} {C : Addr} {env : Env} (hs : env.scope = sc) (h : blkC N (relS outer sc) scope own = true) : BlkOk N (compEnvC outer cl C env).scope scope own := by
  subst hs
  exact blkOk_by h
/-- range(n) as a value -/
def tRngV (ta : TE) : TE := fun σ H Q => ta σ H fun x H1 => ∃ j : Int, x = .int j ∧ ∀ a, H1 a = none → Q (.ref a) (upd H1 a (.rng 0 j))
theorem pe_rngV {X : Cx} {a : Expr} {ta : TE} {p pos : Pos} (hg : Gl X "range") (hm : X.mg "range" = none) (ha : PE X a ta) (na : starEach [a] X.env = (false, eval a X.env) :: starEach [] X.env := by rfl) : PE X (.Call (.Name "range" p) [a] [] pos) (tRngV ta) := by
  refine ⟨fun pins s σ H Q I h => ?_⟩
  refine Call_ (ld_blt I hg hm boot_range (PyProof.Rows.callWith_type1 (one_arg ha I h (fun v s2 x H2 I2 r q => ?_) na) na))
  obtain ⟨n, rfl, q⟩ := q
  obtain ⟨t, rfl⟩ := r
  exact call_range_1 ⟨.ref s2.heap.objs.size, upd H2 s2.heap.objs.size (.rng 0 n), I2.laid (fun b u e => Heap.get?_push_of_some _ e) (Nat.le_refl _) ⟨_, _, _, Heap.get?_push_size _ rfl⟩, rfl, q _ (I2.hok.fresh (Nat.le_refl _))⟩
/-- a kept range, walked -/
def iRngV (te : TE) : TI := fun σ H R => te σ H fun x H1 => ∃ (a : Addr) (lo hi : Int), x = .ref a ∧ H1 a = some (.rng lo hi) ∧ (-(2 ^ 62) ≤ lo ∧ lo < 2 ^ 62 ∧ -(2 ^ 62) ≤ hi ∧ hi < 2 ^ 62) ∧ R (Itr lo (hi - lo).toNat) H1
theorem pi_rngV {X : Cx} {tg e : Expr} {te : TE} (he : PE X e te) : PI X tg e (iRngV te) := by
  refine ⟨fun pins s σ H R I h => ?_⟩
  refine thn (he.run pins s σ H _ I h) fun v s1 ⟨x, H1, I1, r1, q1⟩ => ?_
  obtain ⟨a, lo, hi, e, ha, ⟨h1, h2, h3, h4⟩, q⟩ := q1
  subst e
  cases r1
  obtain ⟨t, u, w, g⟩ := I1.hok a _ ha
  refine wpAny_pyIter_range (show IsRange s1.heap a lo hi 1 t u w from g) (small_one h1 h2 h3 h4) ?_
  refine pi_one (tk := s1.toks) I1 _ (turn_range _ lo (hi - lo).toNat) ?_ q
  have e1 : lo + ((0 : Nat) : Int) * 1 = lo := by simp
  have e2 : (((hi - lo).toNat : Nat) : Int) - ((0 : Nat) : Int) = Builtin.Range.rangeSize lo hi 1 := by rw [rangeSize_one]; split <;> omega
  show IsRangeIter _ _ (lo + ((0 : Nat) : Int) * 1) ((((hi - lo).toNat : Nat) : Int) - ((0 : Nat) : Int)) 1
  rw [e1, e2]
  exact Heap.get?_push_size _ rfl
/-! days as data that can be shown -/
theorem Fine.ldl {i : Int} (k : Nat) (h0 : 0 ≤ i) (h1 : i ≤ 1000000) : Fine k 20 (.int i) := by
  have n : i.natAbs < 2 ^ 20 := by omega
  have l : i.natAbs ≠ 0 → i.natAbs.log2 < 20 := fun z => (Nat.log2_lt z).mpr n
  refine ⟨rfl, Nat.zero_le _, ?_, decide_eq_true (PyData.shown_int_le (by omega)), decide_eq_true ?_, rfl⟩
  · show (if i == 0 then 0 else i.natAbs.log2 + 1) ≤ 20
    by_cases c : i = 0
    · rw [c]
      decide
    · rw [if_neg (by simpa using c)]
      have := l (by omega)
      omega
  · by_cases c : i.natAbs = 0
    · rw [c]
      decide
    · have := l c
      omega
theorem FineAll.ldl (k : Nat) : ∀ {ns : List Int}, Ldl ns → FineAll k (21 * ns.length) (ns.map PyData.int)
  | [], _ => FineAll.nil k
  | z :: r, h => by
    have a := Fine.ldl k (h z List.mem_cons_self).1 (h z List.mem_cons_self).2
    have b := FineAll.cons a (FineAll.ldl k (ns := r) fun y hy => h y (List.mem_cons_of_mem _ hy))
    have e : 20 + 1 + 21 * r.length = 21 * (z :: r).length := by rw [List.length_cons]; omega
    rw [e] at b
    exact b
theorem FineAll.lst {k w : Nat} {ds : List PyData} (t : FineAll k w ds) : Fine (k + 1) w (.list ds) := ⟨t.lay, Nat.succ_le_succ t.dep, t.wt, t.ish, t.sh, t.nd⟩
theorem ldl_dp {K : PySem.W.Frag} {H : Hp} {p t : Addr} {ns : List Int} {b : Bool} (h : IsB' K H p t ns b) (L : Ldl ns) (l : ns.length ≤ 48) : ∃ d, Fine 1 1008 d ∧ ∀ H', Same H H' → Dp K H' (.ref t) d := by
  have f := FineAll.ldl 0 L
  cases b with
  | true => exact ⟨.list (ns.map PyData.int), (FineAll.lst f).up (Nat.le_refl _) (by omega), fun H' s => .lst (h.same s).1 (nums_dps ns)⟩
  | false => exact ⟨.tuple (ns.map PyData.int), (FineAll.tup f).up (Nat.le_refl _) (by omega), fun H' s => .tup (h.same s).1 (nums_dps ns)⟩
theorem kts_dp {K : PySem.W.Frag} {H : Hp} {p : Addr} : ∀ (as : List Addr) (ks : List (Int × List Int)), as.length = ks.length → (∀ (j : Nat) (a : Addr) (k : Int × List Int), as[j]? = some a → ks[j]? = some k → KtAt K H p a k) → (∀ k ∈ ks, 0 ≤ k.1 ∧ k.1 ≤ 1000000 ∧ Ldl k.2 ∧ k.2.length ≤ 48) → ∃ ds, FineAll 2 (1100 * ks.length) ds ∧ ∀ H', Same H H' → DpAll K H' (as.map V.ref) ds
  | [], [], _, _, _ => ⟨[], FineAll.nil 2, fun _ _ => .nil⟩
  | a :: as, k :: ks, l, at_, ok => by
    obtain ⟨ds, f, dp⟩ := kts_dp as ks (by rw [List.length_cons, List.length_cons] at l; omega) (fun j a k e1 e2 => at_ (j + 1) a k e1 e2) fun k hk => ok k (List.mem_cons_of_mem _ hk)
    obtain ⟨t, b, h1, h2⟩ := (at_ 0 a k rfl rfl).ex
    obtain ⟨o1, o2, o3, o4⟩ := ok k List.mem_cons_self
    obtain ⟨dt, ft, dpt⟩ := ldl_dp h2 o3 o4
    have fk := FineAll.tup (FineAll.cons (Fine.ldl 1 o1 o2) (FineAll.cons ft (FineAll.nil 1)))
    have fa := FineAll.cons (fk.up (w' := 1099) (Nat.le_refl _) (by omega)) f
    refine ⟨.tuple [.int k.1, dt] :: ds, ?_, fun H' s => .cons (.tup (Same.tup s h1) (.cons (.int _) (.cons (dpt H' s) .nil))) (dp H' s)⟩
    have e : 1099 + 1 + 1100 * ks.length = 1100 * (k :: ks).length := by rw [List.length_cons]; omega
    rw [e] at fa
    exact fa
theorem DayAt.shows {K : PySem.W.Frag} {H : Hp} {p a : Addr} {x : DyP} {D : Dy} (h : DayAt K H p a x D) (O : DyOk D) (N : DyNn D) : ∃ d, Fine 4 20000 d ∧ ∀ H', Same H H' → Dp K H' (.ref a) d := by
  have h2 := O.h2
  have k2 := O.k2
  obtain ⟨dc, fc, dpc⟩ := ldl_dp h.cs N.cs h2
  obtain ⟨dss, fs, dps⟩ := ldl_dp h.ss N.ss (by rw [O.sl]; exact h2)
  obtain ⟨dk, fk, dpk⟩ := kts_dp x.as D.ks h.len h.kt fun k hk => ⟨by have := (N.ks k hk).1; omega, (N.ks k hk).2.1, (N.ks k hk).2.2, by rw [O.ts k hk]; exact h2⟩
  have mid : ∃ d2, Fine 3 (1100 * D.ks.length) d2 ∧ PyData.depth d2 ≤ 3 ∧ ∀ H', Same H H' → Dp K H' (.ref x.k) d2 := by
    have hk := h.ks
    cases e : x.pk with
    | true =>
      rw [e] at hk
      exact ⟨.list dk, FineAll.lst fk, (FineAll.lst fk).dep, fun H' s => .lst (Same.seq s hk) (dpk H' s)⟩
    | false =>
      rw [e] at hk
      exact ⟨.tuple dk, FineAll.tup fk, (FineAll.tup fk).dep, fun H' s => .tup (Same.tup s hk) (dpk H' s)⟩
  obtain ⟨d2, f2, _, dp2⟩ := mid
  refine ⟨.tuple [dc, d2, dss], ?_, fun H' s => .tup (Same.tup s h.at_) (.cons (dpc H' s) (.cons (dp2 H' s) (.cons (dps H' s) .nil)))⟩
  have f := FineAll.tup (FineAll.cons (fc.up (k' := 3) (by decide) (Nat.le_refl _)) (FineAll.cons f2 (FineAll.cons (fs.up (k' := 3) (by decide) (Nat.le_refl _)) (FineAll.nil 3))))
  exact f.up (Nat.le_refl _) (by omega)
/-- a plan as data -/
def planD (D : Dy) : PyData := .list ((List.range (D.ks.length + 1)).map fun j => din (rowI D j))
theorem nums_dk {K : PySem.W.Frag} {H : Hp} {r : Addr} {ns : List Int} (n : Nat) (h : H r = some (.lst (ns.map V.int))) (l : ns.length ≤ 100000) : Dk K H (n + 2) (.ref r) (din ns) :=
  .lst h (by rw [List.length_map, List.length_map]) (by rw [List.length_map]; exact l) fun i x d e1 e2 => by
    rw [List.getElem?_map] at e1 e2
    obtain ⟨z, ez, rfl⟩ := Option.map_eq_some_iff.mp e1
    rw [ez] at e2
    cases e2
    exact .int n z
theorem plan_dk {K : PySem.W.Frag} {H : Hp} {f : Addr} {rs : List Addr} {D : Dy} (O : DyOk D) (hf : H f = some (.lst (rs.map V.ref))) (lr : rs.length = D.ks.length + 1) (rows : ∀ (j : Nat) (r : Addr), rs[j]? = some r → H r = some (.lst ((rowI D j).map V.int))) : Dk K H 5 (.ref f) (planD D) := by
  have k2 := O.k2
  have h2 := O.h2
  refine .lst hf (by rw [List.length_map, List.length_map, List.length_range, lr]) (by rw [List.length_map]; omega) fun i x d e1 e2 => ?_
  rw [List.getElem?_map] at e1 e2
  obtain ⟨r, er, rfl⟩ := Option.map_eq_some_iff.mp e1
  obtain ⟨j, ej, rfl⟩ := Option.map_eq_some_iff.mp e2
  obtain ⟨hi, rfl⟩ := List.getElem?_eq_some_iff.mp ej
  rw [List.getElem_range]
  exact nums_dk 2 (rows i r er) (by rw [row_len]; omega)
/-- how many are struck in all -/
def mostD (D : Dy) : Int := tk D D.cs.length D.ks.length
end KR
/-! ### papers: rows of bounds, each what the one ahead of it leads to -/
namespace KR
open PySem PySem.Spec PyProof.Rows L2
/-- two tuples that hold something, one behind the other -/
def rCatTP (K : PySem.W.Frag) : R2 := fun x y H Q => ∃ a b xs ys, x = .ref a ∧ y = .ref b ∧ SqT K H a xs ∧ SqT K H b ys ∧ xs ≠ [] ∧ ys ≠ [] ∧ xs.length + ys.length ≤ sizeLine ∧ ∀ p H', Same H H' → H p = none → H' p = some (.tup (xs ++ ys)) → Q (.ref p) H'
theorem op_catTP {X : Cx} {K : PySem.W.Frag} (hK : X.K = K) : OpR X (binaryOp .Add) (rCatTP K) := by
  subst hK
  intro pins s σ H x y v u Q I rx ry ⟨a, b, xs, ys, e1, e2, h1, h2, n1, n2, z, k⟩
  exact op_catT pins s σ H x y v u Q I rx ry ⟨a, b, xs, ys, e1, e2, h1, h2, n1, z, fun e => absurd e n2, fun _ p hp => k p _ (same_new hp) hp upd_same⟩
/-- a row of bounds from a place and an hour on, and what they come to -/
inductive Chain (D : Dy) : Nat → Nat → List (Str × Nat × Nat) → Int → Prop
  | last {p t : Nat} {b : Bd} : b ∈ bnds D p t → b.lead = none → Chain D p t [(b.word, p, t)] b.more
  | step {p t p' t' : Nat} {b : Bd} {l : List (Str × Nat × Nat)} {m : Int} : b ∈ bnds D p t → b.lead = some ((p' : Int), (t' : Int) - 1) → p' ≤ D.ks.length → t' ≤ t → Chain D p' t' l m → Chain D p t ((b.word, p, t) :: l) (m + b.more)
/-- the first bound that lets no more be taken -/
def FirstT (D : Dy) (p t : Nat) (b : Bd) : Prop := ∃ r, (bnds D p t).filter (fun b => decide (valB D b = tk D t p)) = b :: r
inductive TChain (D : Dy) : Nat → Nat → List (Str × Nat × Nat) → Prop
  | last {p t : Nat} {b : Bd} : FirstT D p t b → b.lead = none → TChain D p t [(b.word, p, t)]
  | step {p t p' t' : Nat} {b : Bd} {l : List (Str × Nat × Nat)} : FirstT D p t b → b.lead = some ((p' : Int), (t' : Int) - 1) → TChain D p' t' l → TChain D p t ((b.word, p, t) :: l)
theorem FirstT.uniq {D : Dy} {p t : Nat} {b c : Bd} (h1 : FirstT D p t b) (h2 : FirstT D p t c) : b = c := by
  obtain ⟨r, e1⟩ := h1
  obtain ⟨r', e2⟩ := h2
  rw [e1] at e2
  injection e2
theorem FirstT.mem {D : Dy} {p t : Nat} {b : Bd} (h : FirstT D p t b) : b ∈ bnds D p t := by
  obtain ⟨r, e⟩ := h
  exact (List.mem_filter.mp (show b ∈ (bnds D p t).filter (fun b => decide (valB D b = tk D t p)) by rw [e]; exact List.mem_cons_self)).1
theorem TChain.uniq {D : Dy} : ∀ {p t : Nat} {l l' : List (Str × Nat × Nat)}, TChain D p t l → TChain D p t l' → l = l' := by
  intro p t l l' h
  induction h generalizing l' with
  | last f n =>
    intro h'
    cases h' with
    | last f' n' => rw [f.uniq f']
    | step f' s' _ =>
      rw [← f.uniq f', n] at s'
      cases s'
  | step f s _ ih =>
    intro h'
    cases h' with
    | last f' n' =>
      rw [← f.uniq f', s] at n'
      cases n'
    | step f' s' c' =>
      have e := f.uniq f'
      subst e
      rw [s] at s'
      obtain ⟨e1, e2⟩ := Prod.mk.inj (Option.some.inj s')
      have n1 : ∀ a b : Nat, (a : Int) = (b : Int) → a = b := fun a b h => by omega
      have n2 : ∀ a b : Nat, (a : Int) - 1 = (b : Int) - 1 → a = b := fun a b h => by omega
      have e1 := n1 _ _ e1
      have e2 := n2 _ _ e2
      subst e1
      subst e2
      rw [ih c']
/-- the words are plain -/
theorem bnds_lay {D : Dy} {p t : Nat} {b : Bd} (m : b ∈ bnds D p t) : PyData.canLay0 (.str b.word) = true := by
  have all : b.word = "begin" ∨ b.word = "comes" ∨ b.word = "ahead" ∨ b.word = "takes" ∨ b.word = "room" := by
    have f1 : ∀ q, (firstB D p q).word = "comes" ∨ (firstB D p q).word = "ahead" := fun q => by
      unfold firstB
      split
      · exact .inl rfl
      · exact .inr rfl
    cases t with
    | zero => exact .inl (by rw [List.mem_singleton.mp m] <;> rfl)
    | succ t =>
      have hm : b = firstB D p t ∨ b.word = "takes" ∨ b.word = "room" := by
        by_cases c : p = D.ks.length
        · rw [show bnds D p (t + 1) = [firstB D p t, ⟨"takes", some ((p : Int), (t : Int) - 1), D.ss.getD t 0⟩] from if_pos c] at m
          rcases List.mem_cons.mp m with z | z
          · exact .inl z
          · exact .inr (.inl (by rw [List.mem_singleton.mp z] <;> rfl))
        · rw [show bnds D p (t + 1) = [firstB D p t, ⟨"takes", some ((p : Int), (t : Int) - 1), (kt D p).2.getD t 0⟩, ⟨"room", some ((p : Int) + 1, (t : Int)), (kt D p).1⟩] from if_neg c] at m
          rcases List.mem_cons.mp m with z | z
          · exact .inl z
          · rcases List.mem_cons.mp z with z | z
            · exact .inr (.inl (by rw [z] <;> rfl))
            · exact .inr (.inr (by rw [List.mem_singleton.mp z] <;> rfl))
      rcases hm with z | z | z
      · rw [z]
        rcases f1 t with y | y
        · exact .inr (.inl y)
        · exact .inr (.inr (.inl y))
      · exact .inr (.inr (.inr (.inl z)))
      · exact .inr (.inr (.inr (.inr z)))
  rcases all with e | e | e | e | e <;> rw [e] <;> decide +kernel
/-- a paper as data -/
def dpB (e : Str × Nat × Nat) : PyData := .tuple [.str e.1, .int (e.2.1 : Int), .int ((e.2.2 : Int) - 1)]
def dpP (l : List (Str × Nat × Nat)) : PyData := .list (l.map dpB)
theorem TChain.lay {D : Dy} {p t : Nat} {l : List (Str × Nat × Nat)} (h : TChain D p t l) : PyData.canLayAll0 (l.map dpB) = true ∧ PyData.depthAll (l.map dpB) ≤ 1 := by
  have one : ∀ {b : Bd} {p t : Nat} (l : List (Str × Nat × Nat)), FirstT D p t b → PyData.canLayAll0 (l.map dpB) = true ∧ PyData.depthAll (l.map dpB) ≤ 1 → PyData.canLayAll0 (((b.word, p, t) :: l).map dpB) = true ∧ PyData.depthAll (((b.word, p, t) :: l).map dpB) ≤ 1 := fun {b p t} l f ⟨h1, h2⟩ => by
    have hb := bnds_lay f.mem
    refine ⟨?_, ?_⟩
    · show ((PyData.canLay0 (.str b.word) && (true && (true && true))) && PyData.canLayAll0 (l.map dpB)) = true
      rw [hb, h1] <;> rfl
    · show max 1 (PyData.depthAll (l.map dpB)) ≤ 1
      omega
  induction h with
  | last f _ => exact one [] f ⟨rfl, Nat.zero_le _⟩
  | step f _ _ ih => exact one _ f ih
theorem pair_shaped {D : Dy} {p t : Nat} {l : List (Str × Nat × Nat)} (h : TChain D p t l) (m : Int) : SeqAt.shaped (.tuple [.int m, dpP l]) = true := by
  obtain ⟨h1, h2⟩ := h.lay
  show ((true && (PyData.canLayAll0 (l.map dpB) && true)) && decide (max 0 (max (PyData.depthAll (l.map dpB) + 1) 0) + 1 ≤ 64)) = true
  rw [h1, decide_eq_true (by omega)] <;> rfl
/-- bounds as tuples -/
def bdTup (e : Str × Nat × Nat) : HO := .tup [.str e.1, .int (e.2.1 : Int), .int ((e.2.2 : Int) - 1)]
def PaperAt (H : Hp) (rs : List Addr) (l : List (Str × Nat × Nat)) : Prop := rs.length = l.length ∧ ∀ (j : Nat) (r : Addr) (e : Str × Nat × Nat), rs[j]? = some r → l[j]? = some e → H r = some (bdTup e)
theorem PaperAt.same {H H' : Hp} {rs : List Addr} {l : List (Str × Nat × Nat)} (h : PaperAt H rs l) (s : Same H H') : PaperAt H' rs l := ⟨h.1, fun j r e a b => s _ _ (h.2 j r e a b)⟩
theorem PaperAt.nil (H : Hp) : PaperAt H [] [] := ⟨rfl, fun j r e a _ => by simp at a⟩
theorem PaperAt.snoc {H : Hp} {rs : List Addr} {l : List (Str × Nat × Nat)} {r : Addr} {e : Str × Nat × Nat} (h : PaperAt H rs l) (hr : H r = some (bdTup e)) : PaperAt H (rs ++ [r]) (l ++ [e]) := by
  refine ⟨by rw [List.length_append, List.length_append, h.1] <;> rfl, fun j r' e' a b => ?_⟩
  by_cases c : j < rs.length
  · rw [List.getElem?_append_left c] at a
    rw [List.getElem?_append_left (by rw [← h.1]; exact c)] at b
    exact h.2 j r' e' a b
  · have jl : j = rs.length := by
      have := (List.getElem?_eq_some_iff.mp a).1
      rw [List.length_append, List.length_singleton] at this
      omega
    subst jl
    rw [List.getElem?_append_right (Nat.le_refl _), Nat.sub_self] at a
    rw [h.1, List.getElem?_append_right (Nat.le_refl _), Nat.sub_self] at b
    cases a
    cases b
    exact hr
/-- no two bounds have the same word -/
theorem bnds_words (D : Dy) (p t : Nat) : ((bnds D p t).map (·.word)).Nodup := by
  cases t with
  | zero => show (["begin"] : List Str).Nodup; simp
  | succ t =>
    show ((if p = D.ks.length then _ else _ : List Bd).map _).Nodup
    split
    · show [(firstB D p t).word, ("takes" : Str)].Nodup
      unfold firstB
      split
      · show (["comes", "takes"] : List Str).Nodup; decide
      · show (["ahead", "takes"] : List Str).Nodup; decide
    · show [(firstB D p t).word, ("takes" : Str), ("room" : Str)].Nodup
      unfold firstB
      split
      · show (["comes", "takes", "room"] : List Str).Nodup; decide
      · show (["ahead", "takes", "room"] : List Str).Nodup; decide
/-- what is kept under a word -/
theorem AllBd.at_ {H : Hp} : ∀ {kvs : List (Key × V)} {bs : List Bd}, AllBd H kvs bs → (bs.map (·.word)).Nodup → ∀ b ∈ bs, ∃ v, valV kvs (.inr b.word : Key) = some v ∧ BdAt H (.inr b.word, v) b
  | _, _, .nil, _, b, m => absurd m List.not_mem_nil
  | (k, v) :: kvs, c :: bs, .cons h t, nd, b, m => by
    rw [List.map_cons] at nd
    have nd' := List.nodup_cons.mp nd
    have hk : k = .inr c.word := h.1
    rcases List.mem_cons.mp m with e | m'
    · subst e
      refine ⟨v, ?_, rfl, h.2⟩
      unfold valV
      rw [List.find?_cons_of_pos (by simpa using hk)] <;> rfl
    · obtain ⟨v', e1, e2⟩ := AllBd.at_ t nd'.2 b m'
      refine ⟨v', ?_, e2⟩
      have ne : ¬ k = .inr b.word := fun e => nd'.1 (by
        rw [hk] at e
        injection e with e
        rw [e]
        exact List.mem_map.mpr ⟨b, m', rfl⟩)
      unfold valV at e1 ⊢
      rw [List.find?_cons_of_neg (by simpa using ne)]
      exact e1
theorem paper_dps {K : PySem.W.Frag} {H : Hp} : ∀ {rs : List Addr} {l : List (Str × Nat × Nat)}, rs.length = l.length → (∀ (j : Nat) (r : Addr) (e : Str × Nat × Nat), rs[j]? = some r → l[j]? = some e → H r = some (bdTup e)) → DpAll K H (rs.map V.ref) (l.map dpB)
  | [], [], _, _ => .nil
  | r :: rs, e :: l, n, h => .cons (.tup (SqT.of (h 0 r e rfl rfl)) (.cons (.str _) (.cons (.int _) (.cons (.int _) .nil)))) (paper_dps (by rw [List.length_cons, List.length_cons] at n; omega) fun j r' e' a b => h (j + 1) r' e' a b)
theorem paper_dp {K : PySem.W.Frag} {H : Hp} {f : Addr} {rs : List Addr} {l : List (Str × Nat × Nat)} (hf : H f = some (.lst (rs.map V.ref))) (h : PaperAt H rs l) : Dp K H (.ref f) (dpP l) := .lst (SqL.of hf) (paper_dps h.1 h.2)
end KR
/-! ### things of any make, and xs[a:c] = ys -/
namespace KR
open PySem PySem.Spec PyProof.Rows L2
/-- xs[a:c] = ys, ys another list -/
def gSlS (to tl th : TE) : TG := fun v σ H Q => to σ H fun x H1 => tl σ H1 fun a H2 => th σ H2 fun c H3 => ∃ (l b : Addr) (xs ys : List V) (i j : Int), x = .ref l ∧ v = .ref b ∧ a = .int i ∧ c = .int j ∧ H3 l = some (.lst xs) ∧ H3 b = some (.lst ys) ∧ l ≠ b ∧ 0 ≤ i ∧ i ≤ j ∧ j ≤ xs.length ∧ xs.length + ys.length ≤ sizeLine ∧ Q σ (upd H3 l (.lst (xs.take i.toNat ++ ys ++ xs.drop j.toNat)))
theorem pg_slS {X : Cx} {o lo hi : Expr} {to tl th : TE} {p2 pos : Pos} (ho : PE X o to) (hl : PE X lo tl) (hh : PE X hi th)
    (ha : ∀ v, assign (.Subscript o (.Slice (some lo) (some hi) none p2) pos) X.env v = (do
      let ov ← holding [v] (eval o X.env)
      let iv ← holding [v, ov] (eval (.Slice (some lo) (some hi) none p2) X.env)
      standAt pos
      holding [v, ov, iv] (setItem ov iv v)
      release [iv, v, ov] []) := by intro _; rfl) : PG X (.Subscript o (.Slice (some lo) (some hi) none p2) pos) (gSlS to tl th) := by
  refine ⟨fun pins s σ H v u Q I r h => ?_⟩
  rw [ha]
  refine wpAny_bind (wpAny_holding (thn (ho.run pins s σ H _ I h) fun ov s1 ⟨x, H1, I1, r1, q1⟩ => ?_))
  refine wpAny_bind (wpAny_holding ?_)
  refine wpAny_Slice ?_
  rw [evalPart_some]
  refine thn (hl.run pins s1 σ H1 _ I1 q1) fun vl s2 ⟨a, H2, I2, ra, q2⟩ => ?_
  rw [evalPart_some]
  refine thn (hh.run pins s2 σ H2 _ I2 q2) fun vu s3 ⟨c, H3, I3, rc, q3⟩ => ?_
  rw [evalPart_none]
  refine wpAny_pure ?_
  obtain ⟨l, b, xs, ys, i, j, rfl, rfl, rfl, rfl, hx, hb, ne, i0, ij, jl, z, q⟩ := q3
  have I4 : Inv X pins σ H3 { s3 with heap := s3.heap.push { cls := .type "slice", data := .fields #[vl, vu, .none] } } := I3.kept (t' := s3.toks) fun b ob q => Heap.get?_push_of_some _ q
  obtain rfl : ov = .ref l := r1
  obtain rfl : u = .ref b := r
  refine wpAny_bind (wpAny_standAt (wpAny_bind (wpAny_holding ?_)))
  refine set_slice I4 hx hb ne (Heap.IsSliceOf.new ..) ra rc i0 ij jl z fun s5 I5 => ?_
  exact wpAny_release ⟨σ, _, I5, q⟩
/-- things whose lists are none of ours to write: ints to a bound, truths, None, texts, rows of such -/
inductive Tg (K : PySem.W.Frag) (p : Addr → Prop) (H : Hp) (B : Nat) : Nat → V → PyData → Prop
  | non (n : Nat) : Tg K p H B n .non .none
  | bl (n : Nat) (b : Bool) : Tg K p H B n (.bl b) (.bool b)
  | int (n : Nat) (i : Int) (h : i.natAbs ≤ B) : Tg K p H B n (.int i) (.int i)
  | str (n : Nat) (x : Str) (w : Nat) (l : x.length ≤ 10) (c : ∀ c ∈ TL.tl x, c < 128) : Tg K p H B n (.str x) (.str x)
  | lst {n : Nat} {a : Addr} {xs : List V} {ds : List PyData} : H a = some (.lst xs) → ¬ p a → xs.length = ds.length → (∀ (i : Nat) (x : V) (d : PyData), xs[i]? = some x → ds[i]? = some d → Tg K p H B n x d) → Tg K p H B (n + 1) (.ref a) (.list ds)
  | tup {n : Nat} {a : Addr} {xs : List V} {ds : List PyData} : SqT K H a xs → xs.length = ds.length → (∀ (i : Nat) (x : V) (d : PyData), xs[i]? = some x → ds[i]? = some d → Tg K p H B n x d) → Tg K p H B (n + 1) (.ref a) (.tuple ds)
theorem Tg.same {K : PySem.W.Frag} {p : Addr → Prop} {B : Nat} {H H' : Hp} (s : Same H H') : ∀ {n : Nat} {v : V} {d : PyData}, Tg K p H B n v d → Tg K p H' B n v d := by
  intro n v d h
  induction h with
  | non n => exact .non n
  | bl n b => exact .bl n b
  | int n i h => exact .int n i h
  | str n x w l c => exact .str n x w l c
  | lst h1 h2 h3 _ ih => exact .lst (s _ _ h1) h2 h3 ih
  | tup h1 h2 _ ih => exact .tup (Same.tup s h1) h2 ih
theorem Tg.fr {K : PySem.W.Frag} {p : Addr → Prop} {q : Addr} (hq : p q) {B m : Nat} {H H' : Hp} (b : BoxAt H q m) (F : Fr q H H') : ∀ {n : Nat} {v : V} {d : PyData}, Tg K p H B n v d → Tg K p H' B n v d := by
  intro n v d h
  induction h with
  | non n => exact .non n
  | bl n b => exact .bl n b
  | int n i h => exact .int n i h
  | str n x w l c => exact .str n x w l c
  | lst h1 h2 h3 _ ih => exact .lst (F _ _ (fun z => h2 (z ▸ hq)) h1) h2 h3 ih
  | tup h1 h2 _ ih => exact .tup (sqT_fr h1 b F) h2 ih
theorem Tg.up {K : PySem.W.Frag} {p : Addr → Prop} {B B' : Nat} {H : Hp} (hB : B ≤ B') : ∀ {n : Nat} {v : V} {d : PyData}, Tg K p H B n v d → ∀ {m : Nat}, n ≤ m → Tg K p H B' m v d := by
  intro n v d h
  induction h with
  | non n => exact fun _ => .non _
  | bl n b => exact fun _ => .bl _ b
  | int n i h => exact fun _ => .int _ i (Nat.le_trans h hB)
  | str n x w l c => exact fun _ => .str _ x w l c
  | lst h1 h2 h3 _ ih =>
    intro m le
    obtain ⟨k, rfl⟩ : ∃ k, m = k + 1 := ⟨m - 1, by omega⟩
    exact .lst h1 h2 h3 fun i x d a b => ih i x d a b (by omega)
  | tup h1 h2 _ ih =>
    intro m le
    obtain ⟨k, rfl⟩ : ∃ k, m = k + 1 := ⟨m - 1, by omega⟩
    exact .tup h1 h2 fun i x d a b => ih i x d a b (by omega)
theorem Tg.dp {K : PySem.W.Frag} {p : Addr → Prop} {B : Nat} {H : Hp} {n : Nat} {v : V} {d : PyData} (h : Tg K p H B n v d) : Dp K H v d := by
  induction h with
  | non n => exact .non
  | bl n b => exact .bl b
  | int n i h => exact .int i
  | str n x w l c => exact .str x
  | lst h1 h2 h3 _ ih => exact .lst (SqL.of h1) (dps_of h3 ih)
  | tup h1 h2 _ ih => exact .tup h1 (dps_of h2 ih)
/-- how much there is to a thing -/
theorem Tg.fine {K : PySem.W.Frag} {p : Addr → Prop} {B : Nat} {H : Hp} (b12 : B < 10 ^ 12) {n : Nat} {v : V} {d : PyData} (h : Tg K p H B n v d) : ∃ w, Fine n w d := by
  have many : ∀ {n : Nat} {xs : List V} {ds : List PyData}, xs.length = ds.length → (∀ (i : Nat) (x : V) (d : PyData), xs[i]? = some x → ds[i]? = some d → ∃ w, Fine n w d) → ∃ w, FineAll n w ds := fun {n} => by
    intro xs
    induction xs with
    | nil =>
      intro ds l _
      cases ds with
      | nil => exact ⟨0, FineAll.nil n⟩
      | cons d ds => cases l
    | cons x xs ih =>
      intro ds l at_
      cases ds with
      | nil => cases l
      | cons d ds =>
        obtain ⟨w1, f1⟩ := at_ 0 x d rfl rfl
        obtain ⟨w2, f2⟩ := ih (by rw [List.length_cons, List.length_cons] at l; omega) fun i x d e1 e2 => at_ (i + 1) x d e1 e2
        exact ⟨_, FineAll.cons f1 f2⟩
  induction h with
  | non n => exact ⟨0, Fine.non n⟩
  | bl n b => exact ⟨0, ⟨rfl, Nat.zero_le _, Nat.le_refl _, rfl, rfl, rfl⟩⟩
  | int n i h =>
    have z : i.natAbs < 10 ^ 12 := by omega
    have e : (10 : Nat) ^ 12 < 2 ^ 40 := by decide
    refine ⟨PyData.weight (.int i), ⟨rfl, Nat.zero_le _, Nat.le_refl _, decide_eq_true (PyData.shown_int_le z), decide_eq_true ?_, rfl⟩⟩
    by_cases c : i.natAbs = 0
    · rw [c]
      decide
    · have := (Nat.log2_lt c).mpr (Nat.lt_trans z e)
      omega
  | str n x w l c => exact ⟨10, Fine.str n l c⟩
  | lst h1 h2 h3 _ ih =>
    obtain ⟨w, f⟩ := many h3 ih
    exact ⟨w, FineAll.lst f⟩
  | tup h1 h2 _ ih =>
    obtain ⟨w, f⟩ := many h2 ih
    exact ⟨w, FineAll.tup f⟩
/-- rows of things -/
def TgAll (K : PySem.W.Frag) (p : Addr → Prop) (H : Hp) (B n : Nat) (xs : List V) (ds : List PyData) : Prop := xs.length = ds.length ∧ ∀ (i : Nat) (x : V) (d : PyData), xs[i]? = some x → ds[i]? = some d → Tg K p H B n x d
theorem TgAll.nil {K : PySem.W.Frag} {p : Addr → Prop} {H : Hp} {B n : Nat} : TgAll K p H B n [] [] := ⟨rfl, fun i x d h => by simp at h⟩
theorem TgAll.cons {K : PySem.W.Frag} {p : Addr → Prop} {H : Hp} {B n : Nat} {x : V} {d : PyData} {xs : List V} {ds : List PyData} (h : Tg K p H B n x d) (t : TgAll K p H B n xs ds) : TgAll K p H B n (x :: xs) (d :: ds) :=
  ⟨by rw [List.length_cons, List.length_cons, t.1], fun i u v hu hv => match i, hu, hv with
    | 0, hu, hv => by cases hu; cases hv; exact h
    | i + 1, hu, hv => t.2 i u v hu hv⟩
theorem TgAll.tail {K : PySem.W.Frag} {p : Addr → Prop} {H : Hp} {B n : Nat} {x : V} {d : PyData} {xs : List V} {ds : List PyData} (t : TgAll K p H B n (x :: xs) (d :: ds)) : Tg K p H B n x d ∧ TgAll K p H B n xs ds :=
  ⟨t.2 0 x d rfl rfl, by have := t.1; rw [List.length_cons, List.length_cons] at this; omega, fun i u v hu hv => t.2 (i + 1) u v hu hv⟩
theorem TgAll.app {K : PySem.W.Frag} {p : Addr → Prop} {H : Hp} {B n : Nat} : ∀ {xs : List V} {ds : List PyData} {ys : List V} {es : List PyData}, TgAll K p H B n xs ds → TgAll K p H B n ys es → TgAll K p H B n (xs ++ ys) (ds ++ es)
  | [], [], _, _, _, h => h
  | [], _ :: _, _, _, h, _ => by have := h.1; cases this
  | _ :: _, [], _, _, h, _ => by have := h.1; cases this
  | _ :: _, _ :: _, _, _, h, h' => .cons h.tail.1 (TgAll.app h.tail.2 h')
theorem TgAll.take {K : PySem.W.Frag} {p : Addr → Prop} {H : Hp} {B n : Nat} {xs : List V} {ds : List PyData} (h : TgAll K p H B n xs ds) (k : Nat) : TgAll K p H B n (xs.take k) (ds.take k) :=
  ⟨by rw [List.length_take, List.length_take, h.1], fun i x d e1 e2 => by
    rw [List.getElem?_take] at e1 e2
    split at e1
    · rename_i c
      rw [if_pos c] at e2
      exact h.2 i x d e1 e2
    · cases e1⟩
theorem TgAll.drop {K : PySem.W.Frag} {p : Addr → Prop} {H : Hp} {B n : Nat} {xs : List V} {ds : List PyData} (h : TgAll K p H B n xs ds) (k : Nat) : TgAll K p H B n (xs.drop k) (ds.drop k) :=
  ⟨by rw [List.length_drop, List.length_drop, h.1], fun i x d e1 e2 => by
    rw [List.getElem?_drop] at e1 e2
    exact h.2 _ x d e1 e2⟩
theorem TgAll.rev {K : PySem.W.Frag} {p : Addr → Prop} {H : Hp} {B n : Nat} : ∀ {xs : List V} {ds : List PyData}, TgAll K p H B n xs ds → TgAll K p H B n xs.reverse ds.reverse
  | [], [], _ => .nil
  | [], _ :: _, h => by have := h.1; cases this
  | _ :: _, [], h => by have := h.1; cases this
  | _ :: _, _ :: _, h => by
    rw [List.reverse_cons, List.reverse_cons]
    exact TgAll.app (TgAll.rev h.tail.2) (.cons h.tail.1 .nil)
theorem TgAll.same {K : PySem.W.Frag} {p : Addr → Prop} {H H' : Hp} {B n : Nat} {xs : List V} {ds : List PyData} (h : TgAll K p H B n xs ds) (s : Same H H') : TgAll K p H' B n xs ds := ⟨h.1, fun i x d e1 e2 => (h.2 i x d e1 e2).same s⟩
theorem TgAll.fr {K : PySem.W.Frag} {p : Addr → Prop} {H H' : Hp} {B n m : Nat} {xs : List V} {ds : List PyData} {q : Addr} (hq : p q) (h : TgAll K p H B n xs ds) (b : BoxAt H q m) (F : Fr q H H') : TgAll K p H' B n xs ds := ⟨h.1, fun i x d e1 e2 => (h.2 i x d e1 e2).fr hq b F⟩
theorem TgAll.up {K : PySem.W.Frag} {p : Addr → Prop} {H : Hp} {B B' n m : Nat} {xs : List V} {ds : List PyData} (h : TgAll K p H B n xs ds) (hB : B ≤ B') (le : n ≤ m) : TgAll K p H B' m xs ds := ⟨h.1, fun i x d e1 e2 => (h.2 i x d e1 e2).up hB le⟩
/-- numbers and truths as numbers -/
def numOf : V → Option Int
  | .int i => some i
  | .bl b => some (if b = true then 1 else 0)
  | _ => none
def rNb (f : Int → Int → Int) : R2 := fun x y H Q => ∃ i j, numOf x = some i ∧ y = .int j ∧ Q (.int (f i j)) H
theorem op_addNb {X : Cx} : OpR X (binaryOp .Add) (rNb fun i j => i + j) := by
  intro pins s σ H x y v u Q I rx ry ⟨i, j, e, e2, q⟩
  cases x <;> try (cases e; done)
  case bl b =>
    cases e
    subst e2
    obtain ⟨t, rfl⟩ := ry
    cases rx
    exact PySem.IntBool.add_bool_int ⟨.int _, H, I.tok _, ⟨_, rfl⟩, q⟩
  case int i => cases e; exact op_add pins s σ H _ y v u Q I rx ry ⟨_, j, rfl, e2, q⟩
theorem op_subNb {X : Cx} : OpR X (binaryOp .Sub) (rNb fun i j => i - j) := by
  intro pins s σ H x y v u Q I rx ry ⟨i, j, e, e2, q⟩
  cases x <;> try (cases e; done)
  case bl b =>
    cases e
    subst e2
    obtain ⟨t, rfl⟩ := ry
    cases rx
    exact PySem.IntBool.sub_bool_int ⟨.int _, H, I.tok _, ⟨_, rfl⟩, q⟩
  case int i => cases e; exact op_sub pins s σ H _ y v u Q I rx ry ⟨_, j, rfl, e2, q⟩
/-- how a thing looks: a leaf, or a row -/
theorem Tg.look {K : PySem.W.Frag} {p : Addr → Prop} {q : Addr} (hq : p q) {B : Nat} {H : Hp} {n : Nat} {v : V} {d : PyData} (hB : 1 ≤ B) (h : Tg K p H B n v d) :
    (∃ (t : String) (bi : Bool), (∀ H2, TyX K H2 v (.type t)) ∧ kitB t "list" = some false ∧ kitB t "tuple" = some false ∧ kitB t "int" = some bi ∧ (bi = true → (∃ i, numOf v = some i ∧ i.natAbs ≤ B) ∧ SeqAt.shaped d = true)) ∨
    (∃ (t : String) (bl bt : Bool) (a : Addr) (xs : List V) (ds : List PyData) (m : Nat), v = .ref a ∧ n = m + 1 ∧ (∀ (H' : Hp) (mm : Nat), BoxAt H q mm → Fr q H H' → TyX K H' v (.type t)) ∧ kitB t "list" = some bl ∧ kitB t "tuple" = some bt ∧ (bl = false → bt = true) ∧ (SqL K H a xs ∨ SqT K H a xs) ∧ TgAll K p H B m xs ds ∧ PyData.weight d = PyData.weightAll ds) := by
  cases h with
  | non n => exact .inl ⟨"NoneType", false, fun _ => .base .non, by decide +kernel, by decide +kernel, by decide +kernel, fun z => nomatch z⟩
  | bl n b => exact .inl ⟨"bool", true, fun _ => .base (.bl b), by decide +kernel, by decide +kernel, by decide +kernel, fun _ => ⟨⟨_, rfl, by cases b <;> simp <;> omega⟩, rfl⟩⟩
  | int n i h => exact .inl ⟨"int", true, fun _ => .base (.int i), by decide +kernel, by decide +kernel, by decide +kernel, fun _ => ⟨⟨_, rfl, h⟩, rfl⟩⟩
  | str n x w l c => exact .inl ⟨"str", false, fun _ => .base (.str x), by decide +kernel, by decide +kernel, by decide +kernel, fun z => nomatch z⟩
  | lst h1 h2 h3 h4 => exact .inr ⟨"list", true, false, _, _, _, _, rfl, rfl, fun H' mm b F => .base (.lst (F _ _ (fun z => h2 (z ▸ hq)) h1)), by decide +kernel, by decide +kernel, (fun z => nomatch z), .inl (SqL.of h1), ⟨h3, h4⟩, rfl⟩
  | tup h1 h2 h3 => exact .inr ⟨"tuple", false, true, _, _, _, _, rfl, rfl, fun H' mm b F => sqT_ty (sqT_fr h1 b F), by decide +kernel, by decide +kernel, fun _ => rfl, .inr h1, ⟨h2, h3⟩, rfl⟩
theorem wt_int {i : Int} (h : i.natAbs < 2 ^ 21) : PyData.weight (.int i) ≤ 21 := by
  show (if i == 0 then 0 else i.natAbs.log2 + 1) ≤ 21
  by_cases c : i = 0
  · rw [c]
    decide
  · rw [if_neg (by simpa using c)]
    have := (Nat.log2_lt (show i.natAbs ≠ 0 by omega)).mpr h
    omega
theorem TgAll.at_ {K : PySem.W.Frag} {p : Addr → Prop} {H : Hp} {B n : Nat} {xs : List V} {ds : List PyData} (h : TgAll K p H B n xs ds) {i : Nat} (lt : i < xs.length) : ∃ x d, xs[i]? = some x ∧ ds[i]? = some d ∧ Tg K p H B n x d := by
  have l2 : i < ds.length := by rw [← h.1]; exact lt
  exact ⟨xs[i], ds[i], List.getElem?_eq_getElem lt, List.getElem?_eq_getElem l2, h.2 i _ _ (List.getElem?_eq_getElem lt) (List.getElem?_eq_getElem l2)⟩
theorem wa_app : ∀ (a b : List PyData), PyData.weightAll (a ++ b) = PyData.weightAll a + PyData.weightAll b
  | [], b => by rw [List.nil_append]; show _ = 0 + _; omega
  | x :: a, b => by
    show PyData.weight x + 1 + PyData.weightAll (a ++ b) = (PyData.weight x + 1 + PyData.weightAll a) + _
    rw [wa_app a b]
    omega
theorem wa_cut (a : List PyData) (k : Nat) : PyData.weightAll (a.take k) + PyData.weightAll (a.drop k) = PyData.weightAll a := by
  rw [← wa_app, List.take_append_drop]
theorem wa_rev : ∀ (a : List PyData), PyData.weightAll a.reverse = PyData.weightAll a
  | [] => rfl
  | x :: a => by
    rw [List.reverse_cons, wa_app, wa_rev a]
    show _ + (PyData.weight x + 1 + 0) = PyData.weight x + 1 + _
    omega
theorem wa_at {a : List PyData} {k : Nat} {d : PyData} (h : a[k]? = some d) : PyData.weightAll (a.take k) + (PyData.weight d + 1) + PyData.weightAll (a.drop (k + 1)) = PyData.weightAll a := by
  obtain ⟨lt, e⟩ := List.getElem?_eq_some_iff.mp h
  have h1 := wa_cut a k
  rw [List.drop_eq_getElem_cons lt, e] at h1
  have h2 : PyData.weightAll (d :: a.drop (k + 1)) = PyData.weight d + 1 + PyData.weightAll (a.drop (k + 1)) := rfl
  rw [h2] at h1
  omega
theorem TgAll.set {K : PySem.W.Frag} {p : Addr → Prop} {H : Hp} {B n : Nat} {xs : List V} {ds : List PyData} (h : TgAll K p H B n xs ds) {k : Nat} {x : V} {d : PyData} (hx : Tg K p H B n x d) : TgAll K p H B n (xs.set k x) (ds.set k d) := by
  refine ⟨by rw [List.length_set, List.length_set]; exact h.1, fun i y e e1 e2 => ?_⟩
  rw [List.getElem?_set] at e1 e2
  by_cases c : k = i
  · subst c
    rw [if_pos rfl] at e1 e2
    split at e1
    · cases e1
      split at e2
      · cases e2
        exact hx
      · cases e2
    · cases e1
  · rw [if_neg c] at e1 e2
    exact h.2 i y e e1 e2
theorem wa_set {a : List PyData} {k : Nat} {d e : PyData} (h : a[k]? = some d) : PyData.weightAll (a.set k e) + PyData.weight d = PyData.weightAll a + PyData.weight e := by
  obtain ⟨lt, _⟩ := List.getElem?_eq_some_iff.mp h
  have h1 := wa_at h
  rw [List.set_eq_take_append_cons_drop, if_pos lt, wa_app]
  have h2 : PyData.weightAll (e :: a.drop (k + 1)) = PyData.weight e + 1 + PyData.weightAll (a.drop (k + 1)) := rfl
  rw [h2]
  omega
/-- a row of things whose list is written anew -/
theorem TgAll.put {K : PySem.W.Frag} {p : Addr → Prop} {H0 H : Hp} {B n : Nat} {xs ys : List V} {ds : List PyData} {r : Addr} (h : TgAll K p H0 B n xs ds) (s : Same H0 H) (nr : H0 r = none) : TgAll K p (upd H r (.lst ys)) B n xs ds := h.same (Same.put s nr)
/-- a part of a row of things -/
theorem TgAll.cut {K : PySem.W.Frag} {p : Addr → Prop} {H : Hp} {B n : Nat} {xs : List V} {ds : List PyData} (h : TgAll K p H B n xs ds) (lo hi : Option Int) : ∃ es, TgAll K p H B n (cutV xs lo hi) es ∧ PyData.weightAll es ≤ PyData.weightAll ds := by
  unfold cutV
  refine ⟨_, (h.drop _).take _, ?_⟩
  have h1 := wa_cut (ds.drop (HT.sIx xs.length 0 lo)) (HT.sIx xs.length xs.length hi - HT.sIx xs.length 0 lo)
  have h2 := wa_cut ds (HT.sIx xs.length 0 lo)
  omega
theorem wa_len : ∀ l : List PyData, l.length ≤ PyData.weightAll l
  | [] => Nat.le_refl _
  | y :: l => by
    have := wa_len l
    show l.length + 1 ≤ PyData.weight y + 1 + PyData.weightAll l
    omega
/-- things that avoid more -/
theorem Tg.avoid {K : PySem.W.Frag} {p : Addr → Prop} {r : Addr} {B : Nat} {H0 : Hp} (s : H0 r = none) : ∀ {n : Nat} {v : V} {d : PyData}, Tg K p H0 B n v d → Tg K (fun a => p a ∨ a = r) H0 B n v d := by
  intro n v d h
  induction h with
  | non n => exact .non n
  | bl n b => exact .bl n b
  | int n i h => exact .int n i h
  | str n x w l c => exact .str n x w l c
  | lst h1 h2 h3 _ ih => exact .lst h1 (fun z => z.elim h2 (ne_of_none h1 s)) h3 ih
  | tup h1 h2 _ ih => exact .tup h1 h2 ih
theorem Tg.less {K : PySem.W.Frag} {p p' : Addr → Prop} (le : ∀ a, p' a → p a) {B : Nat} {H : Hp} : ∀ {n : Nat} {v : V} {d : PyData}, Tg K p H B n v d → Tg K p' H B n v d := by
  intro n v d h
  induction h with
  | non n => exact .non n
  | bl n b => exact .bl n b
  | int n i h => exact .int n i h
  | str n x w l c => exact .str n x w l c
  | lst h1 h2 h3 _ ih => exact .lst h1 (fun z => h2 (le _ z)) h3 ih
  | tup h1 h2 _ ih => exact .tup h1 h2 ih
/-- a list that things avoid is written -/
theorem Tg.wr {K : PySem.W.Frag} {p : Addr → Prop} {r : Addr} (hr : p r) {B : Nat} {H : Hp} {xs ys : List V} (h0 : H r = some (.lst xs)) : ∀ {n : Nat} {v : V} {d : PyData}, Tg K p H B n v d → Tg K p (upd H r (.lst ys)) B n v d := by
  intro n v d h
  induction h with
  | non n => exact .non n
  | bl n b => exact .bl n b
  | int n i h => exact .int n i h
  | str n x w l c => exact .str n x w l c
  | lst h1 h2 h3 _ ih => exact .lst ((upd_ne (fun z => h2 (by rw [z]; exact hr))).trans h1) h2 h3 ih
  | tup h1 h2 _ ih => exact .tup (sqT_frL h1 h0 fr_upd) h2 ih
theorem TgAll.wr {K : PySem.W.Frag} {p : Addr → Prop} {r : Addr} (hr : p r) {B n : Nat} {H : Hp} {xs ys : List V} (h0 : H r = some (.lst xs)) {zs : List V} {ds : List PyData} (h : TgAll K p H B n zs ds) : TgAll K p (upd H r (.lst ys)) B n zs ds := ⟨h.1, fun i x d e1 e2 => (h.2 i x d e1 e2).wr hr h0⟩
theorem TgAll.less {K : PySem.W.Frag} {p p' : Addr → Prop} (le : ∀ a, p' a → p a) {B n : Nat} {H : Hp} {zs : List V} {ds : List PyData} (h : TgAll K p H B n zs ds) : TgAll K p' H B n zs ds := ⟨h.1, fun i x d e1 e2 => (h.2 i x d e1 e2).less le⟩
end KR
/-! ### what a thing of any make is -/
namespace KR
open PySem PySem.Spec PyProof.Rows L2
def isL : PyData → Bool
  | .list _ => true
  | _ => false
def isT : PyData → Bool
  | .tuple _ => true
  | _ => false
def isS : PyData → Bool
  | .str _ => true
  | _ => false
def isI : PyData → Bool
  | .int _ => true
  | _ => false
def isBo : PyData → Bool
  | .bool _ => true
  | _ => false
theorem Tg.ty {K : PySem.W.Frag} {p : Addr → Prop} {H : Hp} {B n : Nat} {v : V} {d : PyData} (h : Tg K p H B n v d) : ∃ t : String, TyX K H v (.type t) ∧ kitB t "list" = some (isL d) ∧ kitB t "tuple" = some (isT d) ∧ kitB t "int" = some (isI d || isBo d) ∧ kitB t "bool" = some (isBo d) ∧ kitB t "str" = some (isS d) := by
  cases h with
  | non n => exact ⟨"NoneType", .base .non, by show kitB "NoneType" "list" = some false; decide +kernel, by show kitB "NoneType" "tuple" = some false; decide +kernel, by show kitB "NoneType" "int" = some false; decide +kernel, by show kitB "NoneType" "bool" = some false; decide +kernel, by show kitB "NoneType" "str" = some false; decide +kernel⟩
  | bl n b => exact ⟨"bool", .base (.bl b), by show kitB "bool" "list" = some false; decide +kernel, by show kitB "bool" "tuple" = some false; decide +kernel, by show kitB "bool" "int" = some true; decide +kernel, by show kitB "bool" "bool" = some true; decide +kernel, by show kitB "bool" "str" = some false; decide +kernel⟩
  | int n i h => exact ⟨"int", .base (.int i), by show kitB "int" "list" = some false; decide +kernel, by show kitB "int" "tuple" = some false; decide +kernel, by show kitB "int" "int" = some true; decide +kernel, by show kitB "int" "bool" = some false; decide +kernel, by show kitB "int" "str" = some false; decide +kernel⟩
  | str n x w l c => exact ⟨"str", .base (.str x), by show kitB "str" "list" = some false; decide +kernel, by show kitB "str" "tuple" = some false; decide +kernel, by show kitB "str" "int" = some false; decide +kernel, by show kitB "str" "bool" = some false; decide +kernel, by show kitB "str" "str" = some true; decide +kernel⟩
  | lst h1 h2 h3 h4 => exact ⟨"list", .base (.lst h1), by show kitB "list" "list" = some true; decide +kernel, by show kitB "list" "tuple" = some false; decide +kernel, by show kitB "list" "int" = some false; decide +kernel, by show kitB "list" "bool" = some false; decide +kernel, by show kitB "list" "str" = some false; decide +kernel⟩
  | tup h1 h2 h3 => exact ⟨"tuple", sqT_ty h1, by show kitB "tuple" "list" = some false; decide +kernel, by show kitB "tuple" "tuple" = some true; decide +kernel, by show kitB "tuple" "int" = some false; decide +kernel, by show kitB "tuple" "bool" = some false; decide +kernel, by show kitB "tuple" "str" = some false; decide +kernel⟩
theorem Tg.tupI {K : PySem.W.Frag} {p : Addr → Prop} {H : Hp} {B n : Nat} {v : V} {d : PyData} (h : Tg K p H B n v d) (e : isT d = true) : ∃ (a : Addr) (xs : List V) (ds : List PyData) (m : Nat), v = .ref a ∧ d = .tuple ds ∧ n = m + 1 ∧ SqT K H a xs ∧ TgAll K p H B m xs ds := by
  cases h <;> try (cases e; done)
  case tup h1 h2 h3 => exact ⟨_, _, _, _, rfl, rfl, rfl, h1, h2, h3⟩
theorem Tg.lstI {K : PySem.W.Frag} {p : Addr → Prop} {H : Hp} {B n : Nat} {v : V} {d : PyData} (h : Tg K p H B n v d) (e : isL d = true) : ∃ (a : Addr) (xs : List V) (ds : List PyData) (m : Nat), v = .ref a ∧ d = .list ds ∧ n = m + 1 ∧ H a = some (.lst xs) ∧ TgAll K p H B m xs ds := by
  cases h <;> try (cases e; done)
  case lst h1 h2 h3 h4 => exact ⟨_, _, _, _, rfl, rfl, rfl, h1, h3, h4⟩
theorem Tg.intI {K : PySem.W.Frag} {p : Addr → Prop} {H : Hp} {B n : Nat} {v : V} {d : PyData} (h : Tg K p H B n v d) (e : isI d = true) : ∃ i : Int, v = .int i ∧ d = .int i ∧ i.natAbs ≤ B := by
  cases h <;> try (cases e; done)
  case int i h => exact ⟨i, rfl, rfl, h⟩
theorem Tg.strI {K : PySem.W.Frag} {p : Addr → Prop} {H : Hp} {B n : Nat} {v : V} {d : PyData} (h : Tg K p H B n v d) (e : isS d = true) : ∃ x : Str, v = .str x ∧ d = .str x := by
  cases h <;> try (cases e; done)
  case str x _ l c => exact ⟨x, rfl, rfl⟩
theorem boI {d : PyData} (h : isBo d = true) : isI d = false := by
  cases d <;> first | rfl | exact nomatch h
theorem TgAll.l {K : PySem.W.Frag} {p : Addr → Prop} {H : Hp} {B n : Nat} {a : Addr} {xs : List V} {ds : List PyData} (t : TgAll K p H B n xs ds) (h : H a = some (.lst xs)) (na : ¬ p a) : Tg K p H B (n + 1) (.ref a) (.list ds) := .lst h na t.1 t.2
theorem TgAll.t {K : PySem.W.Frag} {p : Addr → Prop} {H : Hp} {B n : Nat} {a : Addr} {xs : List V} {ds : List PyData} (t : TgAll K p H B n xs ds) (h : SqT K H a xs) : Tg K p H B (n + 1) (.ref a) (.tuple ds) := .tup h t.1 t.2
theorem Tg.show_ {K : PySem.W.Frag} {p : Addr → Prop} {H : Hp} {B n w : Nat} (b12 : B < 10 ^ 12) {v : V} {d : PyData} (h : Tg K p H B n v d) (le : PyData.weight d ≤ w) : Fine n w d := by
  obtain ⟨w', f⟩ := h.fine b12
  exact ⟨f.lay, f.dep, le, f.ish, f.sh, f.nd⟩
end KR
/-! ### whether a thing is a day -/
namespace KR
open PySem PySem.Spec PyProof.Rows L2
theorem Tg.sm {K : PySem.W.Frag} {p : Addr → Prop} {B : Nat} {H H' : Hp} (s : Sm H H') : ∀ {n : Nat} {v : V} {d : PyData}, Tg K p H B n v d → Tg K p H' B n v d := by
  intro n v d h
  induction h with
  | non n => exact .non n
  | bl n b => exact .bl n b
  | int n i h => exact .int n i h
  | str n x w l c => exact .str n x w l c
  | lst h1 h2 h3 _ ih => exact .lst (s.lst h1) h2 h3 ih
  | tup h1 h2 _ ih => exact .tup (s.tup h1) h2 ih
theorem TgAll.sm {K : PySem.W.Frag} {p : Addr → Prop} {B n : Nat} {H H' : Hp} {xs : List V} {ds : List PyData} (h : TgAll K p H B n xs ds) (s : Sm H H') : TgAll K p H' B n xs ds := ⟨h.1, fun i x d e1 e2 => (h.2 i x d e1 e2).sm s⟩
def numIn (lo hi : Int) : PyData → Bool
  | .int i => decide (lo ≤ i) && decide (i ≤ hi)
  | _ => false
def ladB (h : Int) : PyData → Bool
  | .list xs => decide ((xs.length : Int) = h) && xs.all (numIn 0 1000000)
  | _ => false
def potB (h : Int) : PyData → Bool
  | .tuple [r, t] => numIn 1 1000000 r && ladB h t
  | _ => false
def isDayD : PyData → Bool
  | .tuple [.list cs, .list ks, s] => (decide (1 ≤ cs.length) && decide (cs.length ≤ 48)) && (decide (1 ≤ ks.length) && decide (ks.length ≤ 8)) && (ladB (cs.length : Int) (.list cs) && ladB (cs.length : Int) s) && ks.all (potB (cs.length : Int))
  | _ => false
theorem numIn_no {lo hi : Int} {d : PyData} (h : isI d = false) : numIn lo hi d = false := by
  cases d <;> first | rfl | exact nomatch h
theorem ladB_no {h : Int} {d : PyData} (n : isL d = false) : ladB h d = false := by
  cases d <;> first | rfl | exact nomatch n
theorem potB_no {h : Int} {d : PyData} (n : isT d = false) : potB h d = false := by
  cases d <;> first | rfl | exact nomatch n
theorem potB_len {h : Int} {ds : List PyData} (n : ds.length ≠ 2) : potB h (.tuple ds) = false := by
  match ds, n with
  | [], _ => rfl
  | [_], _ => rfl
  | [_, _], n => exact absurd rfl n
  | _ :: _ :: _ :: _, _ => rfl
theorem isDayD_no {d : PyData} (n : isT d = false) : isDayD d = false := by
  cases d <;> first | rfl | exact nomatch n
theorem isDayD_len {ds : List PyData} (n : ds.length ≠ 3) : isDayD (.tuple ds) = false := by
  match ds, n with
  | [], _ => rfl
  | [a], _ => cases a <;> rfl
  | [a, b], _ => cases a <;> first | rfl | (cases b <;> rfl)
  | [_, _, _], n => exact absurd rfl n
  | a :: b :: c :: e :: r, _ => cases a <;> first | rfl | (cases b <;> first | rfl | (cases c <;> rfl))
theorem isDayD_c {a b c : PyData} (n : isL a = false ∨ isL b = false) : isDayD (.tuple [a, b, c]) = false := by
  rcases n with n | n
  · cases a <;> first | rfl | exact nomatch n
  · cases a <;> first | rfl | (cases b <;> first | rfl | exact nomatch n)
theorem all_at {α : Type} {f : α → Bool} {l : List α} {i : Nat} {x : α} (h : l[i]? = some x) (n : f x = false) : l.all f = false := by
  rw [List.all_eq_false]
  exact ⟨x, List.mem_of_getElem? h, by rw [n]; exact Bool.false_ne_true⟩
theorem all_up {α : Type} {f : α → Bool} {l : List α} {i : Nat} {x : α} (t : (l.take i).all f = true) (h : l[i]? = some x) (y : f x = true) : (l.take (i + 1)).all f = true := by
  rw [take_one h, List.all_append, t]
  show (true && (f x && true)) = true
  rw [y] <;> rfl
theorem two {K : PySem.W.Frag} {Av : Addr → Prop} {H : Hp} {B n : Nat} {xs : List V} {ds : List PyData} (t : TgAll K Av H B n xs ds) (l : xs.length = 2) : ∃ x1 x2 d1 d2, xs = [x1, x2] ∧ ds = [d1, d2] ∧ Tg K Av H B n x1 d1 ∧ Tg K Av H B n x2 d2 := by
  match xs, ds, t, l with
  | [a, b], [d, e], t, _ => exact ⟨a, b, d, e, rfl, rfl, t.tail.1, t.tail.2.tail.1⟩
  | [a, b], [], t, _ => exact nomatch t.1
  | [a, b], [d], t, _ => exact nomatch t.1
  | [a, b], d :: e :: f :: r, t, _ => exact nomatch t.1
theorem threeT {K : PySem.W.Frag} {Av : Addr → Prop} {H : Hp} {B n : Nat} {xs : List V} {ds : List PyData} (t : TgAll K Av H B n xs ds) (l : xs.length = 3) : ∃ x1 x2 x3 d1 d2 d3, xs = [x1, x2, x3] ∧ ds = [d1, d2, d3] ∧ Tg K Av H B n x1 d1 ∧ Tg K Av H B n x2 d2 ∧ Tg K Av H B n x3 d3 := by
  match xs, ds, t, l with
  | [a, b, c], [d, e, f], t, _ => exact ⟨a, b, c, d, e, f, rfl, rfl, t.tail.1, t.tail.2.tail.1, t.tail.2.tail.2.tail.1⟩
  | [a, b, c], [], t, _ => exact nomatch t.1
  | [a, b, c], [d], t, _ => exact nomatch t.1
  | [a, b, c], [d, e], t, _ => exact nomatch t.1
  | [a, b, c], d :: e :: f :: g :: r, t, _ => exact nomatch t.1
/-- days as things -/
def potE (k : Int × List Int) : PyData := .tuple [.int k.1, din k.2]
def dayE (D : Dy) : PyData := .tuple [din D.cs, .list (D.ks.map potE), din D.ss]
theorem ldl_tg {K : PySem.W.Frag} {Av : Addr → Prop} {H : Hp} {n : Nat} {ns : List Int} (L : Ldl ns) : TgAll K Av H 1000000 n (ns.map V.int) (ns.map PyData.int) := by
  refine ⟨by rw [List.length_map, List.length_map], fun i x d e1 e2 => ?_⟩
  rw [List.getElem?_map] at e1 e2
  obtain ⟨z, ez, rfl⟩ := Option.map_eq_some_iff.mp e1
  rw [ez] at e2
  cases e2
  have := L z (List.mem_of_getElem? ez)
  exact .int _ _ (by omega)
theorem ldlL_tg {K : PySem.W.Frag} {Av : Addr → Prop} {H : Hp} {n : Nat} {a : Addr} {ns : List Int} (L : Ldl ns) (h : H a = some (.lst (ns.map V.int))) (na : ¬ Av a) : Tg K Av H 1000000 (n + 1) (.ref a) (din ns) := (ldl_tg L).l h na
theorem pots_tg {K : PySem.W.Frag} {H : Hp} {p f : Addr} {as : List Addr} {ks : List (Int × List Int)} (h : PotsF K H p f as ks) (ok : ∀ k ∈ ks, 1 ≤ k.1 ∧ k.1 ≤ 1000000 ∧ Ldl k.2) : TgAll K (fun a => a = p) H 1000000 2 (as.map V.ref) (ks.map potE) := by
  refine ⟨by rw [List.length_map, List.length_map, Paired.length h], fun i x d e1 e2 => ?_⟩
  rw [List.getElem?_map] at e1 e2
  obtain ⟨a, ea, rfl⟩ := Option.map_eq_some_iff.mp e1
  obtain ⟨k, ek, rfl⟩ := Option.map_eq_some_iff.mp e2
  obtain ⟨k', ek', t, h1, h2, h3, _⟩ := h.get ea
  rw [ek] at ek'
  cases ek'
  obtain ⟨o1, o2, o3⟩ := ok k (List.mem_of_getElem? ek)
  exact (TgAll.cons (.int _ _ (by omega)) (.cons (ldlL_tg (n := 0) o3 h2 h3) .nil)).t h1
theorem nums_in {ns : List Int} (L : Ldl ns) : (ns.map PyData.int).all (numIn 0 1000000) = true := by
  rw [List.all_eq_true]
  intro d hd
  obtain ⟨z, hz, rfl⟩ := List.mem_map.mp hd
  have := L z hz
  show (decide (0 ≤ z) && decide (z ≤ 1000000)) = true
  rw [decide_eq_true this.1, decide_eq_true this.2] <;> rfl
theorem ladB_din {h : Int} {ns : List Int} (L : Ldl ns) (l : (ns.length : Int) = h) : ladB h (din ns) = true := by
  show (decide (((ns.map PyData.int).length : Int) = h) && (ns.map PyData.int).all (numIn 0 1000000)) = true
  rw [nums_in L, decide_eq_true (by rw [List.length_map]; exact l)] <;> rfl
theorem dayE_is {D : Dy} (O : DyOk D) (N : DyNn D) : isDayD (dayE D) = true := by
  have h1 := O.h1
  have h2 := O.h2
  have k1 := O.k1
  have k2 := O.k2
  have e : ((D.cs.map PyData.int).length : Int) = (D.cs.length : Int) := by rw [List.length_map]
  show ((decide (1 ≤ (D.cs.map PyData.int).length) && decide ((D.cs.map PyData.int).length ≤ 48)) && (decide (1 ≤ (D.ks.map potE).length) && decide ((D.ks.map potE).length ≤ 8)) && (ladB ((D.cs.map PyData.int).length : Int) (din D.cs) && ladB ((D.cs.map PyData.int).length : Int) (din D.ss)) && (D.ks.map potE).all (potB ((D.cs.map PyData.int).length : Int))) = true
  rw [e, ladB_din N.cs rfl, ladB_din N.ss (by rw [O.sl]), List.length_map, List.length_map, decide_eq_true h1, decide_eq_true h2, decide_eq_true k1, decide_eq_true k2]
  show (D.ks.map potE).all (potB (D.cs.length : Int)) = true
  rw [List.all_eq_true]
  intro d hd
  obtain ⟨k, hk, rfl⟩ := List.mem_map.mp hd
  obtain ⟨o1, o2, o3⟩ := N.ks k hk
  show ((decide (1 ≤ k.1) && decide (k.1 ≤ 1000000)) && ladB (D.cs.length : Int) (din k.2)) = true
  rw [ladB_din o3 (by rw [O.ts k hk]), decide_eq_true o1, decide_eq_true o2] <;> rfl
theorem wa_ldl : ∀ {ns : List Int}, Ldl ns → PyData.weightAll (ns.map PyData.int) ≤ 21 * ns.length
  | [], _ => Nat.zero_le _
  | z :: r, L => by
    have a := (Fine.ldl 0 (L z List.mem_cons_self).1 (L z List.mem_cons_self).2).wt
    have b := wa_ldl (ns := r) fun y hy => L y (List.mem_cons_of_mem _ hy)
    rw [List.map_cons, List.length_cons]
    show PyData.weight (.int z) + 1 + PyData.weightAll (r.map PyData.int) ≤ _
    omega
theorem wa_pots : ∀ {ks : List (Int × List Int)}, (∀ k ∈ ks, 1 ≤ k.1 ∧ k.1 ≤ 1000000 ∧ Ldl k.2) → (∀ k ∈ ks, k.2.length ≤ 48) → PyData.weightAll (ks.map potE) ≤ 1031 * ks.length
  | [], _, _ => Nat.zero_le _
  | k :: r, ok, l => by
    obtain ⟨o1, o2, o3⟩ := ok k List.mem_cons_self
    have a := (Fine.ldl 0 (i := k.1) (by omega) o2).wt
    have b := wa_pots (ks := r) (fun y hy => ok y (List.mem_cons_of_mem _ hy)) fun y hy => l y (List.mem_cons_of_mem _ hy)
    have c := wa_ldl o3
    have e := l k List.mem_cons_self
    rw [List.map_cons, List.length_cons]
    show (PyData.weight (.int k.1) + 1 + (PyData.weightAll (k.2.map PyData.int) + 1 + 0)) + 1 + PyData.weightAll (r.map potE) ≤ _
    omega
theorem dayE_wt {D : Dy} (O : DyOk D) (N : DyNn D) : PyData.weight (dayE D) ≤ 10300 := by
  have h2 := O.h2
  have k2 := O.k2
  have sl := O.sl
  have a := wa_ldl N.cs
  have b := wa_ldl N.ss
  have c := wa_pots N.ks fun k hk => by rw [O.ts k hk]; exact h2
  show PyData.weightAll (D.cs.map PyData.int) + 1 + (PyData.weightAll (D.ks.map potE) + 1 + (PyData.weightAll (D.ss.map PyData.int) + 1 + 0)) ≤ _
  omega
theorem sqT_fs {K : PySem.W.Frag} {H H' : Hp} {a p : Addr} {n : Nat} {xs : List V} (h : SqT K H a xs) (B : BoxAt H p n) (F : Fs p H H') : SqT K H' a xs := by
  obtain ⟨x, y, z, hb, _⟩ := B
  have ne : ∀ {o : HO}, H a = some o → (∀ l, o ≠ .lst l) → a ≠ p := fun {o} e n z => by
    rw [z, hb] at e
    exact n _ (Option.some.inj e).symm
  rcases h with (h | ⟨o, h⟩) | h
  · exact .inl (.inl (F.keep _ _ (ne h nofun) h nofun))
  · exact .inl (.inr ⟨o, F.keep _ _ (ne h nofun) h nofun⟩)
  · exact .inr h
theorem Tg.fs {K : PySem.W.Frag} {p : Addr → Prop} {q : Addr} (hq : p q) {B m : Nat} {H H' : Hp} (b : BoxAt H q m) (F : Fs q H H') : ∀ {n : Nat} {v : V} {d : PyData}, Tg K p H B n v d → Tg K p H' B n v d := by
  intro n v d h
  induction h with
  | non n => exact .non n
  | bl n b => exact .bl n b
  | int n i h => exact .int n i h
  | str n x w l c => exact .str n x w l c
  | lst h1 h2 h3 _ ih => exact .lst (F.keep _ _ (fun z => h2 (z ▸ hq)) h1 nofun) h2 h3 ih
  | tup h1 h2 _ ih => exact .tup (sqT_fs h1 b F) h2 ih
theorem sm_new_fs {H0 H1 H2 : Hp} {p : Addr} (s : Same H0 H1) (n : H0 p = none) (F : Fs p H1 H2) : Sm H0 H2 := by
  refine ⟨fun b o h no => F.keep b o (ne_of_none h n) (s _ _ h) no, fun b t => ?_⟩
  obtain ⟨q, e⟩ := tab_at t
  exact F.tab b (ne_of_none e n) ((Sm.of s).tab b t)
theorem rep_one (k : Nat) (v : V) : (List.replicate ((k : Int)).toNat [v]).flatten = List.replicate k v := by
  rw [Int.toNat_natCast]
  induction k with
  | zero => rfl
  | succ k ih =>
    rw [List.replicate_succ, List.replicate_succ, List.flatten_cons, ih] <;> rfl
theorem rep_tg {K : PySem.W.Frag} {p : Addr → Prop} {B n k : Nat} {H : Hp} {v : V} {d : PyData} (h : Tg K p H B n v d) : TgAll K p H B n (List.replicate k v) (List.replicate k d) := by
  refine ⟨by rw [List.length_replicate, List.length_replicate], fun i x e e1 e2 => ?_⟩
  have a := List.mem_of_getElem? e1
  have b := List.mem_of_getElem? e2
  rw [List.eq_of_mem_replicate a, List.eq_of_mem_replicate b]
  exact h
theorem day_tgL {K : PySem.W.Frag} {p : Addr → Prop} {H : Hp} {t1 g t2 d : Addr} {cs ss : List Int} {ks : List (Int × List Int)} {xs : List V} (L1 : Ldl cs) (L2 : Ldl ss) (h1 : H t1 = some (.lst (cs.map V.int))) (n1 : ¬ p t1) (hg : H g = some (.lst xs)) (ng : ¬ p g) (hk : TgAll K p H 1000000 2 xs (ks.map potE)) (h2 : H t2 = some (.lst (ss.map V.int))) (n2 : ¬ p t2)
    (hd : SqT K H d [.ref t1, .ref g, .ref t2]) : Tg K p H 1000000 4 (.ref d) (dayE ⟨cs, ks, ss⟩) :=
  (TgAll.cons ((ldlL_tg (n := 0) L1 h1 n1).up (Nat.le_refl _) (by decide)) (.cons (hk.l hg ng) (.cons ((ldlL_tg (n := 0) L2 h2 n2).up (Nat.le_refl _) (by decide)) .nil))).t hd
theorem pot_tg {K : PySem.W.Frag} {p : Addr → Prop} {H : Hp} {u t : Addr} {r : Int} {ns : List Int} (r0 : 1 ≤ r) (r1 : r ≤ 1000000) (L : Ldl ns) (ht : H t = some (.lst (ns.map V.int))) (nt : ¬ p t) (hu : SqT K H u [.int r, .ref t]) : Tg K p H 1000000 2 (.ref u) (potE (r, ns)) :=
  (TgAll.cons (.int _ _ (by omega)) (.cons (ldlL_tg (n := 0) L ht nt) .nil)).t hu
theorem ldl_rep {k : Nat} {z : Int} (h0 : 0 ≤ z) (h1 : z ≤ 1000000) : Ldl (List.replicate k z) := fun y hy => by
  rw [List.eq_of_mem_replicate hy]
  exact ⟨h0, h1⟩
theorem dayE_wt2 {D : Dy} (L1 : Ldl D.cs) (L2 : Ldl D.ss) (N : ∀ k ∈ D.ks, 1 ≤ k.1 ∧ k.1 ≤ 1000000 ∧ Ldl k.2) (h : ∀ k ∈ D.ks, k.2.length ≤ 49) : PyData.weight (dayE D) ≤ 21 * D.cs.length + 1052 * D.ks.length + 21 * D.ss.length + 3 := by
  have a := wa_ldl L1
  have b := wa_ldl L2
  have c : ∀ {ks : List (Int × List Int)}, (∀ k ∈ ks, 1 ≤ k.1 ∧ k.1 ≤ 1000000 ∧ Ldl k.2) → (∀ k ∈ ks, k.2.length ≤ 49) → PyData.weightAll (ks.map potE) ≤ 1052 * ks.length := fun {ks} => by
    induction ks with
    | nil => exact fun _ _ => Nat.zero_le _
    | cons k r ih =>
      intro ok l
      obtain ⟨o1, o2, o3⟩ := ok k List.mem_cons_self
      have a := (Fine.ldl 0 (i := k.1) (by omega) o2).wt
      have b := ih (fun y hy => ok y (List.mem_cons_of_mem _ hy)) fun y hy => l y (List.mem_cons_of_mem _ hy)
      have c := wa_ldl o3
      have e := l k List.mem_cons_self
      rw [List.map_cons, List.length_cons]
      show (PyData.weight (.int k.1) + 1 + (PyData.weightAll (k.2.map PyData.int) + 1 + 0)) + 1 + PyData.weightAll (r.map potE) ≤ _
      omega
  have c := c N h
  show PyData.weightAll (D.cs.map PyData.int) + 1 + (PyData.weightAll (D.ks.map potE) + 1 + (PyData.weightAll (D.ss.map PyData.int) + 1 + 0)) ≤ _
  omega
end KR
/-! ### any plan of a day: what each place takes, whether it can be done -/
namespace KR
open PySem PySem.Spec PyProof.Rows L2
/-- a thing that is made within an expression is not written any more -/
def tFrz (t : TE) : TE := fun σ H Q => t σ H fun x H1 => ∃ d u, x = .ref d ∧ H1 d = some u ∧ Mut (some u) ∧ ∀ od, Q (.ref d) (upd H1 d (.frz od u))
theorem pe_frz {X : Cx} {e : Expr} {t : TE} (h : PE X e t) : PE X e (tFrz t) := by
  refine ⟨fun pins s σ H Q I hw => ?_⟩
  refine thn (h.run pins s σ H _ I hw) fun v s1 ⟨x, H1, I1, r, d, u, e, hd, mu, q⟩ => ?_
  subst e
  obtain ⟨od, I2⟩ := I1.lock hd mu
  exact ⟨_, _, I2, r, q od⟩
def PX (f : Nat → List Int) (p t : Nat) : Int := (f p).getD t 0
def PS (f : Nat → List Int) (p t : Nat) : Int := ((f p).take t).sum
theorem PS_zero (f : Nat → List Int) (p : Nat) : PS f p 0 = 0 := by
  unfold PS
  rw [List.take_zero, List.sum_nil]
theorem PS_succ {f : Nat → List Int} {p t : Nat} (h : t < (f p).length) : PS f p (t + 1) = PS f p t + PX f p t := by
  unfold PS PX
  rw [take_one (List.getElem?_eq_getElem h), List.sum_append, List.getD_eq_getElem?_getD, List.getElem?_eq_getElem h, List.sum_cons, List.sum_nil]
  show _ + ((f p)[t] + 0) = _ + (f p)[t]
  omega
def PlAt (D : Dy) (f : Nat → List Int) (p t : Nat) : Prop := PS f p (t + 1) ≤ (if p = 0 then csum D (t + 1) else PS f (p - 1) t) ∧ PX f p t ≤ (if p = D.ks.length then D.ss.getD t 0 else (kt D p).2.getD t 0) ∧ (p < D.ks.length → PS f p (t + 1) ≤ PS f (p + 1) (t + 1) + (kt D p).1)
def valX (f : Nat → List Int) (b : Bd) : Int := match b.lead with
  | none => b.more
  | some (p, h) => PS f p.toNat (h + 1).toNat + b.more
theorem plAt_bnds {D : Dy} {f : Nat → List Int} {p t : Nat} (hp : p ≤ D.ks.length) (len : t < (f p).length) : PlAt D f p t ↔ ∀ b ∈ bnds D p (t + 1), PS f p (t + 1) ≤ valX f b := by
  have e1 : valX f (firstB D p t) = if p = 0 then csum D (t + 1) else PS f (p - 1) t := by
    unfold firstB
    by_cases c : p = 0
    · rw [if_pos c, if_pos c] <;> rfl
    · rw [if_neg c, if_neg c]
      show PS f ((p : Int) - 1).toNat ((t : Int) - 1 + 1).toNat + 0 = _
      rw [show ((t : Int) - 1 + 1).toNat = t by omega, show ((p : Int) - 1).toNat = p - 1 by omega, Int.add_zero]
  have e2 : ∀ m, valX f ⟨"takes", some ((p : Int), (t : Int) - 1), m⟩ = PS f p t + m := fun m => by
    show PS f ((p : Int)).toNat ((t : Int) - 1 + 1).toNat + m = _
    rw [show ((t : Int) - 1 + 1).toNat = t by omega, Int.toNat_natCast]
  have e3 : ∀ m, valX f ⟨"room", some ((p : Int) + 1, (t : Int)), m⟩ = PS f (p + 1) (t + 1) + m := fun m => by
    show PS f ((p : Int) + 1).toNat ((t : Int) + 1).toNat + m = _
    rw [show ((t : Int) + 1).toNat = t + 1 by omega, show ((p : Int) + 1).toNat = p + 1 by omega]
  have es := PS_succ len
  unfold PlAt
  by_cases c : p = D.ks.length
  · rw [show bnds D p (t + 1) = [firstB D p t, ⟨"takes", some ((p : Int), (t : Int) - 1), D.ss.getD t 0⟩] from if_pos c, if_pos c]
    constructor
    · intro ⟨h1, h2, _⟩ b hb
      rcases List.mem_cons.mp hb with z | z
      · rw [z, e1]; exact h1
      · rw [List.mem_singleton.mp z, e2]; omega
    · intro h
      have a := h _ List.mem_cons_self
      have b := h _ (List.mem_cons_of_mem _ List.mem_cons_self)
      rw [e1] at a
      rw [e2] at b
      exact ⟨a, by omega, fun z => absurd z (by omega)⟩
  · rw [show bnds D p (t + 1) = [firstB D p t, ⟨"takes", some ((p : Int), (t : Int) - 1), (kt D p).2.getD t 0⟩, ⟨"room", some ((p : Int) + 1, (t : Int)), (kt D p).1⟩] from if_neg c, if_neg c]
    constructor
    · intro ⟨h1, h2, h3⟩ b hb
      rcases List.mem_cons.mp hb with z | z
      · rw [z, e1]; exact h1
      · rcases List.mem_cons.mp z with z | z
        · rw [z, e2]; omega
        · rw [List.mem_singleton.mp z, e3]; exact h3 (by omega)
    · intro h
      have a := h _ List.mem_cons_self
      have b := h _ (List.mem_cons_of_mem _ List.mem_cons_self)
      have d := h _ (List.mem_cons_of_mem _ (List.mem_cons_of_mem _ List.mem_cons_self))
      rw [e1] at a
      rw [e2] at b
      rw [e3] at d
      exact ⟨a, by omega, fun _ => d⟩
def planX (Xs : List (List Int)) : PyData := .list (Xs.map din)
def rowF (Xs : List (List Int)) (p : Nat) : List Int := Xs.getD p []
theorem rowF_at {Xs : List (List Int)} {p : Nat} {xs : List Int} (h : Xs[p]? = some xs) : rowF Xs p = xs := by
  unfold rowF
  rw [List.getD_eq_getElem?_getD, h] <;> rfl
structure PlanOk (D : Dy) (Xs : List (List Int)) : Prop where
  len : Xs.length = D.ks.length + 1
  row : ∀ r ∈ Xs, r.length = D.cs.length ∧ ∀ z ∈ r, 0 ≤ z
theorem PlanOk.at_ {D : Dy} {Xs : List (List Int)} (h : PlanOk D Xs) {p : Nat} (hp : p ≤ D.ks.length) : ∃ xs, Xs[p]? = some xs ∧ rowF Xs p = xs ∧ xs.length = D.cs.length ∧ ∀ z ∈ xs, 0 ≤ z := by
  have lt : p < Xs.length := by rw [h.len]; omega
  have e := List.getElem?_eq_getElem lt
  have r := h.row _ (List.mem_of_getElem? e)
  exact ⟨_, e, rowF_at e, r.1, r.2⟩
theorem PlanOk.lenF {D : Dy} {Xs : List (List Int)} (h : PlanOk D Xs) {p : Nat} (hp : p ≤ D.ks.length) : (rowF Xs p).length = D.cs.length := by
  obtain ⟨xs, _, e, l, _⟩ := h.at_ hp
  rw [e, l]
def PlanDo (D : Dy) (Xs : List (List Int)) : Prop := ∀ p t, p ≤ D.ks.length → t < D.cs.length → PlAt D (rowF Xs) p t
def IsPlan (D : Dy) (e : PyData) : Prop := ∃ Xs, e = planX Xs ∧ PlanOk D Xs ∧ PlanDo D Xs
theorem din_inj {a b : List Int} (h : din a = din b) : a = b := by
  unfold din at h
  injection h with h
  exact (List.map_inj_right (fun x y e => by injection e)).mp h
theorem planX_inj {a b : List (List Int)} (h : planX a = planX b) : a = b := by
  unfold planX at h
  injection h with h
  exact (List.map_inj_right (fun x y e => din_inj e)).mp h
theorem isPlan_iff {D : Dy} {Xs : List (List Int)} (O : PlanOk D Xs) : IsPlan D (planX Xs) ↔ PlanDo D Xs :=
  ⟨fun ⟨Ys, e, _, d⟩ => by rw [planX_inj e]; exact d, fun d => ⟨Xs, rfl, O, d⟩⟩
theorem isPlan_ok {D : Dy} {Xs : List (List Int)} (h : IsPlan D (planX Xs)) : PlanOk D Xs := by
  obtain ⟨Ys, e, o, _⟩ := h
  rw [planX_inj e]
  exact o
/-- what a row of a plan is -/
def nnB : PyData → Bool
  | .int i => decide (0 ≤ i)
  | _ => false
def placeB (h : Int) : PyData → Bool
  | .list xs => decide ((xs.length : Int) = h) && xs.all nnB
  | _ => false
theorem nnB_no {d : PyData} (n : isI d = false) : nnB d = false := by
  cases d <;> first | rfl | exact nomatch n
theorem placeB_no {h : Int} {d : PyData} (n : isL d = false) : placeB h d = false := by
  cases d <;> first | rfl | exact nomatch n
theorem nums_of : ∀ {ds : List PyData}, ds.all nnB = true → ∃ xs : List Int, ds = xs.map PyData.int ∧ ∀ z ∈ xs, 0 ≤ z
  | [], _ => ⟨[], rfl, fun z hz => absurd hz List.not_mem_nil⟩
  | d :: ds, h => by
    rw [List.all_cons] at h
    obtain ⟨h1, h2⟩ := Bool.and_eq_true_iff.mp h
    obtain ⟨xs, e, nn⟩ := nums_of h2
    cases d <;> try (cases h1; done)
    case int i =>
      refine ⟨i :: xs, by rw [e] <;> rfl, fun z hz => ?_⟩
      rcases List.mem_cons.mp hz with q | q
      · rw [q]
        exact of_decide_eq_true h1
      · exact nn z q
theorem rows_of {h : Nat} : ∀ {ds : List PyData}, ds.all (placeB (h : Int)) = true → ∃ Xs : List (List Int), ds = Xs.map din ∧ ∀ r ∈ Xs, r.length = h ∧ ∀ z ∈ r, 0 ≤ z
  | [], _ => ⟨[], rfl, fun z hz => absurd hz List.not_mem_nil⟩
  | d :: ds, hh => by
    rw [List.all_cons] at hh
    obtain ⟨h1, h2⟩ := Bool.and_eq_true_iff.mp hh
    obtain ⟨Xs, e, ok⟩ := rows_of h2
    cases d <;> try (cases h1; done)
    case list es =>
      obtain ⟨g1, g2⟩ := Bool.and_eq_true_iff.mp (show (decide ((es.length : Int) = (h : Int)) && es.all nnB) = true from h1)
      obtain ⟨xs, ex, nn⟩ := nums_of g2
      have gl := of_decide_eq_true g1
      refine ⟨xs :: Xs, by rw [e, ex] <;> rfl, fun r hr => ?_⟩
      rcases List.mem_cons.mp hr with q | q
      · rw [q]
        refine ⟨?_, nn⟩
        rw [ex, List.length_map] at gl
        omega
      · exact ok r q
theorem place_row {h : Nat} {r : List Int} (l : r.length = h) (nn : ∀ z ∈ r, 0 ≤ z) : placeB (h : Int) (din r) = true := by
  show (decide (((r.map PyData.int).length : Int) = (h : Int)) && (r.map PyData.int).all nnB) = true
  rw [decide_eq_true (by rw [List.length_map, l])]
  show (r.map PyData.int).all nnB = true
  rw [List.all_eq_true]
  intro d hd
  obtain ⟨z, hz, rfl⟩ := List.mem_map.mp hd
  exact decide_eq_true (nn z hz)
theorem isPlan_rows {D : Dy} {ds : List PyData} (h : IsPlan D (.list ds)) : ds.length = D.ks.length + 1 ∧ ds.all (placeB (D.cs.length : Int)) = true := by
  obtain ⟨Xs, e, O, _⟩ := h
  have e' : ds = Xs.map din := by
    unfold planX at e
    injection e
  rw [e', List.length_map, O.len]
  refine ⟨rfl, ?_⟩
  rw [List.all_eq_true]
  intro d hd
  obtain ⟨r, hr, rfl⟩ := List.mem_map.mp hd
  exact place_row (O.row r hr).1 (O.row r hr).2
theorem isPlan_L {D : Dy} {e : PyData} (n : isL e = false) : ¬ IsPlan D e := fun ⟨Xs, z, _⟩ => by
  rw [z] at n
  exact nomatch n
/-- the rows of a plan as they lie -/
def RowsP (H : Hp) (Av : Addr → Prop) (rs : List Addr) (Xs : List (List Int)) : Prop := rs.length = Xs.length ∧ ∀ (j : Nat) (r : Addr) (xs : List Int), rs[j]? = some r → Xs[j]? = some xs → H r = some (.lst (xs.map V.int)) ∧ ¬ Av r
theorem nums_tg {K : PySem.W.Frag} {Av : Addr → Prop} {H : Hp} {B n : Nat} : ∀ {ys : List V} {xs : List Int}, TgAll K Av H B n ys (xs.map PyData.int) → ys = xs.map V.int
  | [], [], _ => rfl
  | [], _ :: _, h => nomatch h.1
  | _ :: _, [], h => nomatch h.1
  | y :: ys, x :: xs, h => by
    obtain ⟨i, e1, e2, _⟩ := h.tail.1.intI rfl
    injection e2 with e2
    rw [nums_tg h.tail.2, e1, ← e2] <;> rfl
theorem rows_tg {K : PySem.W.Frag} {Av : Addr → Prop} {H : Hp} {B n : Nat} : ∀ {ys : List V} {Xs : List (List Int)}, TgAll K Av H B n ys (Xs.map din) → ∃ rs : List Addr, ys = rs.map V.ref ∧ RowsP H Av rs Xs
  | [], [], _ => ⟨[], rfl, rfl, fun j r xs h => by simp at h⟩
  | [], _ :: _, h => nomatch h.1
  | _ :: _, [], h => nomatch h.1
  | y :: ys, X :: Xs, h => by
    obtain ⟨rs, e, l, at_⟩ := rows_tg h.tail.2
    have hd : Tg K Av H B n y (.list (X.map PyData.int)) := h.tail.1
    cases hd with
    | lst h1 h2 h3 h4 =>
      rename_i m a zs
      have ez := nums_tg (K := K) (Av := Av) (H := H) (B := B) (n := m) ⟨h3, h4⟩
      refine ⟨a :: rs, by rw [e] <;> rfl, by rw [List.length_cons, List.length_cons, l], fun j r xs e1 e2 => ?_⟩
      cases j with
      | zero =>
        cases e1
        cases e2
        exact ⟨by rw [← ez]; exact h1, h2⟩
      | succ j => exact at_ j r xs e1 e2
theorem plan_tg {K : PySem.W.Frag} {Av : Addr → Prop} {H : Hp} {B n : Nat} {v : V} {Xs : List (List Int)} (h : Tg K Av H B n v (planX Xs)) : ∃ (f : Addr) (rs : List Addr), v = .ref f ∧ H f = some (.lst (rs.map V.ref)) ∧ ¬ Av f ∧ RowsP H Av rs Xs := by
  have hd : Tg K Av H B n v (.list (Xs.map din)) := h
  cases hd with
  | lst h1 h2 h3 h4 =>
    rename_i m a zs
    obtain ⟨rs, e, R⟩ := rows_tg (K := K) (Av := Av) (H := H) (B := B) (n := m) ⟨h3, h4⟩
    exact ⟨a, rs, rfl, by rw [← e]; exact h1, h2, R⟩
/-- and the other way -/
theorem ints_tg {K : PySem.W.Frag} {Av : Addr → Prop} {H : Hp} {B n : Nat} {xs : List Int} (L : ∀ z ∈ xs, z.natAbs ≤ B) : TgAll K Av H B n (xs.map V.int) (xs.map PyData.int) := by
  refine ⟨by rw [List.length_map, List.length_map], fun i x d e1 e2 => ?_⟩
  rw [List.getElem?_map] at e1 e2
  obtain ⟨z, ez, rfl⟩ := Option.map_eq_some_iff.mp e1
  rw [ez] at e2
  cases e2
  exact .int _ _ (L z (List.mem_of_getElem? ez))
theorem tg_plan {K : PySem.W.Frag} {Av : Addr → Prop} {H : Hp} {B : Nat} {f : Addr} {rs : List Addr} {Xs : List (List Int)} (hf : H f = some (.lst (rs.map V.ref))) (nf : ¬ Av f) (R : RowsP H Av rs Xs) (L : ∀ xs ∈ Xs, ∀ z ∈ xs, z.natAbs ≤ B) : Tg K Av H B 2 (.ref f) (planX Xs) := by
  refine TgAll.l (n := 1) ⟨by rw [List.length_map, List.length_map, R.1], fun i x d e1 e2 => ?_⟩ hf nf
  rw [List.getElem?_map] at e1 e2
  obtain ⟨r, er, rfl⟩ := Option.map_eq_some_iff.mp e1
  obtain ⟨xs, ex, rfl⟩ := Option.map_eq_some_iff.mp e2
  obtain ⟨h1, h2⟩ := R.2 i r xs er ex
  exact (ints_tg (n := 0) (L xs (List.mem_of_getElem? ex))).l h1 h2
/-- what is told of what the places of a plan have taken -/
structure TakenX (f : Nat → List Int) (kvs : List (List Key × V)) (d : Nat → Nat → Prop) : Prop where
  all : ∀ kv ∈ kvs, ∃ p t, kv.1 = kk p t ∧ d p t ∧ kv.2 = .int (PS f p t)
  at_ : ∀ p t, d p t → valV kvs (kk p t) = some (.int (PS f p t))
theorem TakenX.put {f : Nat → List Int} {kvs : List (List Key × V)} {d d' : Nat → Nat → Prop} (h : TakenX f kvs d) (p t : Nat) (new : ¬ d p t) (hd : ∀ p' t', d' p' t' ↔ d p' t' ∨ (p' = p ∧ t' = t)) : TakenX f (putK kvs (kk p t) (.int (PS f p t))) d' := by
  have nv : valV kvs (kk p t) = none := by
    cases e : valV kvs (kk p t) with
    | none => rfl
    | some v =>
      unfold valV at e
      obtain ⟨kv, e1, e2⟩ := Option.map_eq_some_iff.mp e
      have m := List.mem_of_find?_eq_some e1
      have k : kv.1 = kk p t := by simpa using List.find?_some e1
      obtain ⟨p', t', k', hd', _⟩ := h.all kv m
      rw [k] at k'
      obtain ⟨rfl, rfl⟩ := kk_inj k'
      exact absurd hd' new
  refine ⟨fun kv m => ?_, fun p' t' h' => ?_⟩
  · rw [putK_new _ nv] at m
    rcases List.mem_append.mp m with m | m
    · obtain ⟨p', t', e1, e2, e3⟩ := h.all kv m
      exact ⟨p', t', e1, (hd p' t').mpr (.inl e2), e3⟩
    · rw [List.mem_singleton.mp m]
      exact ⟨p, t, rfl, (hd p t).mpr (.inr ⟨rfl, rfl⟩), rfl⟩
  · rw [valV_put]
    by_cases c : kk p' t' = kk p t
    · rw [if_pos c]
      obtain ⟨e1, e2⟩ := kk_inj c
      rw [e1, e2]
    · rw [if_neg c]
      rcases (hd p' t').mp h' with g | ⟨e1, e2⟩
      · exact h.at_ p' t' g
      · exact absurd (by rw [e1, e2]) c
theorem TakenX.mem {f : Nat → List Int} {kvs : List (List Key × V)} {d : Nat → Nat → Prop} (h : TakenX f kvs d) {p t : Nat} (hd : d p t) : ∃ i : Nat, ∃ v, kvs[i]? = some (kk p t, v) := by
  have e := h.at_ p t hd
  unfold valV at e
  obtain ⟨kv, e1, e2⟩ := Option.map_eq_some_iff.mp e
  have m := List.mem_of_find?_eq_some e1
  have k : kv.1 = kk p t := by simpa using List.find?_some e1
  obtain ⟨i, hi⟩ := List.mem_iff_getElem?.mp m
  exact ⟨i, kv.2, by rw [hi, ← k]⟩
end KR
/-! ### plans that grow number by number -/
namespace KR
open PySem PySem.Spec PyProof.Rows L2
def appF (g : Nat → List Int) (pl : Nat) (v : Int) : Nat → List Int := fun q => if q = pl then g q ++ [v] else g q
theorem appF_ne {g : Nat → List Int} {pl q : Nat} {v : Int} (h : q ≠ pl) : appF g pl v q = g q := if_neg h
theorem appF_eq {g : Nat → List Int} {pl : Nat} {v : Int} : appF g pl v pl = g pl ++ [v] := if_pos rfl
theorem PS_ne {g : Nat → List Int} {pl q u : Nat} {v : Int} (h : q ≠ pl) : PS (appF g pl v) q u = PS g q u := by
  unfold PS
  rw [appF_ne h]
theorem PS_le {g : Nat → List Int} {pl q u : Nat} {v : Int} (h : u ≤ (g q).length) : PS (appF g pl v) q u = PS g q u := by
  by_cases c : q = pl
  · subst c
    unfold PS
    rw [appF_eq, List.take_append_of_le_length h]
  · exact PS_ne c
theorem PX_ne {g : Nat → List Int} {pl q u : Nat} {v : Int} (h : q ≠ pl) : PX (appF g pl v) q u = PX g q u := by
  unfold PX
  rw [appF_ne h]
theorem PX_lt {g : Nat → List Int} {pl q u : Nat} {v : Int} (h : u < (g q).length) : PX (appF g pl v) q u = PX g q u := by
  by_cases c : q = pl
  · subst c
    unfold PX
    rw [appF_eq, List.getD_eq_getElem?_getD, List.getElem?_append_left h, ← List.getD_eq_getElem?_getD]
  · exact PX_ne c
theorem PX_new {g : Nat → List Int} {pl t : Nat} {v : Int} (h : (g pl).length = t) : PX (appF g pl v) pl t = v := by
  unfold PX
  rw [appF_eq, List.getD_eq_getElem?_getD, List.getElem?_append_right (by omega), h, Nat.sub_self] <;> rfl
theorem PS_new {g : Nat → List Int} {pl t : Nat} {v : Int} (h : (g pl).length = t) : PS (appF g pl v) pl (t + 1) = PS g pl t + v := by
  rw [PS_succ (by rw [appF_eq, List.length_append]; show t < (g pl).length + 1; omega), PX_new h, PS_le (by omega)]
/-- what was so stays so -/
theorem PlAt.app {D : Dy} {g : Nat → List Int} {pl p t : Nat} {v : Int} (hp : p ≤ D.ks.length) (h : PlAt D g p t) (l1 : t + 1 ≤ (g p).length) (l2 : ∀ q, q ≤ D.ks.length → t ≤ (g q).length) (l3 : p < D.ks.length → t + 1 ≤ (g (p + 1)).length) : PlAt D (appF g pl v) p t := by
  obtain ⟨h1, h2, h3⟩ := h
  refine ⟨?_, ?_, fun lt => ?_⟩
  · rw [PS_le l1]
    by_cases c : p = 0
    · rw [if_pos c] at h1 ⊢
      exact h1
    · rw [if_neg c] at h1 ⊢
      rw [PS_le (l2 (p - 1) (by omega))]
      exact h1
  · rw [PX_lt (by omega)]
    exact h2
  · rw [PS_le l1, PS_le (l3 lt)]
    exact h3 lt
/-- no place has more than the one ahead of it, each has room for what it holds -/
theorem PS_mono {g : Nat → List Int} {q t : Nat} (nn : ∀ z ∈ g q, 0 ≤ z) : PS g q t ≤ PS g q (t + 1) := by
  by_cases c : t < (g q).length
  · rw [PS_succ c]
    have : 0 ≤ PX g q t := by
      unfold PX
      rw [List.getD_eq_getElem?_getD, List.getElem?_eq_getElem c]
      exact nn _ (List.getElem_mem c)
    omega
  · unfold PS
    rw [List.take_of_length_le (by omega), List.take_of_length_le (by omega)]
    exact Int.le_refl _
theorem held_nn {D : Dy} {g : Nat → List Int} {p t : Nat} (nn : ∀ q, q ≤ D.ks.length → ∀ z ∈ g q, 0 ≤ z) (hp : p < D.ks.length) (done : ∀ pl t', pl ≤ D.ks.length → t' < t → PlAt D g pl t') : PS g (p + 1) t ≤ PS g p t := by
  cases t with
  | zero => rw [PS_zero, PS_zero]; exact Int.le_refl _
  | succ t =>
    have h := (done (p + 1) t (by omega) (Nat.lt_succ_self _)).1
    rw [if_neg (by omega), show p + 1 - 1 = p by omega] at h
    have := PS_mono (t := t) (nn p (by omega))
    omega
theorem held_room {D : Dy} {g : Nat → List Int} {p t : Nat} (hp : p < D.ks.length) (r0 : 0 ≤ (kt D p).1) (done : ∀ pl t', pl ≤ D.ks.length → t' < t → PlAt D g pl t') : PS g p t ≤ PS g (p + 1) t + (kt D p).1 := by
  cases t with
  | zero => rw [PS_zero, PS_zero]; omega
  | succ t => exact (done p t (by omega) (Nat.lt_succ_self _)).2.2 hp
theorem wait_nn {D : Dy} {g : Nat → List Int} {t : Nat} (done : ∀ pl t', pl ≤ D.ks.length → t' < t → PlAt D g pl t') : PS g 0 t ≤ csum D t := by
  cases t with
  | zero =>
    rw [PS_zero]
    show (0 : Int) ≤ (D.cs.take 0).sum
    rw [List.take_zero] <;> exact Int.le_refl _
  | succ t =>
    have h := (done 0 t (Nat.zero_le _) (Nat.lt_succ_self _)).1
    rw [if_pos rfl] at h
    exact h
/-- what is held within an hour, behind so many places from the last one on -/
def heldW (D : Dy) (g : Nat → List Int) (t j : Nat) : List Int := (List.range D.ks.length).map fun p => if D.ks.length < p + j then PS g p (t + 1) - PS g (p + 1) (t + 1) else PS g p t - PS g (p + 1) t
theorem heldW_len (D : Dy) (g : Nat → List Int) (t j : Nat) : (heldW D g t j).length = D.ks.length := by
  unfold heldW
  rw [List.length_map, List.length_range]
theorem heldW_at {D : Dy} {g : Nat → List Int} {t j p : Nat} (h : p < D.ks.length) : (heldW D g t j)[p]? = some (if D.ks.length < p + j then PS g p (t + 1) - PS g (p + 1) (t + 1) else PS g p t - PS g (p + 1) t) := by
  unfold heldW
  rw [List.getElem?_map, List.getElem?_range h] <;> rfl
def heldV (D : Dy) (g : Nat → List Int) (t : Nat) : List Int := (List.range D.ks.length).map fun p => PS g p t - PS g (p + 1) t
theorem heldV_len (D : Dy) (g : Nat → List Int) (t : Nat) : (heldV D g t).length = D.ks.length := by
  unfold heldV
  rw [List.length_map, List.length_range]
theorem heldV_at {D : Dy} {g : Nat → List Int} {t p : Nat} (h : p < D.ks.length) : (heldV D g t)[p]? = some (PS g p t - PS g (p + 1) t) := by
  unfold heldV
  rw [List.getElem?_map, List.getElem?_range h] <;> rfl
theorem heldV_zero (D : Dy) (g : Nat → List Int) : heldV D g 0 = List.replicate D.ks.length 0 := by
  refine List.eq_replicate_iff.mpr ⟨heldV_len D g 0, fun z hz => ?_⟩
  unfold heldV at hz
  obtain ⟨p, _, rfl⟩ := List.mem_map.mp hz
  show PS g p 0 - PS g (p + 1) 0 = 0
  rw [PS_zero, PS_zero] <;> rfl
theorem heldW_zero (D : Dy) (g : Nat → List Int) (t : Nat) : heldW D g t 0 = heldV D g t := by
  unfold heldW heldV
  exact List.map_congr_left fun p hp => if_neg (by have := List.mem_range.mp hp; omega)
theorem heldW_all (D : Dy) (g : Nat → List Int) (t : Nat) : heldW D g t (D.ks.length + 1) = heldV D g (t + 1) := by
  unfold heldW heldV
  exact List.map_congr_left fun p hp => if_pos (by omega)
theorem heldV_app {D : Dy} {g : Nat → List Int} {pl t : Nat} {v : Int} (l : ∀ q, q ≤ D.ks.length → t ≤ (g q).length) : heldV D (appF g pl v) t = heldV D g t := by
  unfold heldV
  refine List.map_congr_left fun p hp => ?_
  have := List.mem_range.mp hp
  rw [PS_le (l p (by omega)), PS_le (l (p + 1) (by omega))]
/-- the place that is next -/
theorem heldW_app {D : Dy} {g : Nat → List Int} {pl t j : Nat} {v : Int} (hj : pl + j = D.ks.length) (l : ∀ q, q ≤ D.ks.length → (g q).length = if D.ks.length < q + j then t + 1 else t) :
    heldW D (appF g pl v) t (j + 1) = if pl < D.ks.length then (heldW D g t j).set pl (PS g pl t + v - PS g (pl + 1) (t + 1)) else heldW D g t j := by
  refine List.ext_getElem? fun i => ?_
  by_cases hi : i < D.ks.length
  · rw [heldW_at hi]
    by_cases c : i = pl
    · subst c
      rw [if_pos (show D.ks.length < i + (j + 1) by omega), if_pos hi, List.getElem?_set, if_pos rfl, if_pos (by rw [heldW_len]; exact hi), PS_new (by rw [l i (by omega), if_neg (by omega)]), PS_ne (by omega)]
    · have e : (if pl < D.ks.length then (heldW D g t j).set pl (PS g pl t + v - PS g (pl + 1) (t + 1)) else heldW D g t j)[i]? = (heldW D g t j)[i]? := by
        split
        · rw [List.getElem?_set, if_neg (fun z => c z.symm)]
        · rfl
      rw [e, heldW_at hi]
      by_cases c2 : D.ks.length < i + j
      · rw [if_pos c2, if_pos (by omega), PS_ne (show i ≠ pl by omega), PS_ne (show i + 1 ≠ pl by omega)]
      · rw [if_neg c2, if_neg (by omega), PS_ne (show i ≠ pl by omega), PS_le (by rw [l (i + 1) (by omega)]; split <;> omega)]
  · have e : (if pl < D.ks.length then (heldW D g t j).set pl (PS g pl t + v - PS g (pl + 1) (t + 1)) else heldW D g t j).length = D.ks.length := by
      split
      · rw [List.length_set, heldW_len]
      · rw [heldW_len]
    rw [List.getElem?_eq_none (by rw [heldW_len]; omega), List.getElem?_eq_none (by rw [e]; omega)]
/-- its rows -/
def RowsH (H H0 : Hp) (p l g : Addr) (rs : List Addr) (f : Nat → List Int) : Prop := ∀ (q : Nat) (r : Addr), rs[q]? = some r → H r = some (.lst ((f q).map V.int)) ∧ H0 r = none ∧ r ≠ p ∧ r ≠ l ∧ r ≠ g
theorem RowsH.same {H H' H0 : Hp} {p l g : Addr} {rs : List Addr} {f : Nat → List Int} (h : RowsH H H0 p l g rs f) (s : Same H H') : RowsH H' H0 p l g rs f := fun q r e => ⟨s _ _ (h q r e).1, (h q r e).2⟩
theorem RowsH.fr {H H' H0 : Hp} {p l g : Addr} {rs : List Addr} {f : Nat → List Int} (h : RowsH H H0 p l g rs f) (F : Fr p H H') : RowsH H' H0 p l g rs f := fun q r e => ⟨F _ _ (h q r e).2.2.1 (h q r e).1, (h q r e).2⟩
theorem RowsH.put {H H0 : Hp} {p l g : Addr} {rs : List Addr} {f : Nat → List Int} {o : HO} (h : RowsH H H0 p l g rs f) : RowsH (upd H l o) H0 p l g rs f := fun q r e => ⟨by rw [upd_ne (h q r e).2.2.2.1]; exact (h q r e).1, (h q r e).2⟩
theorem RowsH.row {H H0 : Hp} {p l g : Addr} {rs : List Addr} {f : Nat → List Int} {i : Nat} {r : Addr} {v : Int} (h : RowsH H H0 p l g rs f) (nd : rs.Nodup) (e : rs[i]? = some r) : RowsH (upd H r (.lst ((f i).map V.int ++ [.int v]))) H0 p l g rs (appF f i v) := fun q r' e' => by
  by_cases c : q = i
  · subst c
    rw [e] at e'
    cases e'
    exact ⟨by rw [upd_same, appF_eq, List.map_append] <;> rfl, (h q r e).2⟩
  · have ne : r' ≠ r := fun z => by
      rw [z, ← e] at e'
      exact c ((List.getElem?_inj (List.getElem?_eq_some_iff.mp (e'.trans e)).1 nd).mp e')
    exact ⟨by rw [upd_ne ne, appF_ne c]; exact (h q r' e').1, (h q r' e').2⟩
theorem csum_stepW {D : Dy} {t : Nat} (h : t < D.cs.length) : csum D (t + 1) = csum D t + D.cs.getD t 0 := by
  unfold csum
  rw [take_one (List.getElem?_eq_getElem h), List.sum_append, List.getD_eq_getElem?_getD, List.getElem?_eq_getElem h, List.sum_cons, List.sum_nil]
  show _ + (D.cs[t] + 0) = _ + D.cs[t]
  omega
end KR
/-! ### any thing walked as a paper -/
namespace KR
open PySem PySem.Spec PyProof.Rows L2
/-- the bound of a word there -/
def stepP (D : Dy) (p t : Nat) (w : Str) : Option Bd := (bnds D p t).find? fun b => decide (b.word = w)
theorem stepP_mem {D : Dy} {p t : Nat} {b : Bd} (m : b ∈ bnds D p t) : stepP D p t b.word = some b := by
  have nd := bnds_words D p t
  unfold stepP
  generalize bnds D p t = bs at m nd
  induction bs with
  | nil => exact absurd m List.not_mem_nil
  | cons c bs ih =>
    rw [List.map_cons] at nd
    obtain ⟨n1, n2⟩ := List.nodup_cons.mp nd
    rcases List.mem_cons.mp m with e | m
    · rw [← e, List.find?_cons_of_pos (by simp)]
    · rw [List.find?_cons_of_neg (by
        simp only [decide_eq_true_eq]
        exact fun e => n1 (e ▸ List.mem_map.mpr ⟨b, m, rfl⟩))]
      exact ih m n2
theorem stepP_some {D : Dy} {p t : Nat} {w : Str} {b : Bd} (h : stepP D p t w = some b) : b ∈ bnds D p t ∧ b.word = w :=
  ⟨List.mem_of_find?_eq_some h, by simpa using List.find?_some h⟩
theorem stepP_none {D : Dy} {p t : Nat} {w : Str} (h : stepP D p t w = none) : ∀ b ∈ bnds D p t, b.word ≠ w := fun b m e => by
  have := List.find?_eq_none.mp h b m
  simp [e] at this
theorem AllBd.no {H : Hp} {w : Str} : ∀ {kvs : List (Key × V)} {bs : List Bd}, AllBd H kvs bs → (∀ b ∈ bs, b.word ≠ w) → valV kvs (.inr w : Key) = none
  | _, _, .nil, _ => rfl
  | (k, v) :: kvs, c :: bs, .cons h t, ne => by
    have hk : k = .inr c.word := h.1
    have n1 := ne c List.mem_cons_self
    have ih := AllBd.no t fun b m => ne b (List.mem_cons_of_mem _ m)
    unfold valV at ih ⊢
    rw [List.find?_cons_of_neg (by
      rw [hk]
      simp only [decide_eq_true_eq]
      exact fun e => n1 (Sum.inr.inj e))]
    exact ih
/-- what a bound leads to lies within the day -/
theorem lead_in {D : Dy} {p t : Nat} (hp : p ≤ D.ks.length) {b : Bd} (m : b ∈ bnds D p t) {y : Int × Int} (h : b.lead = some y) : ∃ p' t' : Nat, y = ((p' : Int), (t' : Int) - 1) ∧ p' ≤ D.ks.length ∧ t' ≤ t := by
  cases t with
  | zero => rw [List.mem_singleton.mp m] at h; cases h
  | succ t =>
    have hm : b = firstB D p t ∨ b.lead = some ((p : Int), (t : Int) - 1) ∨ (p < D.ks.length ∧ b.lead = some ((p : Int) + 1, (t : Int))) := by
      by_cases c : p = D.ks.length
      · rw [show bnds D p (t + 1) = [firstB D p t, ⟨"takes", some ((p : Int), (t : Int) - 1), D.ss.getD t 0⟩] from if_pos c] at m
        rcases List.mem_cons.mp m with z | z
        · exact .inl z
        · exact .inr (.inl (by rw [List.mem_singleton.mp z] <;> rfl))
      · rw [show bnds D p (t + 1) = [firstB D p t, ⟨"takes", some ((p : Int), (t : Int) - 1), (kt D p).2.getD t 0⟩, ⟨"room", some ((p : Int) + 1, (t : Int)), (kt D p).1⟩] from if_neg c] at m
        rcases List.mem_cons.mp m with z | z
        · exact .inl z
        · rcases List.mem_cons.mp z with z | z
          · exact .inr (.inl (by rw [z] <;> rfl))
          · exact .inr (.inr ⟨by omega, by rw [List.mem_singleton.mp z] <;> rfl⟩)
    rcases hm with z | z | ⟨lt, z⟩
    · rw [z] at h
      unfold firstB at h
      split at h
      · cases h
      · cases h
        exact ⟨p - 1, t, by rw [show ((p - 1 : Nat) : Int) = (p : Int) - 1 by omega], by omega, by omega⟩
    · rw [z] at h
      cases h
      exact ⟨p, t, rfl, hp, by omega⟩
    · rw [z] at h
      cases h
      exact ⟨p + 1, t + 1, by rw [show ((p + 1 : Nat) : Int) = (p : Int) + 1 by omega, show ((t + 1 : Nat) : Int) - 1 = (t : Int) by omega], by omega, by omega⟩
/-- the word of a thing that is a bound of a place and an hour -/
def bdW (p h : Int) : PyData → Option Str
  | .tuple [.str w, .int a, .int b] => if a = p ∧ b = h then some w else none
  | _ => none
theorem bdW_no {p h : Int} {a b c : PyData} (n : isS a = false ∨ isI b = false ∨ isI c = false) : bdW p h (.tuple [a, b, c]) = none := by
  rcases n with n | n | n
  · cases a <;> first | rfl | exact nomatch n
  · cases a <;> first | rfl | (cases b <;> first | rfl | exact nomatch n)
  · cases a <;> first | rfl | (cases b <;> first | rfl | (cases c <;> first | rfl | exact nomatch n))
theorem bdW_len {p h : Int} {ds : List PyData} (n : ds.length ≠ 3) : bdW p h (.tuple ds) = none := by
  match ds, n with
  | [], _ => rfl
  | [a], _ => cases a <;> rfl
  | [a, b], _ => cases a <;> first | rfl | (cases b <;> rfl)
  | [a, b, c], n => exact absurd rfl n
  | a :: b :: c :: e :: r, _ => cases a <;> first | rfl | (cases b <;> first | rfl | (cases c <;> rfl))
theorem bdW_T {p h : Int} {d : PyData} (n : isT d = false) : bdW p h d = none := by
  cases d <;> first | rfl | exact nomatch n
theorem three {K : PySem.W.Frag} {Av : Addr → Prop} {H : Hp} {B n : Nat} {xs : List V} {ds : List PyData} (t : TgAll K Av H B n xs ds) (l : xs.length = 3) : ∃ x1 x2 x3 d1 d2 d3, xs = [x1, x2, x3] ∧ ds = [d1, d2, d3] ∧ Tg K Av H B n x1 d1 ∧ Tg K Av H B n x2 d2 ∧ Tg K Av H B n x3 d3 := by
  match xs, ds, t, l with
  | [a, b, c], [d, e, f], t, _ => exact ⟨a, b, c, d, e, f, rfl, rfl, t.tail.1, t.tail.2.tail.1, t.tail.2.tail.2.tail.1⟩
  | [a, b, c], [], t, _ => exact nomatch t.1
  | [a, b, c], [d], t, _ => exact nomatch t.1
  | [a, b, c], [d, e], t, _ => exact nomatch t.1
  | [a, b, c], d :: e :: f :: g :: r, t, _ => exact nomatch t.1
/-- whether things walk on from a lead to so many -/
def walkP (D : Dy) (m : Int) : Option (Int × Int) → Int → List PyData → Bool
  | l, to, [] => l.isNone && decide (to = m)
  | none, _, _ :: _ => false
  | some (p, h), to, d :: ds => match bdW p h d with
    | none => false
    | some w => match stepP D p.toNat (h + 1).toNat w with
      | none => false
      | some b => walkP D m b.lead (to + b.more) ds
theorem walkP_cons {D : Dy} {m p h to : Int} {d : PyData} {ds : List PyData} : walkP D m (some (p, h)) to (d :: ds) = (match bdW p h d with
    | none => false
    | some w => match stepP D p.toNat (h + 1).toNat w with
      | none => false
      | some b => walkP D m b.lead (to + b.more) ds) := by
  conv => lhs; unfold walkP
def isPap (D : Dy) (m : Int) : PyData → Bool
  | .list ds => walkP D m (some ((D.ks.length : Int), (D.cs.length : Int) - 1)) 0 ds
  | _ => false
theorem Chain.walks {D : Dy} {p t : Nat} {l : List (Str × Nat × Nat)} {m : Int} (c : Chain D p t l m) : ∀ to : Int, walkP D (m + to) (some ((p : Int), (t : Int) - 1)) to (l.map dpB) = true := by
  have hd : ∀ {p t : Nat} {b : Bd} {M to : Int} {ds : List PyData}, b ∈ bnds D p t → walkP D M (some ((p : Int), (t : Int) - 1)) to (dpB (b.word, p, t) :: ds) = walkP D M b.lead (to + b.more) ds := fun {p t b M to ds} mb => by
    have e1 : bdW (p : Int) ((t : Int) - 1) (dpB (b.word, p, t)) = some b.word := if_pos ⟨rfl, rfl⟩
    have e2 : stepP D ((p : Int)).toNat ((t : Int) - 1 + 1).toNat b.word = some b := by
      rw [Int.toNat_natCast, show ((t : Int) - 1 + 1).toNat = t by omega]
      exact stepP_mem mb
    rw [walkP_cons]
    simp only [e1, e2]
  induction c with
  | last mb nl =>
    intro to
    rename_i b
    rw [List.map_cons, hd mb, nl, List.map_nil]
    show (true && decide (to + b.more = b.more + to)) = true
    rw [decide_eq_true (by omega)] <;> rfl
  | step mb sl pk tt c ih =>
    intro to
    rename_i b l' m'
    rw [List.map_cons, hd mb, sl]
    have := ih (to + b.more)
    rw [show m' + (to + b.more) = m' + b.more + to by omega] at this
    exact this
theorem Chain.pap {D : Dy} {l : List (Str × Nat × Nat)} {m : Int} (c : Chain D D.ks.length D.cs.length l m) : isPap D m (dpP l) = true := by
  have := c.walks 0
  rw [Int.add_zero] at this
  exact this
/-- papers as things -/
theorem bnds_word {D : Dy} {p t : Nat} {b : Bd} (m : b ∈ bnds D p t) : b.word = "begin" ∨ b.word = "comes" ∨ b.word = "ahead" ∨ b.word = "takes" ∨ b.word = "room" := by
  have f1 : ∀ q, (firstB D p q).word = "comes" ∨ (firstB D p q).word = "ahead" := fun q => by
    unfold firstB
    split
    · exact .inl rfl
    · exact .inr rfl
  cases t with
  | zero => exact .inl (by rw [List.mem_singleton.mp m] <;> rfl)
  | succ t =>
    have hm : b = firstB D p t ∨ b.word = "takes" ∨ b.word = "room" := by
      by_cases c : p = D.ks.length
      · rw [show bnds D p (t + 1) = [firstB D p t, ⟨"takes", some ((p : Int), (t : Int) - 1), D.ss.getD t 0⟩] from if_pos c] at m
        rcases List.mem_cons.mp m with z | z
        · exact .inl z
        · exact .inr (.inl (by rw [List.mem_singleton.mp z] <;> rfl))
      · rw [show bnds D p (t + 1) = [firstB D p t, ⟨"takes", some ((p : Int), (t : Int) - 1), (kt D p).2.getD t 0⟩, ⟨"room", some ((p : Int) + 1, (t : Int)), (kt D p).1⟩] from if_neg c] at m
        rcases List.mem_cons.mp m with z | z
        · exact .inl z
        · rcases List.mem_cons.mp z with z | z
          · exact .inr (.inl (by rw [z] <;> rfl))
          · exact .inr (.inr (by rw [List.mem_singleton.mp z] <;> rfl))
    rcases hm with z | z | z
    · rw [z]
      rcases f1 t with y | y
      · exact .inr (.inl y)
      · exact .inr (.inr (.inl y))
    · exact .inr (.inr (.inr (.inl z)))
    · exact .inr (.inr (.inr (.inr z)))
def smallE (e : Str × Nat × Nat) : Prop := (e.1.length ≤ 10 ∧ (∀ c ∈ TL.tl e.1, c < 128) ∧ PyData.weight (.str e.1) ≤ 10) ∧ e.2.1 ≤ 100 ∧ e.2.2 ≤ 100
theorem Chain.small {D : Dy} {p t : Nat} {l : List (Str × Nat × Nat)} {m : Int} (c : Chain D p t l m) (hp : p ≤ 100) (hk : D.ks.length ≤ 100) (ht : t ≤ 100) : ∀ e ∈ l, smallE e := by
  have one : ∀ {p t : Nat} {b : Bd}, b ∈ bnds D p t → p ≤ 100 → t ≤ 100 → smallE (b.word, p, t) := fun {p t b} mb h1 h2 => by
    refine ⟨?_, h1, h2⟩
    show b.word.length ≤ 10 ∧ (∀ c ∈ TL.tl b.word, c < 128) ∧ PyData.weight (.str b.word) ≤ 10
    rcases bnds_word mb with e | e | e | e | e <;> rw [e] <;> exact ⟨by decide +kernel, by decide +kernel, by decide +kernel⟩
  induction c with
  | last mb nl =>
    intro e he
    rw [List.mem_singleton.mp he]
    exact one mb hp ht
  | step mb sl pk tt c ih =>
    intro e he
    rcases List.mem_cons.mp he with z | z
    · rw [z]
      exact one mb hp ht
    · exact ih (by omega) (by omega) e z
theorem Chain.pos {D : Dy} {p t : Nat} {l : List (Str × Nat × Nat)} {m : Int} (c : Chain D p t l m) : 1 ≤ l.length := by
  cases c <;> (rw [List.length_cons]; omega)
theorem wt7 {i : Int} (h : i.natAbs < 2 ^ 7) : PyData.weight (.int i) ≤ 7 := by
  show (if i == 0 then 0 else i.natAbs.log2 + 1) ≤ 7
  by_cases c : i = 0
  · rw [c]
    decide
  · rw [if_neg (by simpa using c)]
    have := (Nat.log2_lt (show i.natAbs ≠ 0 by omega)).mpr h
    omega
theorem PaperAt.fr {H H' : Hp} {p : Addr} {n : Nat} {rs : List Addr} {l : List (Str × Nat × Nat)} (h : PaperAt H rs l) (B : BoxAt H p n) (F : Fr p H H') : PaperAt H' rs l := ⟨h.1, fun j r e a b => F _ _ (B.ne (h.2 j r e a b)) (h.2 j r e a b)⟩
theorem wt_small {e : Str × Nat × Nat} (s : smallE e) : PyData.weight (dpB e) ≤ 31 := by
  obtain ⟨⟨_, _, w⟩, h1, h2⟩ := s
  have g : ∀ i : Int, i.natAbs < 2 ^ 7 → PyData.weight (.int i) ≤ 7 := fun i h => by
    show (if i == 0 then 0 else i.natAbs.log2 + 1) ≤ 7
    by_cases c : i = 0
    · rw [c]
      decide
    · rw [if_neg (by simpa using c)]
      have := (Nat.log2_lt (show i.natAbs ≠ 0 by omega)).mpr h
      omega
  have a := g (e.2.1 : Int) (by omega)
  have b := g ((e.2.2 : Int) - 1) (by omega)
  show PyData.weight (.str e.1) + 1 + (PyData.weight (.int (e.2.1 : Int)) + 1 + (PyData.weight (.int ((e.2.2 : Int) - 1)) + 1 + 0)) ≤ 31
  omega
theorem papTg {K : PySem.W.Frag} {Av : Addr → Prop} {H : Hp} {rs : List Addr} {l : List (Str × Nat × Nat)} (h : PaperAt H rs l) (s : ∀ e ∈ l, smallE e) : TgAll K Av H 1000000 1 (rs.map V.ref) (l.map dpB) := by
  refine ⟨by rw [List.length_map, List.length_map, h.1], fun i x d e1 e2 => ?_⟩
  rw [List.getElem?_map] at e1 e2
  obtain ⟨r, er, rfl⟩ := Option.map_eq_some_iff.mp e1
  obtain ⟨e, ee, rfl⟩ := Option.map_eq_some_iff.mp e2
  have hr := h.2 i r e er ee
  obtain ⟨⟨l1, c1, w1⟩, h1, h2⟩ := s e (List.mem_of_getElem? ee)
  exact .tup (SqT.of hr) rfl (TgAll.cons (.str _ _ 0 l1 c1) (.cons (.int _ _ (by omega)) (.cons (.int _ _ (by omega)) .nil))).2
theorem wa_pap : ∀ {l : List (Str × Nat × Nat)}, (∀ e ∈ l, smallE e) → PyData.weightAll (l.map dpB) ≤ 32 * l.length
  | [], _ => Nat.zero_le _
  | e :: l, s => by
    have a := wt_small (s e List.mem_cons_self)
    have b := wa_pap (l := l) fun e h => s e (List.mem_cons_of_mem _ h)
    rw [List.map_cons, List.length_cons]
    show PyData.weight (dpB e) + 1 + PyData.weightAll (l.map dpB) ≤ _
    omega
end KR
/-! ### days with one more of all at a place -/
namespace KR
open PySem PySem.Spec PyProof.Rows L2
/-- a day with one more of all at a place -/
def widerD (D : Dy) (p : Nat) : Dy := if p = D.ks.length then ⟨D.cs, D.ks, D.ss.map (· + 1)⟩ else ⟨D.cs, D.ks.set p ((kt D p).1 + 1, (kt D p).2.map (· + 1)), D.ss⟩
theorem wider_cs (D : Dy) (p : Nat) : (widerD D p).cs = D.cs := by
  unfold widerD
  split <;> rfl
theorem wider_kl (D : Dy) (p : Nat) : (widerD D p).ks.length = D.ks.length := by
  unfold widerD
  split
  · rfl
  · exact List.length_set
theorem wider_ok {D : Dy} (O : DyOk D) {p : Nat} (hp : p ≤ D.ks.length) : DyOk (widerD D p) := by
  refine ⟨by rw [wider_cs]; exact O.h1, by rw [wider_cs]; exact O.h2, by rw [wider_kl]; exact O.k1, by rw [wider_kl]; exact O.k2, fun k hk => ?_, ?_⟩
  · rw [wider_cs]
    unfold widerD at hk
    split at hk
    · exact O.ts k hk
    · rcases List.mem_or_eq_of_mem_set hk with h | h
      · exact O.ts k h
      · rw [h]
        show ((kt D p).2.map (· + 1)).length = _
        rw [List.length_map]
        exact kt_len O (by omega)
  · rw [wider_cs]
    unfold widerD
    split
    · show (D.ss.map (· + 1)).length = _
      rw [List.length_map]
      exact O.sl
    · exact O.sl
/-- the places that bind -/
def bindL (D : Dy) : List Nat := (List.range (D.ks.length + 1)).filter fun p => decide (mostD D < mostD (widerD D p))
def bindI (D : Dy) : List Int := (bindL D).map fun p : Nat => (p : Int)
theorem csum_up {D : Dy} (nn : ∀ z ∈ D.cs, 0 ≤ z) (t : Nat) : csum D t ≤ csum D (t + 1) := by
  unfold csum
  by_cases c : t < D.cs.length
  · rw [take_one (List.getElem?_eq_getElem c), List.sum_append, List.sum_cons, List.sum_nil]
    have := nn _ (List.getElem_mem c)
    omega
  · rw [List.take_of_length_le (by omega), List.take_of_length_le (by omega)]
    exact Int.le_refl _
theorem csum_at_zero (D : Dy) : csum D 0 = 0 := rfl
/-- no place takes more than has come -/
theorem tk_le_csum {D : Dy} (nn : ∀ z ∈ D.cs, 0 ≤ z) (k1 : 1 ≤ D.ks.length) : ∀ t p, p ≤ D.ks.length → tk D t p ≤ csum D t := fun t => by
  induction t with
  | zero => intro p _; rw [tk_zero, csum_at_zero] <;> exact Int.le_refl _
  | succ t ih =>
    intro p hp
    have up := csum_up nn t
    by_cases c : p = D.ks.length
    · subst c
      rw [tk_last]
      have := ih (D.ks.length - 1) (by omega)
      omega
    · rw [tk_at (by omega)]
      by_cases c0 : p = 0
      · rw [if_pos c0]
        omega
      · rw [if_neg c0]
        have := ih (p - 1) (by omega)
        omega
theorem most_le {D : Dy} (nn : ∀ z ∈ D.cs, 0 ≤ z) (k1 : 1 ≤ D.ks.length) {p : Nat} : mostD (widerD D p) ≤ csum D D.cs.length := by
  have h := tk_le_csum (D := widerD D p) (by rw [wider_cs]; exact nn) (by rw [wider_kl]; exact k1) D.cs.length D.ks.length (by rw [wider_kl]; exact Nat.le_refl _)
  unfold mostD
  rw [wider_cs, wider_kl]
  unfold csum at h ⊢
  rw [wider_cs] at h
  exact h
/-- nothing binds where all that comes is struck -/
theorem bind_none {D : Dy} (nn : ∀ z ∈ D.cs, 0 ≤ z) (k1 : 1 ≤ D.ks.length) (all : csum D D.cs.length ≤ mostD D) : bindI D = [] := by
  unfold bindI bindL
  rw [List.filter_eq_nil_iff.mpr fun p _ => ?_]
  · rfl
  · have := most_le nn k1 (p := p)
    rw [decide_eq_false (by omega)]
    exact Bool.false_ne_true
theorem sum_zeros (n : Nat) : ∀ t, ((List.replicate n (0 : Int)).take t).sum = 0 := fun t => by
  rw [List.take_replicate]
  generalize min t n = m
  induction m with
  | zero => rfl
  | succ m ih =>
    rw [List.replicate_succ, List.sum_cons, ih] <;> rfl
theorem getD_zeros (n t : Nat) : (List.replicate n (0 : Int)).getD t 0 = 0 := by
  rw [List.getD_eq_getElem?_getD, List.getElem?_replicate]
  split <;> rfl
/-- nothing is struck where no strike is taken -/
theorem tk_still {D : Dy} {n : Nat} (hs : D.ss = List.replicate n 0) : ∀ t, tk D t D.ks.length ≤ 0 := fun t => by
  induction t with
  | zero => rw [tk_zero] <;> exact Int.le_refl _
  | succ t ih =>
    rw [tk_last, hs, getD_zeros]
    omega
theorem bind_still {D : Dy} {n : Nat} (hs : D.ss = List.replicate n 0) (N : DyNn D) : bindI D = [] ∨ bindI D = [(D.ks.length : Int)] := by
  have m0 : mostD D = 0 := by
    have h1 := tk_still hs D.cs.length
    have h2 := (tk_nn N D.cs.length 0 D.ks.length (by omega)).1
    unfold mostD
    omega
  have none : (List.range D.ks.length).filter (fun p => decide (mostD D < mostD (widerD D p))) = [] := List.filter_eq_nil_iff.mpr fun p hp => by
    have hp := List.mem_range.mp hp
    have e : (widerD D p).ss = D.ss := by
      unfold widerD
      rw [if_neg (by omega)]
    have h1 := tk_still (D := widerD D p) (e.trans hs) D.cs.length
    have h2 : mostD (widerD D p) ≤ 0 := by
      unfold mostD
      rw [wider_cs]
      exact h1
    rw [decide_eq_false (by omega)]
    exact Bool.false_ne_true
  unfold bindI bindL
  rw [List.range_succ, List.filter_append, none, List.nil_append, List.filter_cons]
  split
  · exact .inr rfl
  · exact .inl rfl
/-- the day on which all that comes is struck -/
def freeD (n : Nat) : Dy := ⟨[3, 0, 0, 0, 0, 0, 0, 0, 0], List.replicate n (3, [3, 3, 3, 3, 3, 3, 3, 3, 3]), [3, 3, 3, 3, 3, 3, 3, 3, 3]⟩
theorem free_kt {n p : Nat} (h : p < n) : kt (freeD n) p = (3, [3, 3, 3, 3, 3, 3, 3, 3, 3]) := by
  show (List.replicate n _).getD p _ = _
  rw [List.getD_eq_getElem?_getD, List.getElem?_replicate, if_pos h] <;> rfl
theorem nine {t : Nat} (h : t < 9) : ([3, 3, 3, 3, 3, 3, 3, 3, 3] : List Int).getD t 0 = 3 := by
  match t, h with
  | 0, _ | 1, _ | 2, _ | 3, _ | 4, _ | 5, _ | 6, _ | 7, _ | 8, _ => rfl
theorem free_csum {n t : Nat} (h : t < 9) : csum (freeD n) (t + 1) = 3 := by
  match t, h with
  | 0, _ | 1, _ | 2, _ | 3, _ | 4, _ | 5, _ | 6, _ | 7, _ | 8, _ => rfl
theorem tk_free {n : Nat} (hn : 1 ≤ n) : ∀ t, t ≤ 9 → ∀ q p, p + q = n → tk (freeD n) t p = if p < t then 3 else 0 := fun t => by
  have nl : (freeD n).ks.length = n := List.length_replicate
  induction t with
  | zero => intro _ q p _; rw [tk_zero, if_neg (by omega)]
  | succ t ih =>
    intro ht q
    induction q with
    | zero =>
      intro p hp
      have e : p = (freeD n).ks.length := by omega
      rw [e, tk_last, nl, ih (by omega) 1 (n - 1) (by omega), ih (by omega) 0 n rfl]
      have h9 : (freeD n).ss.getD t 0 = 3 := nine (by omega)
      rw [h9]
      by_cases c : n - 1 < t
      · rw [show (if n - 1 < t then (3 : Int) else 0) = 3 from if_pos c, show (if n < t + 1 then (3 : Int) else 0) = 3 from if_pos (by omega)]
        split <;> decide
      · rw [show (if n - 1 < t then (3 : Int) else 0) = 0 from if_neg c, show (if n < t + 1 then (3 : Int) else 0) = 0 from if_neg (by omega), show (if n < t then (3 : Int) else 0) = 0 from if_neg (by omega)]
        decide
    | succ q ihq =>
      intro p hp
      rw [tk_at (by omega), ihq (p + 1) (by omega), ih (by omega) (q + 1) p hp, free_kt (by omega)]
      show min (min _ (_ + ([3, 3, 3, 3, 3, 3, 3, 3, 3] : List Int).getD t 0)) (_ + 3) = _
      rw [nine (by omega)]
      by_cases c : p = 0
      · subst c
        rw [if_pos rfl, free_csum (by omega), if_pos (show 0 < t + 1 by omega)]
        split <;> split <;> decide
      · rw [if_neg c, ih (by omega) (q + 2) (p - 1) (by omega)]
        by_cases c2 : p - 1 < t
        · rw [if_pos c2, if_pos (show p < t + 1 by omega)]
          split <;> split <;> decide
        · rw [if_neg c2, if_neg (show ¬ p < t + 1 by omega)]
          split <;> split <;> decide
theorem bind_free {n : Nat} (h1 : 1 ≤ n) (h8 : n ≤ 8) : bindI (freeD n) = [] := by
  have nl : (freeD n).ks.length = n := List.length_replicate
  refine bind_none (fun z hz => ?_) (by rw [nl]; exact h1) ?_
  · have m : z ∈ ([3, 0, 0, 0, 0, 0, 0, 0, 0] : List Int) := hz
    simp only [List.mem_cons, List.not_mem_nil, or_false] at m
    omega
  · show (3 : Int) ≤ mostD (freeD n)
    unfold mostD
    rw [nl]
    show 3 ≤ tk (freeD n) 9 n
    rw [tk_free h1 9 (Nat.le_refl _) 0 n rfl, if_pos (by omega)]
    decide
theorem free_ok {n : Nat} (h1 : 1 ≤ n) (h8 : n ≤ 8) : DyOk (freeD n) := by
  have nl : (freeD n).ks.length = n := List.length_replicate
  exact ⟨by show 1 ≤ 9; decide, by show 9 ≤ 48; decide, by rw [nl]; exact h1, by rw [nl]; exact h8, fun k hk => by rw [List.eq_of_mem_replicate hk] <;> rfl, rfl⟩
/-- a row of numbers with one more of each -/
theorem inc_lc {K : PySem.W.Frag} {p t : Addr} {ns : List Int} {b : Bool} {σ : L2.St} {i n : Nat} {H : Hp} {Q : VK} (hv : σ[i]? = some (some (.ref t))) (hn : n < σ.length) (ht : IsB' K H p t ns b) (ln : ns.length ≤ 48) (q : ∀ (G : Addr) (H' : Hp), Same H H' → H G = none → H' G = some (.lst ((ns.map (· + 1)).map V.int)) → Q (.ref G) H') :
    tLc (iSeqB K (tVar i)) (gName n) tYes (tOp (rI0 fun i j => V.int (i + j)) (tVar n) (tC (V.int 1))) [n] σ H Q := by
  refine ⟨_, hv, t, rfl, ?_⟩
  let Pv : Addr → Nat → Hp → Prop := fun G j H' => Same H H' ∧ H' G = some (.lst (((ns.map (· + 1)).take j).map V.int))
  have stp : ∀ (G : Addr), H G = none → ∀ (j : Nat) (v : V) (H6 H7 : Hp), j < (ns.map V.int).length → Pv G j H6 → (H7 = H6 ∧ (ns.map V.int)[j]? = some v) → gName n v (wipe σ [n]) H7 fun σ2 H2 => wipe σ2 [n] = wipe σ [n] ∧ tYes σ2 H2 fun b H3 => if b = true then (tOp (rI0 fun i j => V.int (i + j)) (tVar n) (tC (V.int 1))) σ2 H3 fun y H4 => ∃ acc, H4 G = some (.lst acc) ∧ acc.length < sizeLine ∧ Pv G (j + 1) (upd H4 G (.lst (acc ++ [y]))) else Pv G (j + 1) H3 := by
    rintro G hG j v H6 H7 hj ⟨s6, hG6⟩ ⟨rfl, e⟩
    rw [List.getElem?_map] at e
    obtain ⟨z, ez, rfl⟩ := Option.map_eq_some_iff.mp e
    rw [List.length_map] at hj
    refine ⟨?_, yesT ?_⟩
    · show ((σ.set n none).set n (some (V.int z))).set n none = σ.set n none
      rw [List.set_set, List.set_set]
    · refine ⟨_, by show ((σ.set n none).set n (some (V.int z)))[n]? = _; rw [List.getElem?_set_self (by rw [List.length_set]; exact hn)], _, _, rfl, rfl, ?_⟩
      refine ⟨_, hG6, by rw [List.length_map, List.length_take, List.length_map]; exact small' (by omega), Same.put s6 hG, ?_⟩
      rw [upd_same, take_one (show (ns.map (· + 1))[j]? = some (z + 1) by rw [List.getElem?_map, ez] <;> rfl), List.map_append] <;> rfl
  have fin : ∀ (G : Addr), H G = none → ∀ H', Pv G (ns.map V.int).length H' → Q (.ref G) H' := fun G hG H' ⟨s6, hG6⟩ => by
    rw [List.length_map, List.take_of_length_le (by rw [List.length_map]; exact Nat.le_refl _)] at hG6
    exact q G H' s6 hG hG6
  cases b with
  | true => exact .inl ⟨⟨_, ht.1⟩, fun G hG => lc_it (walk_list (K := K) (a := t) (xs := ns.map V.int)) (Pv G) ⟨same_new hG, upd_same⟩ (fun j H' _ z => (ht.same z.1).1) (fun j v H6 H7 hj z y => stp G hG j v H6 H7 hj z y) (fin G hG)⟩
  | false => exact .inr ⟨⟨_, ht.1⟩, fun G hG => lc_it (walk_tup (K := K) (a := t) (xs := ns.map V.int)) (Pv G) ⟨same_new hG, upd_same⟩ (fun j H' _ z => (ht.same z.1).1) (fun j v H6 H7 hj z y => stp G hG j v H6 H7 hj z y) (fin G hG)⟩
/-- where a day with one more stands -/
theorem wider_at {K : PySem.W.Frag} {H0 H' : Hp} {p d w L u G : Addr} {x : DyP} {D : Dy} {i : Nat} (hD : DayAt K H0 p d x D) (s : Same H0 H') (hi : i < D.ks.length) (hw : H' w = some (.tup [.ref x.c, .ref L, .ref x.s])) (hL : H' L = some (.lst ((x.as.set i u).map V.ref))) (Lp : L ≠ p)
    (hu : H' u = some (.tup [.int ((kt D i).1 + 1), .ref G])) (hG : H' G = some (.lst (((kt D i).2.map (· + 1)).map V.int))) (Gp : G ≠ p) : DayAt K H' p w ⟨x.c, L, x.s, x.pc, true, x.ps, x.as.set i u⟩ (widerD D i) := by
  have e : widerD D i = ⟨D.cs, D.ks.set i ((kt D i).1 + 1, (kt D i).2.map (· + 1)), D.ss⟩ := if_neg (by omega)
  have hs := hD.same s
  rw [e]
  refine ⟨SqT.of hw, hs.cs, SqL.of hL, Lp, hs.ss, by rw [List.length_set, List.length_set]; exact hD.len, fun j a k e1 e2 => ?_⟩
  by_cases c : i = j
  · subst c
    rw [List.getElem?_set_self (by rw [hD.len]; exact hi)] at e1
    rw [List.getElem?_set_self hi] at e2
    cases e1
    cases e2
    exact ⟨G, true, SqT.of hu, SqL.of hG, Gp⟩
  · rw [List.getElem?_set_ne c] at e1 e2
    exact hs.kt j a k e1 e2
theorem wider_atS {K : PySem.W.Frag} {H0 H' : Hp} {p d w G : Addr} {x : DyP} {D : Dy} (hD : DayAt K H0 p d x D) (s : Same H0 H') (hw : H' w = some (.tup [.ref x.c, .ref x.k, .ref G])) (hG : H' G = some (.lst ((D.ss.map (· + 1)).map V.int))) (Gp : G ≠ p) : DayAt K H' p w ⟨x.c, x.k, G, x.pc, x.pk, true, x.as⟩ (widerD D D.ks.length) := by
  have e : widerD D D.ks.length = ⟨D.cs, D.ks, D.ss.map (· + 1)⟩ := if_pos rfl
  have hs := hD.same s
  rw [e]
  exact ⟨SqT.of hw, hs.cs, hs.ks, hs.kp, ⟨SqL.of hG, Gp⟩, hs.len, hs.kt⟩
theorem seqB_or {K : PySem.W.Frag} {H : Hp} {a : Addr} {xs : List V} {b : Bool} (h : SqB K H a xs b) : SqL K H a xs ∨ SqT K H a xs := by
  cases b with
  | true => exact .inl h
  | false => exact .inr h
theorem ixN_at {n i : Nat} (h : i < n) : ixN n (i : Int) = some i := by
  unfold ixN
  rw [if_pos (by omega), if_pos (by omega), Int.toNat_natCast]
theorem cut_from {xs : List V} {n : Nat} (h : n ≤ xs.length) : cutV xs (some (n : Int)) none = xs.drop n := by
  unfold cutV
  rw [HT.sIx_none, HT.sIx_nat, Nat.min_eq_left h, List.take_of_length_le (by rw [List.length_drop]; exact Nat.le_refl _)]
theorem set_cut {α : Type} {xs : List α} {i : Nat} {a : α} (h : i < xs.length) : xs.take i ++ [a] ++ xs.drop (i + 1) = xs.set i a := by
  rw [List.set_eq_take_append_cons_drop, if_pos h, List.append_assoc] <;> rfl
end KR
/-! ### the greatest plan as a plan; papers cut short; the day of tens -/
namespace KR
open PySem PySem.Spec PyProof.Rows L2
theorem firstV_uniq {D : Dy} {m : Int} {v w : V} (h1 : FirstV D m v) (h2 : FirstV D m w) : v = w := by
  rcases h1 with ⟨t, lt, lo, hi, rfl⟩ | ⟨lo, rfl⟩ <;> rcases h2 with ⟨u, ltu, lou, hiu, rfl⟩ | ⟨lou, rfl⟩
  · have e : t = u := by
      rcases Nat.lt_trichotomy t u with c | c | c
      · have := lou t c
        omega
      · exact c
      · have := lo u c
        omega
    rw [e]
  · have := lou t lt
    omega
  · have := lo u ltu
    omega
  · rfl
theorem mem_kt {D : Dy} {p : Nat} (h : p < D.ks.length) : kt D p ∈ D.ks := by
  unfold kt
  rw [List.getD_eq_getElem?_getD, List.getElem?_eq_getElem h]
  exact List.getElem_mem h
theorem csum_mono {D : Dy} (N : DyNn D) (t : Nat) : csum D t ≤ csum D (t + 1) := by
  unfold csum
  by_cases c : t < D.cs.length
  · rw [take_one (List.getElem?_eq_getElem c), List.sum_append, List.sum_cons, List.sum_nil]
    have := (N.cs _ (List.getElem_mem c)).1
    omega
  · rw [List.take_of_length_le (by omega), List.take_of_length_le (by omega)]
    exact Int.le_refl _
/-- a place has no less an hour later -/
theorem tk_mono {D : Dy} (N : DyNn D) (k1 : 1 ≤ D.ks.length) : ∀ t q p, p + q = D.ks.length → tk D t p ≤ tk D (t + 1) p := fun t => by
  induction t with
  | zero =>
    intro q p h
    rw [tk_zero]
    exact (tk_nn N 1 q p h).1
  | succ t ih =>
    intro q
    induction q with
    | zero =>
      intro p h
      have hp : p = D.ks.length := by omega
      subst hp
      have a := tk_last D t
      have b := tk_last D (t + 1)
      have c := ih 1 (D.ks.length - 1) (by omega)
      have d := (ldl_at N.ss (t + 1)).1
      omega
    | succ q ihq =>
      intro p h
      have hp : p < D.ks.length := by omega
      have a := tk_at (D := D) (t := t) hp
      have b := tk_at (D := D) (t := t + 1) hp
      have c := ihq (p + 1) (by omega)
      have k := N.ks _ (mem_kt hp)
      have d := (ldl_at k.2.2 (t + 1)).1
      have s := csum_mono N (t + 1)
      by_cases c0 : p = 0
      · rw [if_pos c0] at a b
        omega
      · rw [if_neg c0] at a b
        have e := ih (q + 2) (p - 1) (by omega)
        omega
theorem row_nn {D : Dy} (O : DyOk D) (N : DyNn D) {p : Nat} (hp : p ≤ D.ks.length) : Ldl (rowI D p) := fun z hz => by
  unfold rowI at hz
  obtain ⟨t, ht, rfl⟩ := List.mem_map.mp hz
  have ht := List.mem_range.mp ht
  have k1 := O.k1
  have m := tk_mono N k1 t (D.ks.length - p) p (by omega)
  refine ⟨by omega, ?_⟩
  by_cases c : p = D.ks.length
  · subst c
    have a := tk_last D t
    have d := (ldl_at N.ss t).2
    omega
  · have a := tk_at (D := D) (t := t) (p := p) (by omega)
    have k := N.ks _ (mem_kt (D := D) (p := p) (by omega))
    have d := (ldl_at k.2.2 t).2
    split at a <;> omega
/-- the greatest plan -/
def rowsI (D : Dy) : List (List Int) := (List.range (D.ks.length + 1)).map (rowI D)
theorem rowsI_at {D : Dy} {q : Nat} (hq : q ≤ D.ks.length) : (rowsI D)[q]? = some (rowI D q) := by
  unfold rowsI
  rw [List.getElem?_map, List.getElem?_range (by omega)] <;> rfl
theorem rowsI_F {D : Dy} {q : Nat} (hq : q ≤ D.ks.length) : rowF (rowsI D) q = rowI D q := rowF_at (rowsI_at hq)
theorem rowsI_PS {D : Dy} {q u : Nat} (hq : q ≤ D.ks.length) (hu : u ≤ D.cs.length) : PS (rowF (rowsI D)) q u = tk D u q := by
  unfold PS
  rw [rowsI_F hq, row_sum D q u hu]
theorem rowsI_ok {D : Dy} (O : DyOk D) (N : DyNn D) : PlanOk D (rowsI D) := ⟨by unfold rowsI; rw [List.length_map, List.length_range], fun r hr => by
  unfold rowsI at hr
  obtain ⟨q, hq, rfl⟩ := List.mem_map.mp hr
  have hq := List.mem_range.mp hq
  exact ⟨row_len D q, fun z hz => (row_nn O N (p := q) (by omega) z hz).1⟩⟩
theorem rowsI_do {D : Dy} (O : DyOk D) (N : DyNn D) : PlanDo D (rowsI D) := fun p t hp ht => by
  refine (plAt_bnds hp (by rw [rowsI_F hp, row_len]; exact ht)).mpr fun b hb => ?_
  have e := (bnds_min (D := D) (p := p) (t := t + 1) O.k1 hp).2 (valB D b) (List.mem_map.mpr ⟨b, hb, rfl⟩)
  rw [rowsI_PS hp (by omega)]
  have ev : valX (rowF (rowsI D)) b = valB D b := by
    unfold valX valB
    cases el : b.lead with
    | none => rfl
    | some y =>
      obtain ⟨p', h'⟩ := y
      obtain ⟨pn, tn, rfl, rfl, pk, tt⟩ := bnds_lead hp hb el
      show PS (rowF (rowsI D)) ((pn : Int)).toNat ((tn : Int) - 1 + 1).toNat + b.more = tk D ((tn : Int) - 1 + 1).toNat ((pn : Int)).toNat + b.more
      rw [Int.toNat_natCast, show ((tn : Int) - 1 + 1).toNat = tn by omega, rowsI_PS pk (by omega)]
  rw [ev]
  exact e
theorem rowsI_tg {K : PySem.W.Frag} {Av : Addr → Prop} {H : Hp} {D : Dy} (O : DyOk D) (N : DyNn D) {f : Addr} {rs : List Addr} (hf : H f = some (.lst (rs.map V.ref))) (nf : ¬ Av f) (lr : rs.length = D.ks.length + 1) (rows : ∀ (j : Nat) (r : Addr), rs[j]? = some r → H r = some (.lst ((rowI D j).map V.int)) ∧ ¬ Av r) : Tg K Av H 1000000 2 (.ref f) (planX (rowsI D)) := by
  refine tg_plan hf nf ⟨by rw [lr]; unfold rowsI; rw [List.length_map, List.length_range], fun j r xs e1 e2 => ?_⟩ fun xs hx z hz => ?_
  · have hj : j ≤ D.ks.length := by have := (List.getElem?_eq_some_iff.mp e1).1; omega
    rw [rowsI_at hj] at e2
    cases e2
    exact rows j r e1
  · unfold rowsI at hx
    obtain ⟨q, hq, rfl⟩ := List.mem_map.mp hx
    have hq := List.mem_range.mp hq
    have := row_nn O N (p := q) (by omega) z hz
    omega
theorem rowsI_plan (D : Dy) : planX (rowsI D) = planD D := by
  unfold planX rowsI planD
  rw [List.map_map] <;> rfl
/-- a paper comes to just one number -/
theorem Chain.walksN {D : Dy} {p t : Nat} {l : List (Str × Nat × Nat)} {m : Int} (c : Chain D p t l m) : ∀ M to : Int, walkP D M (some ((p : Int), (t : Int) - 1)) to (l.map dpB) = decide (m + to = M) := by
  have hd : ∀ {p t : Nat} {b : Bd} {M to : Int} {ds : List PyData}, b ∈ bnds D p t → walkP D M (some ((p : Int), (t : Int) - 1)) to (dpB (b.word, p, t) :: ds) = walkP D M b.lead (to + b.more) ds := fun {p t b M to ds} mb => by
    have e1 : bdW (p : Int) ((t : Int) - 1) (dpB (b.word, p, t)) = some b.word := if_pos ⟨rfl, rfl⟩
    have e2 : stepP D ((p : Int)).toNat ((t : Int) - 1 + 1).toNat b.word = some b := by
      rw [Int.toNat_natCast, show ((t : Int) - 1 + 1).toNat = t by omega]
      exact stepP_mem mb
    rw [walkP_cons]
    simp only [e1, e2]
  induction c with
  | last mb nl =>
    intro M to
    rename_i b
    rw [List.map_cons, hd mb, nl, List.map_nil]
    show (true && decide (to + b.more = M)) = _
    rw [Int.add_comm, Bool.true_and]
  | step mb sl pk tt c ih =>
    intro M to
    rename_i b l' m'
    rw [List.map_cons, hd mb, sl, ih M (to + b.more), show m' + (to + b.more) = m' + b.more + to by omega]
/-- without its last bound it is none -/
theorem Chain.cut {D : Dy} {p t : Nat} {l : List (Str × Nat × Nat)} {m : Int} (c : Chain D p t l m) : ∀ M to : Int, walkP D M (some ((p : Int), (t : Int) - 1)) to (l.dropLast.map dpB) = false := by
  have hd : ∀ {p t : Nat} {b : Bd} {M to : Int} {ds : List PyData}, b ∈ bnds D p t → walkP D M (some ((p : Int), (t : Int) - 1)) to (dpB (b.word, p, t) :: ds) = walkP D M b.lead (to + b.more) ds := fun {p t b M to ds} mb => by
    have e1 : bdW (p : Int) ((t : Int) - 1) (dpB (b.word, p, t)) = some b.word := if_pos ⟨rfl, rfl⟩
    have e2 : stepP D ((p : Int)).toNat ((t : Int) - 1 + 1).toNat b.word = some b := by
      rw [Int.toNat_natCast, show ((t : Int) - 1 + 1).toNat = t by omega]
      exact stepP_mem mb
    rw [walkP_cons]
    simp only [e1, e2]
  induction c with
  | last mb nl => intro M to; rfl
  | step mb sl pk tt c ih =>
    intro M to
    rename_i b l' m'
    cases l' with
    | nil => cases c
    | cons e r =>
      rw [List.dropLast_cons_of_ne_nil (by simp), List.map_cons, hd mb, sl]
      exact ih M _
theorem isPapN {D : Dy} {l : List (Str × Nat × Nat)} {m M : Int} (c : Chain D D.ks.length D.cs.length l m) : isPap D M (dpP l) = decide (m = M) := by
  have := c.walksN M 0
  rw [Int.add_zero] at this
  exact this
theorem isPapC {D : Dy} {l : List (Str × Nat × Nat)} {m M : Int} (c : Chain D D.ks.length D.cs.length l m) : isPap D M (dpP l.dropLast) = false := c.cut M 0
/-- the day of tens -/
def tensD : Dy := ⟨List.replicate 48 1000000, List.replicate 8 (1000000, List.replicate 48 1000000), List.replicate 48 1000000⟩
theorem tens_ok : DyOk tensD := ⟨by decide, by decide, by decide, by decide, fun k hk => by rw [List.eq_of_mem_replicate (show k ∈ List.replicate 8 (1000000, List.replicate 48 1000000) from hk)] <;> rfl, rfl⟩
theorem tens_nn : DyNn tensD := ⟨ldl_rep (by decide) (by decide), fun k hk => by rw [List.eq_of_mem_replicate (show k ∈ List.replicate 8 (1000000, List.replicate 48 1000000) from hk)]; exact ⟨by decide, by decide, ldl_rep (by decide) (by decide)⟩, ldl_rep (by decide) (by decide)⟩
theorem getD_tens {t : Nat} (h : t < 48) : (List.replicate 48 (1000000 : Int)).getD t 0 = 1000000 := by
  rw [List.getD_eq_getElem?_getD, List.getElem?_replicate, if_pos h] <;> rfl
theorem kt_tens {p : Nat} (h : p < 8) : kt tensD p = (1000000, List.replicate 48 1000000) := by
  unfold kt tensD
  rw [List.getD_eq_getElem?_getD, List.getElem?_replicate, if_pos h] <;> rfl
theorem csum_tens {t : Nat} (h : t ≤ 48) : csum tensD t = 1000000 * (t : Int) := by
  have s : ∀ n : Nat, (List.replicate n (1000000 : Int)).sum = 1000000 * (n : Int) := fun n => by
    induction n with
    | zero => rfl
    | succ n ih =>
      rw [List.replicate_succ, List.sum_cons, ih]
      omega
  show ((List.replicate 48 (1000000 : Int)).take t).sum = _
  rw [List.take_replicate, s, Nat.min_eq_left h]
theorem tk_tens : ∀ t, t ≤ 48 → ∀ q p, p + q = 8 → tk tensD t p = 1000000 * ((t - p : Nat) : Int) := fun t => by
  induction t with
  | zero =>
    intro _ q p _
    rw [tk_zero, Nat.zero_sub] <;> rfl
  | succ t ih =>
    intro ht q
    have kl : tensD.ks.length = 8 := by decide
    induction q with
    | zero =>
      intro p h
      obtain rfl : p = 8 := by omega
      have a := tk_last tensD t
      rw [kl] at a
      have b := ih (by omega) 1 7 rfl
      have c := ih (by omega) 0 8 rfl
      have d : tensD.ss.getD t 0 = 1000000 := getD_tens (by omega)
      rw [show 8 - 1 = 7 from rfl] at a
      omega
    | succ q ihq =>
      intro p h
      have hp : p < tensD.ks.length := by rw [kl]; omega
      have a := tk_at (D := tensD) (t := t) hp
      have b := ihq (p + 1) (by omega)
      have c := ih (by omega) (q + 1) p h
      rw [kt_tens (by omega)] at a
      have d : (List.replicate 48 (1000000 : Int)).getD t 0 = 1000000 := getD_tens (by omega)
      have a : tk tensD (t + 1) p = min (min (if p = 0 then csum tensD (t + 1) else tk tensD t (p - 1)) (tk tensD t p + (List.replicate 48 (1000000 : Int)).getD t 0)) (tk tensD (t + 1) (p + 1) + 1000000) := a
      rw [d] at a
      by_cases c0 : p = 0
      · rw [if_pos c0, csum_tens ht] at a
        omega
      · rw [if_neg c0] at a
        have e := ih (by omega) (q + 2) (p - 1) (by omega)
        omega
theorem row_tens {p : Nat} (h : p ≤ 8) : rowI tensD p = List.replicate p 0 ++ List.replicate (48 - p) 1000000 := by
  refine List.ext_getElem? fun i => ?_
  by_cases hi : i < 48
  · rw [row_get (show i < tensD.cs.length from hi), tk_tens (i + 1) (by omega) (8 - p) p (by omega), tk_tens i (by omega) (8 - p) p (by omega)]
    by_cases c : i < p
    · rw [List.getElem?_append_left (by rw [List.length_replicate]; exact c), List.getElem?_replicate, if_pos c, show i + 1 - p = 0 by omega, show i - p = 0 by omega] <;> rfl
    · rw [List.getElem?_append_right (by rw [List.length_replicate]; omega), List.length_replicate, List.getElem?_replicate, if_pos (by omega)]
      congr 1
      omega
  · rw [List.getElem?_eq_none (by rw [row_len]; exact Nat.le_of_not_lt hi), List.getElem?_eq_none (by rw [List.length_append, List.length_replicate, List.length_replicate]; omega)]
/-- lists of lists of numbers -/
theorem rowsD_flat : ∀ (xs : List (List Int)), PyData.canLayAll0 (xs.map din) = true ∧ PyData.depthAll (xs.map din) ≤ 1
  | [] => ⟨rfl, Nat.zero_le _⟩
  | x :: r => by
    obtain ⟨h1, h2⟩ := rowsD_flat r
    obtain ⟨g1, g2⟩ := nums_flat x
    refine ⟨?_, ?_⟩
    · show (PyData.canLayAll0 (x.map PyData.int) && PyData.canLayAll0 (r.map din)) = true
      rw [h1, g1] <;> rfl
    · show max (PyData.depthAll (x.map PyData.int) + 1) (PyData.depthAll (r.map din)) ≤ 1
      rw [g2]
      omega
theorem planX_shaped (xs : List (List Int)) : SeqAt.shaped (planX xs) = true := by
  obtain ⟨h1, h2⟩ := rowsD_flat xs
  show (PyData.canLayAll0 (xs.map din) && decide (PyData.depthAll (xs.map din) + 1 ≤ 64)) = true
  rw [h1, decide_eq_true (by omega)] <;> rfl
theorem cut_last {xs : List V} : cutV xs none (some (-1)) = xs.dropLast := by
  unfold cutV
  rw [HT.sIx_none, List.drop_zero, Nat.sub_zero, List.dropLast_eq_take]
  have e : HT.sIx xs.length xs.length (some (-1)) = xs.length - 1 := by
    show (if (-1 : Int) < 0 then (-1 + (xs.length : Int)).toNat else min (-1 : Int).toNat xs.length) = _
    rw [if_pos (by decide)]
    omega
  rw [e]
theorem PaperAt.cut {H : Hp} {rs : List Addr} {l : List (Str × Nat × Nat)} (h : PaperAt H rs l) : PaperAt H rs.dropLast l.dropLast := by
  refine ⟨by rw [List.length_dropLast, List.length_dropLast, h.1], fun j r e a b => ?_⟩
  rw [List.dropLast_eq_take, List.getElem?_take] at a b
  split at a
  · rename_i c
    rw [if_pos (by have := h.1; omega)] at b
    exact h.2 j r e a b
  · cases a
/-- a first hour as data -/
theorem firstV_dp {D : Dy} {m : Int} {v : V} (h : FirstV D m v) : ∃ e : PyData, SeqAt.shaped e = true ∧ ∀ {K : PySem.W.Frag} {H : Hp}, Dp K H v e := by
  rcases h with ⟨t, _, _, _, rfl⟩ | ⟨_, rfl⟩
  · exact ⟨.int (t : Int), rfl, .int _⟩
  · exact ⟨.none, rfl, .non⟩
end KR
/-! ### days whose own lists are written: what is kept while the lists of M are -/
namespace KR
open PySem PySem.Spec PyProof.Rows L2
structure Fm (M : Addr → Prop) (H H' : Hp) : Prop where
  keep : ∀ b o, ¬ M b → H b = some o → (∀ q, o ≠ .tbl q) → H' b = some o
  tab : ∀ b, ¬ M b → GxR.TabG H b → GxR.TabG H' b
  lists : ∀ b xs, H b = some (.lst xs) → ∃ ys, H' b = some (.lst ys)
def AllL (M : Addr → Prop) (H : Hp) : Prop := ∀ a, M a → ∃ xs, H a = some (.lst xs)
theorem Fm.refl {M : Addr → Prop} {H : Hp} : Fm M H H := ⟨fun _ _ _ h _ => h, fun _ _ h => h, fun _ xs h => ⟨xs, h⟩⟩
theorem Fm.trans {M : Addr → Prop} {H H1 H2 : Hp} (a : Fm M H H1) (b : Fm M H1 H2) : Fm M H H2 :=
  ⟨fun c o e h n => b.keep c o e (a.keep c o e h n) n, fun c e h => b.tab c e (a.tab c e h), fun c xs h => (a.lists c xs h).elim fun ys g => b.lists c ys g⟩
theorem Fm.sm {M : Addr → Prop} {H H1 : Hp} (a : Sm H H1) : Fm M H H1 := ⟨fun c o _ h n => a.keep c o h n, fun c _ h => a.tab c h, fun c xs h => ⟨xs, a.lst h⟩⟩
theorem Fm.of {M : Addr → Prop} {H H1 : Hp} (a : Same H H1) : Fm M H H1 := .sm (.of a)
theorem Fm.fr {M : Addr → Prop} {H H1 : Hp} {p : Addr} {n m : Nat} (hp : M p) (a : Fr p H H1) (b : BoxAt H p n) (b1 : BoxAt H1 p m) : Fm M H H1 :=
  ⟨fun c o e h _ => a c o (fun z => e (z ▸ hp)) h, fun c e ⟨q, h, t⟩ => ⟨q, a c _ (fun z => e (z ▸ hp)) h, t⟩, fun c xs h => by
    by_cases z : c = p
    · obtain ⟨x, y, u, g, _⟩ := b1
      exact ⟨_, by rw [z]; exact g⟩
    · exact ⟨xs, a c _ z h⟩⟩
theorem Fm.put {M : Addr → Prop} {H : Hp} {q : Addr} {xs ys : List V} (hq : M q) (h : H q = some (.lst xs)) : Fm M H (upd H q (.lst ys)) :=
  ⟨fun c o e g _ => by rw [upd_ne (show c ≠ q from fun z => e (by rw [z]; exact hq))]; exact g, fun c e ⟨t, g, u⟩ => ⟨t, by rw [upd_ne (show c ≠ q from fun z => e (by rw [z]; exact hq))]; exact g, u⟩, fun c zs g => by
    by_cases z : c = q
    · exact ⟨ys, by rw [z]; exact upd_same⟩
    · exact ⟨zs, by rw [upd_ne z]; exact g⟩⟩
theorem Fm.mono {M N : Addr → Prop} {H H1 : Hp} (a : Fm M H H1) (h : ∀ c, M c → N c) : Fm N H H1 := ⟨fun c o e => a.keep c o fun z => e (h c z), fun c e => a.tab c fun z => e (h c z), a.lists⟩
theorem AllL.fm {M : Addr → Prop} {H H1 : Hp} (a : AllL M H) (F : Fm M H H1) : AllL M H1 := fun c h => (a c h).elim fun xs g => F.lists c xs g
theorem sqT_fm {K : PySem.W.Frag} {M : Addr → Prop} {H H' : Hp} {a : Addr} {xs : List V} (h : SqT K H a xs) (L : AllL M H) (F : Fm M H H') : SqT K H' a xs := by
  have ne : ∀ {o : HO}, H a = some o → (∀ l, o ≠ .lst l) → ¬ M a := fun {o} e n z => by
    obtain ⟨l, g⟩ := L a z
    rw [e] at g
    exact n _ (Option.some.inj g)
  rcases h with (h | ⟨o, h⟩) | h
  · exact .inl (.inl (F.keep _ _ (ne h nofun) h nofun))
  · exact .inl (.inr ⟨o, F.keep _ _ (ne h nofun) h nofun⟩)
  · exact .inr h
theorem Tbs.fm {Ps : List Addr} {M : Addr → Prop} {H H' : Hp} (h : Tbs Ps H) (L : AllL M H) (F : Fm M H H') : Tbs Ps H' := fun P hP => F.tab P (fun z => by
  obtain ⟨q, e⟩ := tab_at (h P hP)
  obtain ⟨xs, g⟩ := L P z
  rw [e] at g
  cases g) (h P hP)
theorem Tg.fm {K : PySem.W.Frag} {M Av : Addr → Prop} {B : Nat} {H H' : Hp} (hq : ∀ a, M a → Av a) (L : AllL M H) (F : Fm M H H') : ∀ {n : Nat} {v : V} {d : PyData}, Tg K Av H B n v d → Tg K Av H' B n v d := by
  intro n v d h
  induction h with
  | non n => exact .non n
  | bl n b => exact .bl n b
  | int n i h => exact .int n i h
  | str n x w l c => exact .str n x w l c
  | lst h1 h2 h3 _ ih => exact .lst (F.keep _ _ (fun z => h2 (hq _ z)) h1 nofun) h2 h3 ih
  | tup h1 h2 _ ih => exact .tup (sqT_fm h1 L F) h2 ih
theorem Tg.less' {K : PySem.W.Frag} {Av Bv : Addr → Prop} {B : Nat} {H : Hp} (hq : ∀ a, Bv a → Av a) : ∀ {n : Nat} {v : V} {d : PyData}, Tg K Av H B n v d → Tg K Bv H B n v d := by
  intro n v d h
  induction h with
  | non n => exact .non n
  | bl n b => exact .bl n b
  | int n i h => exact .int n i h
  | str n x w l c => exact .str n x w l c
  | lst h1 h2 h3 _ ih => exact .lst h1 (fun z => h2 (hq _ z)) h3 ih
  | tup h1 h2 _ ih => exact .tup h1 h2 ih
/-- what M writes was made behind -/
theorem sm_new_fm {M : Addr → Prop} {H0 H1 H2 : Hp} (s : Sm H0 H1) (n : ∀ a, M a → H0 a = none) (F : Fm M H1 H2) : Sm H0 H2 := by
  have nm : ∀ {b : Addr} {o : HO}, H0 b = some o → ¬ M b := fun {b o} h z => by
    rw [n b z] at h
    cases h
  refine ⟨fun b o h no => F.keep b o (nm h) (s.keep _ _ h no) no, fun b t => ?_⟩
  obtain ⟨q, e⟩ := tab_at t
  exact F.tab b (nm e) (s.tab b t)
structure DyR where
  c : Addr
  k : Addr
  s : Addr
  as : List Addr
  ts : List Addr
def DyR.all (y : DyR) : List Addr := y.c :: y.k :: y.s :: y.ts
def DyR.x (y : DyR) : DyP := ⟨y.c, y.k, y.s, true, true, true, y.as⟩
structure DayM (K : PySem.W.Frag) (H : Hp) (d : Addr) (y : DyR) (D : Dy) : Prop where
  at_ : SqT K H d [.ref y.c, .ref y.k, .ref y.s]
  cs : H y.c = some (.lst (D.cs.map V.int))
  ks : H y.k = some (.lst (y.as.map V.ref))
  ss : H y.s = some (.lst (D.ss.map V.int))
  la : y.as.length = D.ks.length
  lt : y.ts.length = D.ks.length
  pot : ∀ (j : Nat) (a t : Addr) (k : Int × List Int), y.as[j]? = some a → y.ts[j]? = some t → D.ks[j]? = some k → SqT K H a [.int k.1, .ref t] ∧ H t = some (.lst (k.2.map V.int))
  nd : y.all.Nodup
theorem DyR.mc {y : DyR} : y.c ∈ y.all := List.mem_cons_self
theorem DyR.mk_ {y : DyR} : y.k ∈ y.all := List.mem_cons_of_mem _ List.mem_cons_self
theorem DyR.ms {y : DyR} : y.s ∈ y.all := List.mem_cons_of_mem _ (List.mem_cons_of_mem _ List.mem_cons_self)
theorem DyR.mt {y : DyR} {t : Addr} (h : t ∈ y.ts) : t ∈ y.all := List.mem_cons_of_mem _ (List.mem_cons_of_mem _ (List.mem_cons_of_mem _ h))
theorem DayM.day {K : PySem.W.Frag} {H : Hp} {p d : Addr} {y : DyR} {D : Dy} (h : DayM K H d y D) (ne : ∀ a ∈ y.all, a ≠ p) : DayAt K H p d y.x D :=
  ⟨h.at_, ⟨SqL.of h.cs, ne _ DyR.mc⟩, SqL.of h.ks, ne _ DyR.mk_, ⟨SqL.of h.ss, ne _ DyR.ms⟩, h.la, fun j a k e1 e2 => by
    have lj : j < y.ts.length := by rw [h.lt]; exact (List.getElem?_eq_some_iff.mp e2).1
    have e3 : y.ts[j]? = some y.ts[j] := List.getElem?_eq_getElem lj
    obtain ⟨q1, q2⟩ := h.pot j a _ k e1 e3 e2
    exact ⟨_, true, q1, SqL.of q2, ne _ (DyR.mt (List.getElem_mem lj))⟩⟩
theorem DayM.tg {K : PySem.W.Frag} {H : Hp} {Av : Addr → Prop} {d : Addr} {y : DyR} {D : Dy} (h : DayM K H d y D) (N : DyNn D) (ne : ∀ a ∈ y.all, ¬ Av a) : Tg K Av H 1000000 4 (.ref d) (dayE D) := by
  have hk : TgAll K Av H 1000000 2 (y.as.map V.ref) (D.ks.map potE) := by
    refine ⟨by rw [List.length_map, List.length_map, h.la], fun i x e e1 e2 => ?_⟩
    rw [List.getElem?_map] at e1 e2
    obtain ⟨a, ea, rfl⟩ := Option.map_eq_some_iff.mp e1
    obtain ⟨k, ek, rfl⟩ := Option.map_eq_some_iff.mp e2
    have lj : i < y.ts.length := by rw [h.lt]; exact (List.getElem?_eq_some_iff.mp ek).1
    obtain ⟨q1, q2⟩ := h.pot i a _ k ea (List.getElem?_eq_getElem lj) ek
    obtain ⟨o1, o2, o3⟩ := N.ks k (List.mem_of_getElem? ek)
    exact pot_tg o1 o2 o3 q2 (ne _ (DyR.mt (List.getElem_mem lj))) q1
  exact day_tgL N.cs N.ss h.cs (ne _ DyR.mc) h.ks (ne _ DyR.mk_) hk h.ss (ne _ DyR.ms) h.at_
theorem DayM.fm {K : PySem.W.Frag} {M : Addr → Prop} {H H' : Hp} {d : Addr} {y : DyR} {D : Dy} (h : DayM K H d y D) (L : AllL M H) (F : Fm M H H') (ne : ∀ a ∈ y.all, ¬ M a) : DayM K H' d y D :=
  ⟨sqT_fm h.at_ L F, F.keep _ _ (ne _ DyR.mc) h.cs nofun, F.keep _ _ (ne _ DyR.mk_) h.ks nofun, F.keep _ _ (ne _ DyR.ms) h.ss nofun, h.la, h.lt, fun j a t k e1 e2 e3 => by
    obtain ⟨q1, q2⟩ := h.pot j a t k e1 e2 e3
    exact ⟨sqT_fm q1 L F, F.keep _ _ (ne _ (DyR.mt (List.mem_of_getElem? e2))) q2 nofun⟩, h.nd⟩
theorem DayM.sm {K : PySem.W.Frag} {H H' : Hp} {d : Addr} {y : DyR} {D : Dy} (h : DayM K H d y D) (s : Sm H H') : DayM K H' d y D :=
  h.fm (M := fun _ => False) (fun _ z => z.elim) (.sm s) fun _ _ z => z
theorem DayM.fr {K : PySem.W.Frag} {H H' : Hp} {p d : Addr} {n : Nat} {y : DyR} {D : Dy} (h : DayM K H d y D) (B : BoxAt H p n) (F : Fr p H H') (ne : ∀ a ∈ y.all, a ≠ p) : DayM K H' d y D :=
  ⟨sqT_fr h.at_ B F, F _ _ (ne _ DyR.mc) h.cs, F _ _ (ne _ DyR.mk_) h.ks, F _ _ (ne _ DyR.ms) h.ss, h.la, h.lt, fun j a t k e1 e2 e3 => by
    obtain ⟨q1, q2⟩ := h.pot j a t k e1 e2 e3
    exact ⟨sqT_fr q1 B F, F _ _ (ne _ (DyR.mt (List.mem_of_getElem? e2))) q2⟩, h.nd⟩
/-- another list is written -/
theorem DayM.put {K : PySem.W.Frag} {H : Hp} {d q : Addr} {xs ys : List V} {y : DyR} {D : Dy} (h : DayM K H d y D) (hq : H q = some (.lst xs)) (ne : q ∉ y.all) : DayM K (upd H q (.lst ys)) d y D :=
  h.fm (M := fun a => a = q) (fun a z => ⟨xs, by rw [z]; exact hq⟩) (.put rfl hq) fun a ha z => ne (z ▸ ha)
theorem map_set {ns : List Int} {i : Nat} {z : Int} : (ns.map V.int).set i (.int z) = (ns.set i z).map V.int := List.map_set.symm
theorem nd_c {y : DyR} (h : y.all.Nodup) : y.c ≠ y.k ∧ y.c ≠ y.s ∧ y.k ≠ y.s ∧ y.c ∉ y.ts ∧ y.k ∉ y.ts ∧ y.s ∉ y.ts ∧ y.ts.Nodup := by
  obtain ⟨a, h⟩ := List.nodup_cons.mp h
  obtain ⟨b, h⟩ := List.nodup_cons.mp h
  obtain ⟨c, h⟩ := List.nodup_cons.mp h
  exact ⟨fun z => a (z ▸ List.mem_cons_self), fun z => a (z ▸ List.mem_cons_of_mem _ List.mem_cons_self), fun z => b (z ▸ List.mem_cons_self), fun z => a (List.mem_cons_of_mem _ (List.mem_cons_of_mem _ z)), fun z => b (List.mem_cons_of_mem _ z), c, h⟩
theorem ne_mem {l : List Addr} {a b : Addr} (h : a ∈ l) (n : b ∉ l) : a ≠ b := fun z => n (z ▸ h)
theorem DayM.putC {K : PySem.W.Frag} {H : Hp} {d : Addr} {y : DyR} {D : Dy} {i : Nat} {z : Int} (h : DayM K H d y D) : DayM K (upd H y.c (.lst ((D.cs.map V.int).set i (.int z)))) d y ⟨D.cs.set i z, D.ks, D.ss⟩ := by
  obtain ⟨n1, n2, n3, n4, n5, n6, n7⟩ := nd_c h.nd
  refine ⟨sqT_frL h.at_ h.cs fr_upd, by rw [upd_same, map_set], by rw [upd_ne n1.symm]; exact h.ks, by rw [upd_ne n2.symm]; exact h.ss, h.la, h.lt, fun j a t k e1 e2 e3 => ?_, h.nd⟩
  obtain ⟨q1, q2⟩ := h.pot j a t k e1 e2 e3
  exact ⟨sqT_frL q1 h.cs fr_upd, by rw [upd_ne (ne_mem (List.mem_of_getElem? e2) n4)]; exact q2⟩
theorem DayM.putS {K : PySem.W.Frag} {H : Hp} {d : Addr} {y : DyR} {D : Dy} {i : Nat} {z : Int} (h : DayM K H d y D) : DayM K (upd H y.s (.lst ((D.ss.map V.int).set i (.int z)))) d y ⟨D.cs, D.ks, D.ss.set i z⟩ := by
  obtain ⟨n1, n2, n3, n4, n5, n6, n7⟩ := nd_c h.nd
  refine ⟨sqT_frL h.at_ h.ss fr_upd, by rw [upd_ne n2]; exact h.cs, by rw [upd_ne n3]; exact h.ks, by rw [upd_same, map_set], h.la, h.lt, fun j a t k e1 e2 e3 => ?_, h.nd⟩
  obtain ⟨q1, q2⟩ := h.pot j a t k e1 e2 e3
  exact ⟨sqT_frL q1 h.ss fr_upd, by rw [upd_ne (ne_mem (List.mem_of_getElem? e2) n6)]; exact q2⟩
theorem DayM.putT {K : PySem.W.Frag} {H : Hp} {d : Addr} {y : DyR} {D : Dy} {i u : Nat} {t : Addr} {z : Int} {k : Int × List Int} (h : DayM K H d y D) (et : y.ts[u]? = some t) (ek : D.ks[u]? = some k) : DayM K (upd H t (.lst ((k.2.map V.int).set i (.int z)))) d y ⟨D.cs, D.ks.set u (k.1, k.2.set i z), D.ss⟩ := by
  obtain ⟨n1, n2, n3, n4, n5, n6, n7⟩ := nd_c h.nd
  have mt := List.mem_of_getElem? et
  have lu := (List.getElem?_eq_some_iff.mp ek).1
  have ea : y.as[u]? = some (y.as[u]'(by rw [h.la]; exact lu)) := List.getElem?_eq_getElem _
  have ht := (h.pot u _ t k ea et ek).2
  refine ⟨sqT_frL h.at_ ht fr_upd, by rw [upd_ne (ne_mem mt n4).symm]; exact h.cs, by rw [upd_ne (ne_mem mt n5).symm]; exact h.ks, by rw [upd_ne (ne_mem mt n6).symm]; exact h.ss, by rw [List.length_set]; exact h.la, by rw [List.length_set]; exact h.lt, fun j a t' k' e1 e2 e3 => ?_, h.nd⟩
  rw [List.getElem?_set] at e3
  by_cases c : u = j
  · subst c
    rw [if_pos rfl, if_pos lu] at e3
    obtain rfl := Option.some.inj e3
    rw [et] at e2
    obtain rfl := Option.some.inj e2
    exact ⟨sqT_frL (h.pot u a t k e1 et ek).1 ht fr_upd, by rw [upd_same, map_set]⟩
  · rw [if_neg c] at e3
    obtain ⟨q1, q2⟩ := h.pot j a t' k' e1 e2 e3
    have ne : t' ≠ t := fun z => c ((List.getElem?_inj (List.getElem?_eq_some_iff.mp et).1 n7).mp (et.trans (z ▸ e2.symm)))
    exact ⟨sqT_frL q1 ht fr_upd, by rw [upd_ne ne]; exact q2⟩
structure PotsM (K : PySem.W.Frag) (H : Hp) (as ts : List Addr) (ks : List (Int × List Int)) : Prop where
  la : as.length = ks.length
  lt : ts.length = ks.length
  pot : ∀ (j : Nat) (a t : Addr) (k : Int × List Int), as[j]? = some a → ts[j]? = some t → ks[j]? = some k → SqT K H a [.int k.1, .ref t] ∧ H t = some (.lst (k.2.map V.int))
theorem PotsM.nil {K : PySem.W.Frag} {H : Hp} : PotsM K H [] [] [] := ⟨rfl, rfl, fun j a t k e => by simp at e⟩
theorem PotsM.snoc {K : PySem.W.Frag} {H : Hp} {as ts : List Addr} {ks : List (Int × List Int)} {a t : Addr} {k : Int × List Int} (h : PotsM K H as ts ks) (ha : SqT K H a [.int k.1, .ref t]) (ht : H t = some (.lst (k.2.map V.int))) : PotsM K H (as ++ [a]) (ts ++ [t]) (ks ++ [k]) := by
  refine ⟨by rw [List.length_append, List.length_append, h.la] <;> rfl, by rw [List.length_append, List.length_append, h.lt] <;> rfl, fun j a' t' k' e1 e2 e3 => ?_⟩
  by_cases c : j < ks.length
  · rw [List.getElem?_append_left (by rw [h.la]; exact c)] at e1
    rw [List.getElem?_append_left (by rw [h.lt]; exact c)] at e2
    rw [List.getElem?_append_left c] at e3
    exact h.pot j a' t' k' e1 e2 e3
  · have jl : j = ks.length := by
      have := (List.getElem?_eq_some_iff.mp e3).1
      rw [List.length_append, List.length_singleton] at this
      omega
    subst jl
    rw [List.getElem?_append_right (by rw [h.la]; exact Nat.le_refl _), h.la, Nat.sub_self] at e1
    rw [List.getElem?_append_right (by rw [h.lt]; exact Nat.le_refl _), h.lt, Nat.sub_self] at e2
    rw [List.getElem?_append_right (Nat.le_refl _), Nat.sub_self] at e3
    cases e1
    cases e2
    cases e3
    exact ⟨ha, ht⟩
theorem PotsM.map {K : PySem.W.Frag} {H H' : Hp} {as ts : List Addr} {ks : List (Int × List Int)} (h : PotsM K H as ts ks) (m1 : ∀ a xs, SqT K H a xs → SqT K H' a xs) (m2 : ∀ t xs, t ∈ ts → H t = some (.lst xs) → H' t = some (.lst xs)) : PotsM K H' as ts ks :=
  ⟨h.la, h.lt, fun j a t k e1 e2 e3 => ⟨m1 _ _ (h.pot j a t k e1 e2 e3).1, m2 _ _ (List.mem_of_getElem? e2) (h.pot j a t k e1 e2 e3).2⟩⟩
theorem PotsM.same {K : PySem.W.Frag} {H H' : Hp} {as ts : List Addr} {ks : List (Int × List Int)} (h : PotsM K H as ts ks) (s : Same H H') : PotsM K H' as ts ks := h.map (fun _ _ z => Same.tup s z) fun t xs _ z => s _ _ z
theorem PotsM.fr {K : PySem.W.Frag} {H H' : Hp} {as ts : List Addr} {ks : List (Int × List Int)} {p : Addr} {n : Nat} (h : PotsM K H as ts ks) (B : BoxAt H p n) (F : Fr p H H') (ne : ∀ t ∈ ts, t ≠ p) : PotsM K H' as ts ks := h.map (fun _ _ z => sqT_fr z B F) fun t xs m z => F _ _ (ne t m) z
theorem PotsM.put {K : PySem.W.Frag} {H : Hp} {as ts : List Addr} {ks : List (Int × List Int)} {f : Addr} {xs ys : List V} (h : PotsM K H as ts ks) (hf : H f = some (.lst xs)) (ne : ∀ t ∈ ts, t ≠ f) : PotsM K (upd H f (.lst ys)) as ts ks := h.map (fun _ _ z => sqT_frL z hf fr_upd) fun t xs m z => by rw [upd_ne (ne t m)]; exact z
theorem nd_snoc {ts : List Addr} {t : Addr} (h : ts.Nodup) (n : t ∉ ts) : (ts ++ [t]).Nodup := List.nodup_append.mpr ⟨h, by simp, fun u hu v hv => by
  rw [List.mem_singleton.mp hv]
  exact fun z => n (z ▸ hu)⟩
/-! two kettles exchanged; a number otherwise -/
theorem sw_get {α : Type} {l : List α} {i j u : Nat} {x y : α} (hi : l[i]? = some x) (hj : l[j]? = some y) : ((l.set i y).set j x)[u]? = l[if u = j then i else if u = i then j else u]? := by
  have li := (List.getElem?_eq_some_iff.mp hi).1
  have lj := (List.getElem?_eq_some_iff.mp hj).1
  rw [List.getElem?_set, List.getElem?_set, List.length_set]
  by_cases c : u = j
  · subst c
    rw [if_pos rfl, if_pos lj, if_pos rfl, hi]
  · rw [if_neg (fun z => c z.symm), if_neg c]
    by_cases e : u = i
    · subst e
      rw [if_pos rfl, if_pos li, if_pos rfl, hj]
    · rw [if_neg (fun z => e z.symm), if_neg e]
theorem sw_perm {α : Type} {l : List α} {i j : Nat} {x y : α} (hi : l[i]? = some x) (hj : l[j]? = some y) : ((l.set i y).set j x).Perm l := by
  obtain ⟨li, ei⟩ := List.getElem?_eq_some_iff.mp hi
  obtain ⟨lj, ej⟩ := List.getElem?_eq_some_iff.mp hj
  rw [← ei, ← ej]
  exact List.set_set_perm li lj
theorem DayM.swap {K : PySem.W.Frag} {H H' : Hp} {d : Addr} {y : DyR} {D : Dy} {i j : Nat} {ai aj ti tj : Addr} {ki kj : Int × List Int} (h : DayM K H d y D) (a1 : y.as[i]? = some ai) (a2 : y.as[j]? = some aj) (t1 : y.ts[i]? = some ti) (t2 : y.ts[j]? = some tj) (k1 : D.ks[i]? = some ki) (k2 : D.ks[j]? = some kj)
    (F : Fr y.k H H') (hk : H' y.k = some (.lst (((y.as.set i aj).set j ai).map V.ref))) : DayM K H' d ⟨y.c, y.k, y.s, (y.as.set i aj).set j ai, (y.ts.set i tj).set j ti⟩ ⟨D.cs, (D.ks.set i kj).set j ki, D.ss⟩ := by
  obtain ⟨n1, n2, n3, n4, n5, n6, n7⟩ := nd_c h.nd
  refine ⟨sqT_frL h.at_ h.ks F, F _ _ n1 h.cs, hk, F _ _ n3.symm h.ss, by rw [List.length_set, List.length_set, List.length_set, List.length_set]; exact h.la, by rw [List.length_set, List.length_set, List.length_set, List.length_set]; exact h.lt, fun u a t k e1 e2 e3 => ?_, ?_⟩
  · rw [show ((y.as.set i aj).set j ai)[u]? = _ from sw_get a1 a2] at e1
    rw [show ((y.ts.set i tj).set j ti)[u]? = _ from sw_get t1 t2] at e2
    rw [show ((D.ks.set i kj).set j ki)[u]? = _ from sw_get k1 k2] at e3
    obtain ⟨q1, q2⟩ := h.pot _ a t k e1 e2 e3
    exact ⟨sqT_frL q1 h.ks F, F _ _ (ne_mem (List.mem_of_getElem? e2) n5) q2⟩
  · have pm : (y.c :: y.k :: y.s :: ((y.ts.set i tj).set j ti)).Perm y.all := ((sw_perm t1 t2).cons _).cons _ |>.cons _
    exact pm.nodup_iff.mpr h.nd
theorem ldl_set {ns : List Int} {i : Nat} {z : Int} (h : Ldl ns) (z0 : 0 ≤ z) (z1 : z ≤ 1000000) : Ldl (ns.set i z) := fun u hu => by
  rcases List.mem_or_eq_of_mem_set hu with m | e
  · exact h u m
  · rw [e]
    exact ⟨z0, z1⟩
theorem ks_set {ks : List (Int × List Int)} {i : Nat} {k : Int × List Int} {R : Int × List Int → Prop} (h : ∀ k ∈ ks, R k) (hk : R k) : ∀ u ∈ ks.set i k, R u := fun u hu => by
  rcases List.mem_or_eq_of_mem_set hu with m | e
  · exact h u m
  · rw [e]
    exact hk
theorem sw_mem {α : Type} {l : List α} {i j : Nat} {x y z : α} (hi : l[i]? = some x) (hj : l[j]? = some y) (h : z ∈ (l.set i y).set j x) : z ∈ l := (sw_perm hi hj).mem_iff.mp h
theorem all_sub {y : DyR} {as ts : List Addr} (h : ∀ t ∈ ts, t ∈ y.ts) : ∀ a, a ∈ (⟨y.c, y.k, y.s, as, ts⟩ : DyR).all → a ∈ y.all := fun a ha => by
  rcases List.mem_cons.mp ha with e | m
  · rw [e]
    exact DyR.mc
  · rcases List.mem_cons.mp m with e | m
    · rw [e]
      exact DyR.mk_
    · rcases List.mem_cons.mp m with e | m
      · rw [e]
        exact DyR.ms
      · exact DyR.mt (h a m)
theorem planX_wt9 {Xs : List (List Int)} (x9 : Xs.length ≤ 9) (h : ∀ r ∈ Xs, r.length ≤ 48 ∧ ∀ z ∈ r, z.natAbs < 2 ^ 21) : PyData.weight (planX Xs) ≤ 9600 := by
  have one : ∀ {r : List Int}, (∀ z ∈ r, z.natAbs < 2 ^ 21) → PyData.weightAll (r.map PyData.int) ≤ 22 * r.length := fun {r} => by
    induction r with
    | nil => exact fun _ => Nat.zero_le _
    | cons z r ih =>
      intro h
      have a := wt_int (h z List.mem_cons_self)
      have b := ih fun y hy => h y (List.mem_cons_of_mem _ hy)
      rw [List.map_cons, List.length_cons]
      show PyData.weight (.int z) + 1 + PyData.weightAll (r.map PyData.int) ≤ _
      omega
  have all : ∀ {Xs : List (List Int)}, (∀ r ∈ Xs, r.length ≤ 48 ∧ ∀ z ∈ r, z.natAbs < 2 ^ 21) → PyData.weightAll (Xs.map din) ≤ 1057 * Xs.length := fun {Xs} => by
    induction Xs with
    | nil => exact fun _ => Nat.zero_le _
    | cons r Xs ih =>
      intro h
      have a := one (h r List.mem_cons_self).2
      have l := (h r List.mem_cons_self).1
      have b := ih fun y hy => h y (List.mem_cons_of_mem _ hy)
      rw [List.map_cons, List.length_cons]
      show PyData.weightAll (r.map PyData.int) + 1 + PyData.weightAll (Xs.map din) ≤ _
      omega
  have := all h
  show PyData.weightAll (Xs.map din) ≤ _
  omega
theorem rowsI_wt {D : Dy} (O : DyOk D) (N : DyNn D) : PyData.weight (planX (rowsI D)) ≤ 9600 := by
  have k2 := O.k2
  have h2 := O.h2
  have l : (rowsI D).length = D.ks.length + 1 := (rowsI_ok O N).len
  refine planX_wt9 (by omega) fun r hr => ?_
  obtain ⟨q, eq⟩ := List.getElem?_of_mem hr
  have lq : q ≤ D.ks.length := by have := (List.getElem?_eq_some_iff.mp eq).1; omega
  rw [rowsI_at lq] at eq
  obtain rfl := Option.some.inj eq
  refine ⟨by rw [row_len]; exact h2, fun z hz => ?_⟩
  have := row_nn O N lq z hz
  have e : (2 : Nat) ^ 21 = 2097152 := by decide
  omega
theorem tk_last_le {D : Dy} (O : DyOk D) (N : DyNn D) : ∀ m n, n ≤ m → tk D n D.ks.length ≤ tk D m D.ks.length
  | 0, n, h => by
    obtain rfl : n = 0 := by omega
    exact Int.le_refl _
  | m + 1, n, h => by
    by_cases c : n = m + 1
    · rw [c]
      exact Int.le_refl _
    · exact Int.le_trans (tk_last_le O N m n (by omega)) (tk_mono N O.k1 m 0 D.ks.length (by omega))
theorem firstV_over {D : Dy} (O : DyOk D) (N : DyNn D) : FirstV D (mostD D + 1) .non := .inr ⟨fun j hj => by
  have := tk_last_le O N D.cs.length (j + 1) (by omega)
  unfold mostD
  omega, rfl⟩
theorem most_nn {D : Dy} (N : DyNn D) : 0 ≤ mostD D := (tk_nn N D.cs.length 0 D.ks.length (by omega)).1
theorem firstV_one {D : Dy} (O : DyOk D) (N : DyNn D) {v : V} (h : FirstV D 1 v) : (v = .non ∧ mostD D = 0) ∨ ((∃ i, v = .int i) ∧ mostD D ≠ 0) := by
  have nn := most_nn N
  rcases h with ⟨t, lt, _, hi, rfl⟩ | ⟨lo, rfl⟩
  · have := tk_last_le O N D.cs.length (t + 1) (by omega)
    exact .inr ⟨⟨_, rfl⟩, by unfold mostD at *; omega⟩
  · have h1 := O.h1
    have := lo (D.cs.length - 1) (by omega)
    rw [show D.cs.length - 1 + 1 = D.cs.length by omega] at this
    exact .inl ⟨rfl, by unfold mostD at *; omega⟩
/-- one number far too great is no plan -/
theorem far_no {D : Dy} (O : DyOk D) (N : DyNn D) {Xs : List (List Int)} {z : Int} (h0 : PX (rowF Xs) 0 0 = z) (hz : 10000000 ≤ z) (h : IsPlan D (planX Xs)) : False := by
  have k1 := O.k1
  have d := (isPlan_iff (isPlan_ok h)).mp h 0 0 (by omega) (by have := O.h1; omega)
  have a := d.2.1
  rw [h0, if_neg (by omega)] at a
  have b := (ldl_at (N.ks _ (mem_kt (p := 0) (by omega))).2.2 0).2
  omega
theorem bindI_len {D : Dy} (O : DyOk D) : (bindI D).length ≤ 9 := by
  have k2 := O.k2
  unfold bindI bindL
  rw [List.length_map]
  have := List.length_filter_le (fun p => decide (mostD D < mostD (widerD D p))) (List.range (D.ks.length + 1))
  rw [List.length_range] at this
  omega
theorem bindI_ldl {D : Dy} (O : DyOk D) : Ldl (bindI D) := fun z hz => by
  have k2 := O.k2
  unfold bindI bindL at hz
  obtain ⟨p, hp, rfl⟩ := List.mem_map.mp hz
  have := List.mem_range.mp (List.mem_filter.mp hp).1
  omega
/-! lists that are held: none of their lists is one that was there, nor one held ahead -/
structure HeldE where
  pr : Addr
  t : Addr
  e : PyData
def hAv (N : Addr → Prop) (l : List HeldE) (j : Nat) : Addr → Prop := fun b => N b ∨ b ∈ (l.take j).map HeldE.t
structure HeldOne (K : PySem.W.Frag) (Av : Addr → Prop) (H : Hp) (h : HeldE) : Prop where
  pr : SqT K H h.pr [.ref h.t, .str h.e.shown]
  lst : ∃ xs, H h.t = some (.lst xs) ∧ xs.length ≤ 1000
  tg : Tg K Av H 1000000 2 (.ref h.t) h.e
  wt : PyData.weight h.e ≤ 30000
  no : ¬ Av h.t
def HeldAt (K : PySem.W.Frag) (N : Addr → Prop) (H : Hp) (l : List HeldE) (i : Nat) : Prop := ∀ j h, i ≤ j → l[j]? = some h → HeldOne K (hAv N l j) H h
theorem HeldOne.fm {K : PySem.W.Frag} {M Av : Addr → Prop} {H H' : Hp} {h : HeldE} (x : HeldOne K Av H h) (m : ∀ a, M a → Av a) (L : AllL M H) (F : Fm M H H') : HeldOne K Av H' h := by
  obtain ⟨xs, h1, h2⟩ := x.lst
  exact ⟨sqT_fm x.pr L F, ⟨xs, F.keep _ _ (fun z => x.no (m _ z)) h1 nofun, h2⟩, x.tg.fm m L F, x.wt, x.no⟩
theorem HeldAt.fm {K : PySem.W.Frag} {M N : Addr → Prop} {H H' : Hp} {l : List HeldE} {i : Nat} (x : HeldAt K N H l i) (m : ∀ a, M a → N a) (L : AllL M H) (F : Fm M H H') : HeldAt K N H' l i := fun j h hj e => (x j h hj e).fm (fun a z => .inl (m a z)) L F
theorem HeldAt.sm {K : PySem.W.Frag} {N : Addr → Prop} {H H' : Hp} {l : List HeldE} {i : Nat} (x : HeldAt K N H l i) (s : Sm H H') : HeldAt K N H' l i := x.fm (M := fun _ => False) (fun _ z => z.elim) (fun _ z => z.elim) (.sm s)
theorem HeldAt.snoc {K : PySem.W.Frag} {N : Addr → Prop} {H : Hp} {l : List HeldE} {h : HeldE} (x : HeldAt K N H l 0) (n : HeldOne K (fun b => N b ∨ b ∈ l.map HeldE.t) H h) : HeldAt K N H (l ++ [h]) 0 := fun j g hj e => by
  by_cases c : j < l.length
  · rw [List.getElem?_append_left c] at e
    have := x j g hj e
    unfold hAv at this ⊢
    rw [List.take_append_of_le_length (Nat.le_of_lt c)]
    exact this
  · have jl : j = l.length := by
      have := (List.getElem?_eq_some_iff.mp e).1
      rw [List.length_append, List.length_singleton] at this
      omega
    subst jl
    rw [List.getElem?_append_right (Nat.le_refl _), Nat.sub_self] at e
    cases e
    unfold hAv
    rw [List.take_left' rfl]
    exact n
/-- another list, made behind, is written -/
theorem Fm.putN {M : Addr → Prop} {H0 H : Hp} {t : Addr} {xs ys : List V} (F : Fm M H0 H) (ht : H t = some (.lst xs)) (n : ¬ ∃ zs, H0 t = some (.lst zs)) : Fm M H0 (upd H t (.lst ys)) := by
  refine ⟨fun b o nm h no => ?_, fun b nm tb => ?_, fun b zs h => ?_⟩
  · have k := F.keep b o nm h no
    by_cases c : b = t
    · subst c
      rw [ht] at k
      exact absurd ⟨xs, by rw [h]; exact k.symm⟩ n
    · rw [upd_ne c]
      exact k
  · obtain ⟨q, e, u⟩ := F.tab b nm tb
    by_cases c : b = t
    · subst c
      rw [ht] at e
      cases e
    · exact ⟨q, by rw [upd_ne c]; exact e, u⟩
  · by_cases c : b = t
    · rw [c]
      exact ⟨ys, upd_same⟩
    · rw [upd_ne c]
      exact F.lists b zs h
theorem seqL_fm {K : PySem.W.Frag} {M : Addr → Prop} {H H' : Hp} {a : Addr} {xs : List V} (h : SqL K H a xs) (n : ∀ zs, H a = some (.lst zs) → ¬ M a) (L : AllL M H) (F : Fm M H H') : SqL K H' a xs := by
  have ne : ∀ {o : HO}, H a = some o → (∀ l, o ≠ .lst l) → ¬ M a := fun {o} e n z => by
    obtain ⟨l, g⟩ := L a z
    rw [e] at g
    exact n _ (Option.some.inj g)
  rcases h with (h | ⟨o, h⟩) | h
  · exact .inl (.inl (F.keep _ _ (n _ h) h nofun))
  · exact .inl (.inr ⟨o, F.keep _ _ (ne h nofun) h nofun⟩)
  · exact .inr h
/-! two days, a box, what is held: all that a law writes -/
structure Wld (K : PySem.W.Frag) (p dl hl : Addr) (dd : Nat → Addr) (yy : Nat → DyR) (H5 H : Hp) (n : Nat) (l : List HeldE) : Prop where
  box : BoxAt H p n
  day : ∀ z, z < 2 → ∃ y D, DayM K H (dd z) y D ∧ (∀ b ∈ y.all, b ∈ (yy z).all) ∧ DyOk D ∧ DyNn D
  dl : H dl = some (.lst [.ref (dd 0), .ref (dd 1)])
  held : H hl = some (.lst (l.map fun h => V.ref h.pr))
  at_ : HeldAt K (fun b => ∃ zs, H5 b = some (.lst zs)) H l 0
  fm : Fm (fun b => b = p ∨ b = hl ∨ ∃ z, z < 2 ∧ b ∈ (yy z).all) H5 H
structure WldOk (p dl hl : Addr) (yy : Nat → DyR) (H5 : Hp) : Prop where
  all : AllL (fun b => b = p ∨ b = hl ∨ ∃ z, z < 2 ∧ b ∈ (yy z).all) H5
  dj : ∀ z z', z < 2 → z' < 2 → z ≠ z' → ∀ b ∈ (yy z).all, b ∉ (yy z').all
  np : ∀ z, z < 2 → ∀ b ∈ (yy z).all, b ≠ p ∧ b ≠ hl ∧ b ≠ dl
  ph : p ≠ hl ∧ p ≠ dl ∧ hl ≠ dl
theorem Wld.f0 {K : PySem.W.Frag} {p dl hl : Addr} {dd : Nat → Addr} {yy : Nat → DyR} {H5 H H' : Hp} {n : Nat} {l : List HeldE} (W : Wld K p dl hl dd yy H5 H n l) (F : Fm (fun _ => False) H H') : Wld K p dl hl dd yy H5 H' n l := by
  have kl : ∀ {b : Addr} {xs : List V}, H b = some (.lst xs) → H' b = some (.lst xs) := fun h => F.keep _ _ (fun z => z) h nofun
  refine ⟨?_, fun z hz => ?_, kl W.dl, kl W.held, W.at_.fm (fun a z => z.elim) (fun a z => z.elim) F, W.fm.trans (F.mono fun a z => z.elim)⟩
  · obtain ⟨a, b, c, h1, h2⟩ := W.box
    exact ⟨a, b, c, kl h1, h2⟩
  · obtain ⟨y, D, h, r⟩ := W.day z hz
    exact ⟨y, D, h.fm (fun a z => z.elim) F fun _ _ z => z, r⟩
theorem Wld.fr {K : PySem.W.Frag} {p dl hl : Addr} {dd : Nat → Addr} {yy : Nat → DyR} {H5 H H' : Hp} {n m : Nat} {l : List HeldE} (W : Wld K p dl hl dd yy H5 H n l) (O : WldOk p dl hl yy H5) (F : Fr p H H') (B : BoxAt H' p m) : Wld K p dl hl dd yy H5 H' m l := by
  have fm : Fm (fun b => b = p) H H' := .fr rfl F W.box B
  have L : AllL (fun b => b = p) H := fun b z => by
    obtain ⟨a, b', c, h1, _⟩ := W.box
    exact ⟨_, by rw [z]; exact h1⟩
  refine ⟨B, fun z hz => ?_, F _ _ O.ph.2.1.symm W.dl, F _ _ O.ph.1.symm W.held, W.at_.fm (fun a z => ?_) L fm, W.fm.trans (fm.mono fun a z => .inl z)⟩
  · obtain ⟨y, D, h, r⟩ := W.day z hz
    exact ⟨y, D, h.fm L fm fun b hb e => (O.np z hz b (r.1 b hb)).1 e, r⟩
  · rw [z]
    exact O.all p (.inl rfl)
theorem Wld.put {K : PySem.W.Frag} {p dl hl : Addr} {dd : Nat → Addr} {yy : Nat → DyR} {H5 H H' : Hp} {n m z : Nat} {l : List HeldE} {y y' : DyR} {D' : Dy} (W : Wld K p dl hl dd yy H5 H n l) (O : WldOk p dl hl yy H5) (hz : z < 2) (sub : ∀ b ∈ y.all, b ∈ (yy z).all) (sub' : ∀ b, b ∈ y'.all → b ∈ y.all)
    (hD : DayM K H' (dd z) y' D') (o : DyOk D') (nn : DyNn D') (F : Fm (fun b => b = p ∨ b ∈ y.all) H H') (B : BoxAt H' p m) : Wld K p dl hl dd yy H5 H' m l := by
  have LM : AllL (fun b => b = p ∨ b = hl ∨ ∃ z, z < 2 ∧ b ∈ (yy z).all) H := O.all.fm W.fm
  have sb : ∀ b, (b = p ∨ b ∈ y.all) → (b = p ∨ b = hl ∨ ∃ z, z < 2 ∧ b ∈ (yy z).all) := fun b h => h.elim .inl fun h => .inr (.inr ⟨z, hz, sub b h⟩)
  have L : AllL (fun b => b = p ∨ b ∈ y.all) H := fun b h => LM b (sb b h)
  have kl : ∀ {b : Addr} {xs : List V}, b ≠ p → b ∉ (yy z).all → H b = some (.lst xs) → H' b = some (.lst xs) := fun n1 n2 h => F.keep _ _ (fun e => e.elim n1 fun m => n2 (sub _ m)) h nofun
  refine ⟨B, fun z' hz' => ?_, kl O.ph.2.1.symm (fun m => (O.np z hz _ m).2.2 rfl) W.dl, kl O.ph.1.symm (fun m => (O.np z hz _ m).2.1 rfl) W.held, W.at_.fm (fun a h => O.all a (sb a h)) L F, W.fm.trans (F.mono sb)⟩
  by_cases c : z' = z
  · subst c
    exact ⟨y', D', hD, fun b hb => sub b (sub' b hb), o, nn⟩
  · obtain ⟨y2, D2, h, r⟩ := W.day z' hz'
    exact ⟨y2, D2, h.fm L F fun b hb e => by
      rcases e with e | e
      · exact (O.np z' hz' b (r.1 b hb)).1 e
      · exact O.dj z' z hz' hz c b (r.1 b hb) (sub b e), r⟩
theorem Wld.hold {K : PySem.W.Frag} {p dl hl : Addr} {dd : Nat → Addr} {yy : Nat → DyR} {H5 H : Hp} {n : Nat} {l : List HeldE} {h : HeldE} (W : Wld K p dl hl dd yy H5 H n l) (O : WldOk p dl hl yy H5) (x : HeldOne K (fun b => (∃ zs, H5 b = some (.lst zs)) ∨ b ∈ l.map HeldE.t) H h) : Wld K p dl hl dd yy H5 (upd H hl (.lst (l.map (fun h => V.ref h.pr) ++ [.ref h.pr]))) n (l ++ [h]) := by
  have L : AllL (fun b => b = hl) H := fun b z => ⟨l.map fun h => V.ref h.pr, by rw [show b = hl from z]; exact W.held⟩
  have fm : Fm (fun b => b = hl) H (upd H hl (.lst (l.map (fun h => V.ref h.pr) ++ [.ref h.pr]))) := .put rfl W.held
  refine ⟨W.box.upd O.ph.1.symm, fun z hz => ?_, by rw [upd_ne O.ph.2.2.symm]; exact W.dl, by rw [upd_same, List.map_append] <;> rfl, ?_, W.fm.trans (fm.mono fun a z => .inr (.inl z))⟩
  · obtain ⟨y, D, g, r⟩ := W.day z hz
    exact ⟨y, D, g.fm L fm fun b hb e => (O.np z hz b (r.1 b hb)).2.1 e, r⟩
  · exact (W.at_.snoc x).fm (fun a z => by rw [z]; exact O.all hl (.inr (.inl rfl))) L fm
theorem two_days {K : PySem.W.Frag} {H : Hp} {dl d0 d1 : Addr} {y0 y1 : DyR} {D0 D1 : Dy} (h : H dl = some (.lst [.ref d0, .ref d1])) (a : DayM K H d0 y0 D0) (b : DayM K H d1 y1 D1) (O0 : DyOk D0) (O1 : DyOk D1) (N0 : DyNn D0) (N1 : DyNn D1) : Dp K H (.ref dl) (.list [dayE D0, dayE D1]) ∧ Fine 5 20700 (.list [dayE D0, dayE D1]) := by
  have t : Tg K (fun _ => False) H 1000000 5 (.ref dl) (.list [dayE D0, dayE D1]) := (TgAll.cons (a.tg N0 fun _ _ z => z) (.cons (b.tg N1 fun _ _ z => z) .nil)).l h fun z => z
  have w0 := dayE_wt O0 N0
  have w1 := dayE_wt O1 N1
  exact ⟨t.dp, t.show_ (by decide) (by show PyData.weight (dayE D0) + 1 + (PyData.weight (dayE D1) + 1 + 0) ≤ 20700; omega)⟩
theorem DayM.lists {K : PySem.W.Frag} {H : Hp} {d : Addr} {y : DyR} {D : Dy} (h : DayM K H d y D) : ∀ b ∈ y.all, ∃ xs, H b = some (.lst xs) := fun b hb => by
  rcases List.mem_cons.mp hb with e | m
  · rw [e]
    exact ⟨_, h.cs⟩
  · rcases List.mem_cons.mp m with e | m
    · rw [e]
      exact ⟨_, h.ks⟩
    · rcases List.mem_cons.mp m with e | m
      · rw [e]
        exact ⟨_, h.ss⟩
      · obtain ⟨j, ej⟩ := List.getElem?_of_mem m
        have lj := (List.getElem?_eq_some_iff.mp ej).1
        rw [h.lt] at lj
        exact ⟨_, (h.pot j _ b _ (List.getElem?_eq_getElem (by rw [h.la]; exact lj)) ej (List.getElem?_eq_getElem lj)).2⟩
end KR
namespace KR
open PySem PySem.Spec PyProof.Rows L2
def top (i : Nat) : Stmt := PySem.Challenge.pw_kettlerow_k69_days_again_and_shared.main.body.getD i (.Pass ⟨0, 0, 0, 0⟩)
abbrev s_p_places_in : Stmt := top 2
theorem sc_p_places_in : FnScope ["day"] ["day"] (defScope s_p_places_in) := ⟨rfl, rfl, rfl, by decide +kernel, rfl, by decide +kernel, by decide +kernel⟩
abbrev s_p_hours_in : Stmt := top 3
theorem sc_p_hours_in : FnScope ["day"] ["day"] (defScope s_p_hours_in) := ⟨rfl, rfl, rfl, by decide +kernel, rfl, by decide +kernel, by decide +kernel⟩
abbrev s_p_end_of : Stmt := top 4
theorem sc_p_end_of : FnScope ["day"] ["day"] (defScope s_p_end_of) := ⟨rfl, rfl, rfl, by decide +kernel, rfl, by decide +kernel, by decide +kernel⟩
abbrev s_p_bounds_at : Stmt := top 5
theorem sc_p_bounds_at : FnScope ["day", "place", "hour", "comes", "kettles", "strikes", "bounds", "room", "takes"] ["day", "place", "hour"] (defScope s_p_bounds_at) := ⟨rfl, rfl, rfl, by decide +kernel, rfl, by decide +kernel, by decide +kernel⟩
abbrev s_p_reached : Stmt := top 6
theorem sc_p_reached : FnScope ["taken", "bound", "lead", "more"] ["taken", "bound"] (defScope s_p_reached) := ⟨rfl, rfl, rfl, by decide +kernel, rfl, by decide +kernel, by decide +kernel⟩
abbrev s_p_most_plan : Stmt := top 8
theorem sc_p_most_plan : FnScope ["day", "taken", "hours", "hour", "place"] ["day"] (defScope s_p_most_plan) := ⟨rfl, rfl, rfl, by decide +kernel, rfl, by decide +kernel, by decide +kernel⟩
abbrev s_p_first_hour : Stmt := top 9
theorem sc_p_first_hour : FnScope ["day", "many", "taken", "last", "_", "hour"] ["day", "many"] (defScope s_p_first_hour) := ⟨rfl, rfl, rfl, by decide +kernel, rfl, by decide +kernel, by decide +kernel⟩
abbrev s_p_most_struck : Stmt := top 10
theorem sc_p_most_struck : FnScope ["day", "taken", "paper", "lead", "word", "behind"] ["day"] (defScope s_p_most_struck) := ⟨rfl, rfl, rfl, by decide +kernel, rfl, by decide +kernel, by decide +kernel⟩
abbrev s_p_binding_places : Stmt := top 11
theorem sc_p_binding_places : FnScope ["day", "many", "place"] ["day"] (defScope s_p_binding_places) := ⟨rfl, rfl, rfl, by decide +kernel, rfl, by decide +kernel, by decide +kernel⟩
abbrev s_p__most_taken : Stmt := top 12
theorem sc_p__most_taken : FnScope ["day", "taken", "hour", "place", "bounds", "bound"] ["day"] (defScope s_p__most_taken) := ⟨rfl, rfl, rfl, by decide +kernel, rfl, by decide +kernel, by decide +kernel⟩
abbrev s_p__most : Stmt := top 13
theorem sc_p__most : FnScope ["day"] ["day"] (defScope s_p__most) := ⟨rfl, rfl, rfl, by decide +kernel, rfl, by decide +kernel, by decide +kernel⟩
abbrev s_p__tight_bound : Stmt := top 14
theorem sc_p__tight_bound : FnScope ["day", "taken", "lead", "place", "hour", "bounds", "tight", "word"] ["day", "taken", "lead"] (defScope s_p__tight_bound) := ⟨rfl, rfl, rfl, by decide +kernel, rfl, by decide +kernel, by decide +kernel⟩
abbrev s_p__widened : Stmt := top 15
theorem sc_p__widened : FnScope ["day", "place", "comes", "kettles", "strikes", "number", "wider", "room", "takes"] ["day", "place"] (defScope s_p__widened) := ⟨rfl, rfl, rfl, by decide +kernel, rfl, by decide +kernel, by decide +kernel⟩
abbrev s_p_is_number : Stmt := top 17
theorem sc_p_is_number : FnScope ["thing"] ["thing"] (defScope s_p_is_number) := ⟨rfl, rfl, rfl, by decide +kernel, rfl, by decide +kernel, by decide +kernel⟩
abbrev s_p_is_number_within : Stmt := top 18
theorem sc_p_is_number_within : FnScope ["thing", "least", "most"] ["thing", "least", "most"] (defScope s_p_is_number_within) := ⟨rfl, rfl, rfl, by decide +kernel, rfl, by decide +kernel, by decide +kernel⟩
abbrev s_p_shows_most : Stmt := top 20
theorem sc_p_shows_most : FnScope ["day", "many", "thing", "lead", "told", "bound", "bounds", "more"] ["day", "many", "thing"] (defScope s_p_shows_most) := ⟨rfl, rfl, rfl, by decide +kernel, rfl, by decide +kernel, by decide +kernel⟩
abbrev s_p__is_bound_of : Stmt := top 21
theorem sc_p__is_bound_of : FnScope ["thing", "lead", "word", "place", "hour"] ["thing", "lead"] (defScope s_p__is_bound_of) := ⟨rfl, rfl, rfl, by decide +kernel, rfl, by decide +kernel, by decide +kernel⟩
abbrev s_p_is_day : Stmt := top 26
theorem sc_p_is_day : FnScope ["thing", "comes", "kettles", "strikes", "hours", "kettle"] ["thing"] (defScope s_p_is_day) := ⟨rfl, rfl, rfl, by decide +kernel, rfl, by decide +kernel, by decide +kernel⟩
abbrev s_p_shows_plan : Stmt := top 27
theorem sc_p_shows_plan : FnScope ["day", "thing", "numbers", "taken", "place", "hour", "bound"] ["day", "thing"] (defScope s_p_shows_plan) := ⟨rfl, rfl, rfl, by decide +kernel, rfl, by decide +kernel, by decide +kernel⟩
abbrev s_p__taken_by : Stmt := top 28
theorem sc_p__taken_by : FnScope ["plan", "taken", "place", "numbers", "hour", "number"] ["plan"] (defScope s_p__taken_by) := ⟨rfl, rfl, rfl, by decide +kernel, rfl, by decide +kernel, by decide +kernel⟩
abbrev s_p__is_kettle : Stmt := top 29
theorem sc_p__is_kettle : FnScope ["thing", "hours", "room", "takes"] ["thing", "hours"] (defScope s_p__is_kettle) := ⟨rfl, rfl, rfl, by decide +kernel, rfl, by decide +kernel, by decide +kernel⟩
abbrev s_p__are_ladles : Stmt := top 30
theorem sc_p__are_ladles : FnScope ["thing", "hours", "number"] ["thing", "hours"] (defScope s_p__are_ladles) := ⟨rfl, rfl, rfl, by decide +kernel, rfl, by decide +kernel, by decide +kernel⟩
abbrev s_p__is_place_of_plan : Stmt := top 31
theorem sc_p__is_place_of_plan : FnScope ["thing", "hours", "number"] ["thing", "hours"] (defScope s_p__is_place_of_plan) := ⟨rfl, rfl, rfl, by decide +kernel, rfl, by decide +kernel, by decide +kernel⟩
abbrev s_l_cell_at : Stmt := top 33
theorem sc_l_cell_at : FnScope ["_law_script", "_law_k"] ["_law_script", "_law_k"] (defScope s_l_cell_at) := ⟨rfl, rfl, rfl, by decide +kernel, rfl, by decide +kernel, by decide +kernel⟩
abbrev s_l_box : Stmt := top 34
theorem sc_l_box : FnScope ["_law_script", "_law_k", "_law_cell"] ["_law_script", "_law_k"] (defScope s_l_box) := ⟨rfl, rfl, rfl, by decide +kernel, rfl, by decide +kernel, by decide +kernel⟩
abbrev s_l_take : Stmt := top 35
theorem sc_l_take : FnScope ["_law_box_here", "_law_many", "_law_found", "_law_once", "_law_twice"] ["_law_box_here", "_law_many"] (defScope s_l_take) := ⟨rfl, rfl, rfl, by decide +kernel, rfl, by decide +kernel, by decide +kernel⟩
abbrev s_l_ladles : Stmt := top 36
theorem sc_l_ladles : FnScope ["_law_box_here", "_law_hours", "_law_wide", "_law_way", "_law_hour"] ["_law_box_here", "_law_hours", "_law_wide"] (defScope s_l_ladles) := ⟨rfl, rfl, rfl, by decide +kernel, rfl, by decide +kernel, by decide +kernel⟩
abbrev s_l_day : Stmt := top 37
theorem sc_l_day : FnScope ["_law_box_here", "_law_hours", "_law_pots", "_law_wide", "_law_kettles", "_law_place", "_law_room", "_law_takes"] ["_law_box_here", "_law_hours", "_law_pots", "_law_wide"] (defScope s_l_day) := ⟨rfl, rfl, rfl, by decide +kernel, rfl, by decide +kernel, by decide +kernel⟩
abbrev s_l_same : Stmt := top 39
theorem sc_l_same : FnScope ["_law_found", "_law_due", "_law_one", "_law_other", "_law_alike"] ["_law_found", "_law_due"] (defScope s_l_same) := ⟨rfl, rfl, rfl, by decide +kernel, rfl, by decide +kernel, by decide +kernel⟩
abbrev s_l_is_number : Stmt := top 40
theorem sc_l_is_number : FnScope ["_law_thing"] ["_law_thing"] (defScope s_l_is_number) := ⟨rfl, rfl, rfl, by decide +kernel, rfl, by decide +kernel, by decide +kernel⟩
abbrev s_l_greatest : Stmt := top 41
theorem sc_l_greatest : FnScope ["_law_day_here", "_law_comes", "_law_kettles", "_law_strikes", "_law_held", "_law_waiting", "_law_plan", "_law_place", "_law_hour", "_law_many", "_law_before", "_law_taken", "_law_room", "_law_takes"] ["_law_day_here"] (defScope s_l_greatest) := ⟨rfl, rfl, rfl, by decide +kernel, rfl, by decide +kernel, by decide +kernel⟩
abbrev s_l_is_paper : Stmt := top 42
theorem sc_l_is_paper : FnScope ["_law_day_here", "_law_many", "_law_thing", "_law_comes", "_law_kettles", "_law_strikes", "_law_place", "_law_hour", "_law_total", "_law_one", "_law_word"] ["_law_day_here", "_law_many", "_law_thing"] (defScope s_l_is_paper) := ⟨rfl, rfl, rfl, by decide +kernel, rfl, by decide +kernel, by decide +kernel⟩
abbrev s_l_put : Stmt := top 43
theorem sc_l_put : FnScope ["_law_box_here", "_law_day_here", "_law_comes", "_law_kettles", "_law_strikes", "_law_way", "_law_place", "_law_hour", "_law_other", "_law_some"] ["_law_box_here", "_law_day_here"] (defScope s_l_put) := ⟨rfl, rfl, rfl, by decide +kernel, rfl, by decide +kernel, by decide +kernel⟩
abbrev s_l_struck : Stmt := top 44
theorem sc_l_struck : FnScope ["_law_day_here"] ["_law_day_here"] (defScope s_l_struck) := ⟨rfl, rfl, rfl, by decide +kernel, rfl, by decide +kernel, by decide +kernel⟩
abbrev s_l_binding : Stmt := top 45
theorem sc_l_binding : FnScope ["_law_day_here", "_law_comes", "_law_kettles", "_law_strikes", "_law_found", "_law_place", "_law_room", "_law_takes", "_law_more", "_law_one"] ["_law_day_here"] (defScope s_l_binding) := ⟨rfl, rfl, rfl, by decide +kernel, rfl, by decide +kernel, by decide +kernel⟩
abbrev s_l_asked : Stmt := top 46
theorem sc_l_asked : FnScope ["_law_which", "_law_day_here", "_law_plan", "_law_many", "_law_told", "_law_number", "_law_found"] ["_law_which", "_law_day_here"] (defScope s_l_asked) := ⟨rfl, rfl, rfl, by decide +kernel, rfl, by decide +kernel, by decide +kernel⟩
abbrev s_p_law : Stmt := top 47
theorem sc_p_law : FnScope ["_law_script", "_law_k", "_law_box_here", "_law_hours", "_law_pots", "_law_held", "_law_days", "_law_turn", "_law_day_here", "_law_seen", "_law_told", "_law_right", "_law_due"] ["_law_script"] (defScope s_p_law) := ⟨rfl, rfl, rfl, by decide +kernel, rfl, by decide +kernel, by decide +kernel⟩
structure All (K : PySem.W.Frag) (mg : Str → Option Value) where
  f_p_places_in : Addr
  fd_p_places_in : FuncData
  d_p_places_in : Def K mg "places_in" s_p_places_in f_p_places_in fd_p_places_in ["day"]
  f_p_hours_in : Addr
  fd_p_hours_in : FuncData
  d_p_hours_in : Def K mg "hours_in" s_p_hours_in f_p_hours_in fd_p_hours_in ["day"]
  f_p_end_of : Addr
  fd_p_end_of : FuncData
  d_p_end_of : Def K mg "end_of" s_p_end_of f_p_end_of fd_p_end_of ["day"]
  f_p_bounds_at : Addr
  fd_p_bounds_at : FuncData
  d_p_bounds_at : Def K mg "bounds_at" s_p_bounds_at f_p_bounds_at fd_p_bounds_at ["day", "place", "hour"]
  f_p_reached : Addr
  fd_p_reached : FuncData
  d_p_reached : Def K mg "reached" s_p_reached f_p_reached fd_p_reached ["taken", "bound"]
  f_p_most_plan : Addr
  fd_p_most_plan : FuncData
  d_p_most_plan : Def K mg "most_plan" s_p_most_plan f_p_most_plan fd_p_most_plan ["day"]
  f_p_first_hour : Addr
  fd_p_first_hour : FuncData
  d_p_first_hour : Def K mg "first_hour" s_p_first_hour f_p_first_hour fd_p_first_hour ["day", "many"]
  f_p_most_struck : Addr
  fd_p_most_struck : FuncData
  d_p_most_struck : Def K mg "most_struck" s_p_most_struck f_p_most_struck fd_p_most_struck ["day"]
  f_p_binding_places : Addr
  fd_p_binding_places : FuncData
  d_p_binding_places : Def K mg "binding_places" s_p_binding_places f_p_binding_places fd_p_binding_places ["day"]
  f_p__most_taken : Addr
  fd_p__most_taken : FuncData
  d_p__most_taken : Def K mg "_most_taken" s_p__most_taken f_p__most_taken fd_p__most_taken ["day"]
  f_p__most : Addr
  fd_p__most : FuncData
  d_p__most : Def K mg "_most" s_p__most f_p__most fd_p__most ["day"]
  f_p__tight_bound : Addr
  fd_p__tight_bound : FuncData
  d_p__tight_bound : Def K mg "_tight_bound" s_p__tight_bound f_p__tight_bound fd_p__tight_bound ["day", "taken", "lead"]
  f_p__widened : Addr
  fd_p__widened : FuncData
  d_p__widened : Def K mg "_widened" s_p__widened f_p__widened fd_p__widened ["day", "place"]
  f_p_is_number : Addr
  fd_p_is_number : FuncData
  d_p_is_number : Def K mg "is_number" s_p_is_number f_p_is_number fd_p_is_number ["thing"]
  f_p_is_number_within : Addr
  fd_p_is_number_within : FuncData
  d_p_is_number_within : Def K mg "is_number_within" s_p_is_number_within f_p_is_number_within fd_p_is_number_within ["thing", "least", "most"]
  f_p_shows_most : Addr
  fd_p_shows_most : FuncData
  d_p_shows_most : Def K mg "shows_most" s_p_shows_most f_p_shows_most fd_p_shows_most ["day", "many", "thing"]
  f_p__is_bound_of : Addr
  fd_p__is_bound_of : FuncData
  d_p__is_bound_of : Def K mg "_is_bound_of" s_p__is_bound_of f_p__is_bound_of fd_p__is_bound_of ["thing", "lead"]
  f_p_is_day : Addr
  fd_p_is_day : FuncData
  d_p_is_day : Def K mg "is_day" s_p_is_day f_p_is_day fd_p_is_day ["thing"]
  f_p_shows_plan : Addr
  fd_p_shows_plan : FuncData
  d_p_shows_plan : Def K mg "shows_plan" s_p_shows_plan f_p_shows_plan fd_p_shows_plan ["day", "thing"]
  f_p__taken_by : Addr
  fd_p__taken_by : FuncData
  d_p__taken_by : Def K mg "_taken_by" s_p__taken_by f_p__taken_by fd_p__taken_by ["plan"]
  f_p__is_kettle : Addr
  fd_p__is_kettle : FuncData
  d_p__is_kettle : Def K mg "_is_kettle" s_p__is_kettle f_p__is_kettle fd_p__is_kettle ["thing", "hours"]
  f_p__are_ladles : Addr
  fd_p__are_ladles : FuncData
  d_p__are_ladles : Def K mg "_are_ladles" s_p__are_ladles f_p__are_ladles fd_p__are_ladles ["thing", "hours"]
  f_p__is_place_of_plan : Addr
  fd_p__is_place_of_plan : FuncData
  d_p__is_place_of_plan : Def K mg "_is_place_of_plan" s_p__is_place_of_plan f_p__is_place_of_plan fd_p__is_place_of_plan ["thing", "hours"]
  f_l_cell_at : Addr
  fd_l_cell_at : FuncData
  d_l_cell_at : Def K mg "_law_cell_at" s_l_cell_at f_l_cell_at fd_l_cell_at ["_law_script", "_law_k"]
  f_l_box : Addr
  fd_l_box : FuncData
  d_l_box : Def K mg "_law_box" s_l_box f_l_box fd_l_box ["_law_script", "_law_k"]
  f_l_take : Addr
  fd_l_take : FuncData
  d_l_take : Def K mg "_law_take" s_l_take f_l_take fd_l_take ["_law_box_here", "_law_many"]
  f_l_ladles : Addr
  fd_l_ladles : FuncData
  d_l_ladles : Def K mg "_law_ladles" s_l_ladles f_l_ladles fd_l_ladles ["_law_box_here", "_law_hours", "_law_wide"]
  f_l_day : Addr
  fd_l_day : FuncData
  d_l_day : Def K mg "_law_day" s_l_day f_l_day fd_l_day ["_law_box_here", "_law_hours", "_law_pots", "_law_wide"]
  f_l_same : Addr
  fd_l_same : FuncData
  d_l_same : Def K mg "_law_same" s_l_same f_l_same fd_l_same ["_law_found", "_law_due"]
  f_l_is_number : Addr
  fd_l_is_number : FuncData
  d_l_is_number : Def K mg "_law_is_number" s_l_is_number f_l_is_number fd_l_is_number ["_law_thing"]
  f_l_greatest : Addr
  fd_l_greatest : FuncData
  d_l_greatest : Def K mg "_law_greatest" s_l_greatest f_l_greatest fd_l_greatest ["_law_day_here"]
  f_l_is_paper : Addr
  fd_l_is_paper : FuncData
  d_l_is_paper : Def K mg "_law_is_paper" s_l_is_paper f_l_is_paper fd_l_is_paper ["_law_day_here", "_law_many", "_law_thing"]
  f_l_put : Addr
  fd_l_put : FuncData
  d_l_put : Def K mg "_law_put" s_l_put f_l_put fd_l_put ["_law_box_here", "_law_day_here"]
  f_l_struck : Addr
  fd_l_struck : FuncData
  d_l_struck : Def K mg "_law_struck" s_l_struck f_l_struck fd_l_struck ["_law_day_here"]
  f_l_binding : Addr
  fd_l_binding : FuncData
  d_l_binding : Def K mg "_law_binding" s_l_binding f_l_binding fd_l_binding ["_law_day_here"]
  f_l_asked : Addr
  fd_l_asked : FuncData
  d_l_asked : Def K mg "_law_asked" s_l_asked f_l_asked fd_l_asked ["_law_which", "_law_day_here"]
  f_p_law : Addr
  fd_p_law : FuncData
  d_p_law : Def K mg "law" s_p_law f_p_law fd_p_law ["_law_script"]
  b_abs : mg "abs" = none
  b_all : mg "all" = none
  b_bool : mg "bool" = none
  b_enumerate : mg "enumerate" = none
  b_int : mg "int" = none
  b_isinstance : mg "isinstance" = none
  b_len : mg "len" = none
  b_list : mg "list" = none
  b_max : mg "max" = none
  b_min : mg "min" = none
  b_range : mg "range" = none
  b_repr : mg "repr" = none
  b_reversed : mg "reversed" = none
  b_str : mg "str" = none
  b_sum : mg "sum" = none
  b_tuple : mg "tuple" = none
  b_zip : mg "zip" = none
  t_AHEAD_OF_ALL : Tok
  c_AHEAD_OF_ALL : mg "AHEAD_OF_ALL" = some (.int (-1) t_AHEAD_OF_ALL)
  t_MOST_HOURS : Tok
  c_MOST_HOURS : mg "MOST_HOURS" = some (.int 48 t_MOST_HOURS)
  t_MOST_KETTLES : Tok
  c_MOST_KETTLES : mg "MOST_KETTLES" = some (.int 8 t_MOST_KETTLES)
  t_MOST_LADLES : Tok
  c_MOST_LADLES : mg "MOST_LADLES" = some (.int 1000000 t_MOST_LADLES)
  c_p_is_day : Addr
  P_p_is_day : Addr
  k_p_is_day : FunC K "is_day" "is_day" s_p_is_day f_p_is_day fd_p_is_day c_p_is_day
  c_p__are_ladles : Addr
  P_p__are_ladles : Addr
  k_p__are_ladles : FunC K "_are_ladles" "_are_ladles" s_p__are_ladles f_p__are_ladles fd_p__are_ladles c_p__are_ladles
  c_p_shows_plan : Addr
  P_p_shows_plan : Addr
  k_p_shows_plan : FunC K "shows_plan" "shows_plan" s_p_shows_plan f_p_shows_plan fd_p_shows_plan c_p_shows_plan
  c_p__is_place_of_plan : Addr
  P_p__is_place_of_plan : Addr
  k_p__is_place_of_plan : FunC K "_is_place_of_plan" "_is_place_of_plan" s_p__is_place_of_plan f_p__is_place_of_plan fd_p__is_place_of_plan c_p__is_place_of_plan
def All.Ps {K : PySem.W.Frag} {mg : Str → Option Value} (T : All K mg) : List Addr := [T.P_p_is_day, T.P_p__are_ladles, T.P_p_shows_plan, T.P_p__is_place_of_plan]
structure Tabs {K : PySem.W.Frag} {mg : Str → Option Value} (T : All K mg) (base : Heap) : Prop where
  t_p_is_day : GxR.TabB base mg T.c_p_is_day T.P_p_is_day
  t_p__are_ladles : GxR.TabB base mg T.c_p__are_ladles T.P_p__are_ladles
  t_p_shows_plan : GxR.TabB base mg T.c_p_shows_plan T.P_p_shows_plan
  t_p__is_place_of_plan : GxR.TabB base mg T.c_p__is_place_of_plan T.P_p__is_place_of_plan
end KR
namespace KR
open PySem PySem.Spec PyProof.Rows L2
section
variable {P : Program} {w : World} {K : PySem.W.Frag} {mg : Str → Option Value} {base : Heap}
def sp_l_cell_at (K : PySem.W.Frag) : Sp := fun vs H Q _ => ∃ (a : Addr) (ns : List Int) (k : Int), vs = [.ref a, .int k] ∧ SqL K H a (ns.map V.int) ∧ 0 ≤ k ∧ ∀ z : Int, Q (.int z) H
theorem ok_l_cell_at (T : All K mg) : FnOk P w K mg base CX0 1 T.f_l_cell_at T.fd_l_cell_at ["_law_script", "_law_k"] (sp_l_cell_at K) := by
  refine T.d_l_cell_at.fn.ok sc_l_cell_at (fun vs H Q E h => ?_) (fun cdv A outer s H vs Q E hr h => ?_)
  · obtain ⟨a, ns, k, rfl, _⟩ := h
    rfl
  · obtain ⟨a, ns, k, rfl, hS, h0, q⟩ := h
    refine ⟨_, (pss_cons (ps_if (pt_cmpR op_lt (pv 1) (pe_callB (lenQ (K := K) rfl) (by rfl) T.b_len PySem.boot_len (pa_cons (pv 0) pa_nil)) (nomark _)) (pss_one (ps_ret (pe_ix (ixL (K := K) rfl) (pv 0) (pv 1) (fun _ _ => rfl)))) pss_nil)
      (pss_one (ps_ret pe_int))), ?_⟩
    refine ⟨_, rfl, _, rfl, a, _, rfl, .inl hS, _, _, rfl, rfl, _, rfl, ite2 (fun c => ?_) (fun c => ?_)⟩
    · have c1 : k < ((ns.map V.int).length : Int) := of_decide_eq_true c
      rw [List.length_map] at c1
      refine ⟨_, rfl, _, rfl, a, _, k, _, rfl, rfl, hS, at_of (j := k.toNat) (by omega) (by rw [List.getElem?_map, List.getElem?_eq_getElem (show k.toNat < ns.length by omega)]; rfl), ?_⟩
      exact q _
    · exact q _

end
end KR
namespace KR
open PySem PySem.Spec PyProof.Rows L2
section
variable {P : Program} {w : World} {K : PySem.W.Frag} {mg : Str → Option Value} {base : Heap}
def sp_l_box (K : PySem.W.Frag) : Sp := fun vs H Q _ => ∃ (a : Addr) (ns : List Int) (k : Int), vs = [.ref a, .int k] ∧ SqL K H a (ns.map V.int) ∧ 0 ≤ k ∧ k ≤ 63 ∧ ∀ p H', Same H H' → H p = none → BoxAt H' p 0 → Q (.ref p) H'
theorem ok_l_box (T : All K mg) : FnOk P w K mg base CX0 2 T.f_l_box T.fd_l_box ["_law_script", "_law_k"] (sp_l_box K) := by
  refine T.d_l_box.fn.ok sc_l_box (fun vs H Q E h => ?_) (fun cdv A outer s H vs Q E hr h => ?_)
  · obtain ⟨a, ns, k, rfl, _⟩ := h
    rfl
  · obtain ⟨a, ns, k, rfl, hS, h0, h1, q⟩ := h
    refine ⟨_, (pss_cons (ps_set (i := 2) sc_l_box.nd rfl (by first | exact Or.inl rfl | exact Or.inr rfl) (pe_call (ok_l_cell_at T) hr (by rfl) T.d_l_cell_at.mg T.d_l_cell_at.fn.kp T.d_l_cell_at.b .nil pass0 (pa_cons (pv 0) (pa_cons (pv 1) pa_nil))))
      (pss_one (ps_ret (pe_lstI (pa_cons (pe_op op_mulX (pe_callB call_abs (by rfl) T.b_abs (by decide +kernel) (pa_cons (pv 2) pa_nil)) (pe_callTy call_int1 (by rfl) T.b_int (by decide +kernel) (pa_cons (pe_cmpR op_ge (pe_callB call_abs (by rfl) T.b_abs (by decide +kernel) (pa_cons (pv 2) pa_nil)) (pe_op op_pow pe_int pe_int) (nomark _)) pa_nil))) (pa_cons (pe_op op_add (pe_op op_add (pe_op op_mod (pv 2) pe_int) (pe_op op_mulX pe_int (pv 1))) pe_int) (pa_cons pe_int pa_nil))))))), ?_⟩
    refine ⟨_, rfl, _, rfl, a, ns, k, rfl, hS, h0, fun z => ?_⟩
    refine ⟨_, rfl, _, rfl, _, rfl, _, rfl, _, _, rfl, rfl, ⟨by decide, by decide, by decide⟩, _, _, rfl, rfl, .inr ⟨_, rfl, ?_⟩⟩
    refine ⟨_, _, rfl, rfl, mulR bit_lt, ?_⟩
    refine ⟨_, rfl, _, _, rfl, rfl, (by show (0 : Int) < 2305843009213693951; decide), _, rfl, _, _, rfl, rfl, mulL (by decide), _, _, rfl, rfl, _, _, rfl, rfl, rfl, fun p H1 s1 hp h1 => ?_⟩
    refine q p _ s1 hp ⟨_, _, _, h1, ?_, ?_, ?_, by decide, by decide⟩
    · refine Int.mul_nonneg (by split <;> omega) bit_nn
    · omega
    · omega

end
end KR
namespace KR
open PySem PySem.Spec PyProof.Rows L2
section
variable {P : Program} {w : World} {K : PySem.W.Frag} {mg : Str → Option Value} {base : Heap}
def sp_l_take : Sp := fun vs H Q _ => ∃ (p : Addr) (m : Int) (n : Nat), vs = [.ref p, .int m] ∧ BoxAt H p n ∧ n ≤ 1000000000 ∧ 0 < m ∧ m.natAbs < 2 ^ 200 ∧ ∀ (z : Int) (H' : Hp), 0 ≤ z → z < m → BoxAt H' p (n + 1) → Fr p H H' → Q (.int z) H'
theorem ok_l_take (T : All K mg) : FnOk P w K mg base CX0 1 T.f_l_take T.fd_l_take ["_law_box_here", "_law_many"] sp_l_take := by
  refine T.d_l_take.fn.ok sc_l_take (fun vs H Q E h => ?_) (fun cdv A outer s H vs Q E hr h => ?_)
  · obtain ⟨p, m, n, rfl, _⟩ := h
    rfl
  · obtain ⟨p, m, n, rfl, hB, hn, h0, hm, q⟩ := h
    obtain ⟨a, b, c, hp, ha, hb, hb2, hc, hcn⟩ := hB
    refine ⟨_, (pss_cons (ps_if (pt_cmpR op_gt (pe_ix (ixL (K := K) rfl) (pv 0) pe_int (fun _ _ => rfl)) pe_int (nomark _)) (pss_cons (ps_set (i := 2) sc_l_take.nd rfl (by first | exact Or.inl rfl | exact Or.inr rfl) (pe_op op_mod (pe_ix (ixL (K := K) rfl) (pv 0) pe_int (fun _ _ => rfl)) (pv 1)))
      (pss_cons (ps_asg (pe_op op_fdivW (pe_ix (ixL (K := K) rfl) (pv 0) pe_int (fun _ _ => rfl)) (pv 1)) (pg_sub (pv 0) pe_int set_list))
      (pss_one (ps_ret (pv 2))))) pss_nil)
      (pss_cons (ps_asg (pe_op op_add (pe_ix (ixL (K := K) rfl) (pv 0) pe_int (fun _ _ => rfl)) pe_int) (pg_sub (pv 0) pe_int set_list))
      (pss_cons (ps_set (i := 3) sc_l_take.nd rfl (by first | exact Or.inl rfl | exact Or.inr rfl) (pe_op op_mod (pe_op op_mulX (pe_op op_add (pe_ix (ixL (K := K) rfl) (pv 0) pe_int (fun _ _ => rfl)) (pe_op op_mulX pe_int (pe_ix (ixL (K := K) rfl) (pv 0) pe_int (fun _ _ => rfl)))) (pe_op op_add pe_int (pe_ix (ixL (K := K) rfl) (pv 0) pe_int (fun _ _ => rfl)))) pe_int))
      (pss_cons (ps_set (i := 4) sc_l_take.nd rfl (by first | exact Or.inl rfl | exact Or.inr rfl) (pe_op op_mod (pe_op op_mulX (pe_op op_add (pv 3) (pe_ix (ixL (K := K) rfl) (pv 0) pe_int (fun _ _ => rfl))) (pe_op op_add (pe_op op_mod (pv 3) pe_int) pe_int)) pe_int))
      (pss_one (ps_ret (pe_op op_mod (pe_op op_fdivW (pe_op op_mod (pe_op op_add (pe_op op_mulX (pv 4) pe_int) (pv 3)) pe_int) pe_int) (pv 1)))))))), ?_⟩
    refine ⟨_, rfl, p, _, 0, _, rfl, rfl, SqL.of hp, at0, _, _, rfl, rfl, _, rfl, ite2 (fun c1 => ?_) (fun c1 => ?_)⟩
    · refine ⟨_, rfl, p, _, 0, _, rfl, rfl, SqL.of hp, at0, _, rfl, _, _, rfl, rfl, h0, ?_⟩
      refine ⟨_, rfl, p, _, 0, _, rfl, rfl, SqL.of hp, at0, _, rfl, _, _, rfl, rfl, wide_div h0 hm (by decide) (by decide), ?_⟩
      refine ⟨_, rfl, p, _, 0, 0, rfl, rfl, hp, rfl, ?_⟩
      refine ⟨_, rfl, ?_⟩
      refine q _ _ (Int.emod_nonneg _ (by omega)) (Int.emod_lt_of_pos _ h0) ⟨_, _, _, upd_same, ?_, hb, hb2, hc, by omega⟩ (Fr.put Fr.refl)
      exact Int.ediv_nonneg ha (by omega)
    · refine ⟨_, rfl, p, _, 2, _, rfl, rfl, SqL.of hp, at2, _, _, rfl, rfl, _, rfl, p, _, 2, 2, rfl, rfl, hp, rfl, ?_⟩
      have hp2 : (upd H p (.lst [.int a, .int b, .int (c + 1)])) p = some (.lst [.int a, .int b, .int (c + 1)]) := upd_same
      refine ⟨_, rfl, p, _, 1, _, rfl, rfl, SqL.of hp2, at1, _, rfl, p, _, 2, _, rfl, rfl, SqL.of hp2, at2, _, _, rfl, rfl, mulL (by decide), _, _, rfl, rfl, ?_⟩
      refine ⟨_, rfl, p, _, 2, _, rfl, rfl, SqL.of hp2, at2, _, _, rfl, rfl, _, _, rfl, rfl, mulL (by omega), _, _, rfl, rfl, (by show (0 : Int) < 2147483647; decide), ?_⟩
      generalize e1 : (b + 48271 * (c + 1)) * (39373 + (c + 1)) % 2147483647 = o
      have o1 : 0 ≤ o ∧ o < 2147483647 := by omega
      refine ⟨_, rfl, _, rfl, p, _, 2, _, rfl, rfl, SqL.of hp2, at2, _, _, rfl, rfl, _, rfl, _, _, rfl, rfl, (by show (0 : Int) < 40009; decide), _, _, rfl, rfl, _, _, rfl, rfl, mulL (by omega), _, _, rfl, rfl, (by show (0 : Int) < 2147483629; decide), ?_⟩
      generalize e2 : (o + (c + 1)) * (o % 40009 + 7) % 2147483629 = t
      have t1 : 0 ≤ t ∧ t < 2147483629 := by omega
      refine ⟨_, rfl, _, _, rfl, rfl, mulL (by omega), _, rfl, _, _, rfl, rfl, _, _, rfl, rfl, (by show (0 : Int) < 2147483587; decide), _, _, rfl, rfl, wide_div (b := 10) (by decide) (by decide) (by decide) (by decide), _, rfl, _, _, rfl, rfl, h0, ?_⟩
      exact q _ _ (Int.emod_nonneg _ (by omega)) (Int.emod_lt_of_pos _ h0) ⟨_, _, _, upd_same, ha, hb, hb2, by omega, by omega⟩ (Fr.put Fr.refl)

end
end KR
namespace KR
open PySem PySem.Spec PyProof.Rows L2
section
variable {P : Program} {w : World} {K : PySem.W.Frag} {mg : Str → Option Value} {base : Heap}
def sp_l_ladles (K : PySem.W.Frag) : Sp := fun vs H Q _ => ∃ (p : Addr) (n h : Nat) (w : Int), vs = [.ref p, .int (h : Int), .int w] ∧ BoxAt H p n ∧ n ≤ 999990000 ∧ h ≤ 48 ∧ 0 ≤ w ∧ w ≤ 1000000 ∧ ∀ (f : Addr) (ns : List Int) (H' : Hp), H' f = some (.lst (ns.map V.int)) → ns.length = h → Ldl ns → BoxAt H' p (n + 150) → Fr p H H' → f ≠ p → H f = none → Q (.ref f) H'
theorem ok_l_ladles (T : All K mg) : FnOk P w K mg base CX0 2 T.f_l_ladles T.fd_l_ladles ["_law_box_here", "_law_hours", "_law_wide"] (sp_l_ladles K) := by
  refine T.d_l_ladles.fn.ok sc_l_ladles (fun vs H Q E h => ?_) (fun cdv A outer s H vs Q E hr h => ?_)
  · obtain ⟨p, n, h, w, rfl, _⟩ := h
    rfl
  · obtain ⟨p, n, h, w, rfl, hB, hn, h48, w0, w1, q⟩ := h
    refine ⟨_, (pss_cons (ps_set (i := 3) sc_l_ladles.nd rfl (by first | exact Or.inl rfl | exact Or.inr rfl) (pe_call (ok_l_take T) hr (by rfl) T.d_l_take.mg T.d_l_take.fn.kp T.d_l_take.b .nil pass0 (pa_cons (pv 0) (pa_cons pe_int pa_nil))))
      (pss_cons (ps_if (pt_cmpR op_lt (pv 3) pe_int (nomark _)) (pss_one (ps_ret (pe_op op_rep (pe_lstI (pa_cons (pe_ix (ixL (K := K) rfl) (pe_lstI (pa_cons (pv 2) (pa_cons pe_int pa_nil))) (pv 3) (fun _ _ => rfl)) pa_nil)) (pv 1)))) pss_nil)
      (pss_one (ps_ret (pe_lc (own := [("_law_hour", 4)]) (g := gName 4) (tt := tYes) (by rfl) sc_l_ladles.nd (pi_range1 (by rfl) T.b_range (pa_cons (pv 1) pa_nil)) (blkOk_by (own := [("_law_hour", 4)]) (N := ["_law_box_here", "_law_hours", "_law_wide", "_law_way", "_law_hour"]) (sc := defScope s_l_ladles) (by decide +kernel)) (fun _ _ _ _ _ => (pg_name (i := 4) sc_l_ladles.nd rfl (by first | exact Or.inl rfl | exact Or.inr rfl))) (fun _ _ _ _ _ => pts_nil) (fun _ _ _ _ _ => (pe_ix (ixL (K := K) rfl) (pe_lstI (pa_cons (pe_call (ok_l_take T) hr (by rfl) T.d_l_take.mg T.d_l_take.fn.kp T.d_l_take.b .nil pass0 (pa_cons (pv 0) (pa_cons (pe_op op_add (pv 2) pe_int) pa_nil))) (pa_cons pe_int (pa_cons (pv 2) (pa_cons (pe_call (ok_l_take T) hr (by rfl) T.d_l_take.mg T.d_l_take.fn.kp T.d_l_take.b .nil pass0 (pa_cons (pv 0) (pa_cons (pe_op op_add (pv 2) pe_int) pa_nil))) pa_nil))))) (pe_call (ok_l_take T) hr (by rfl) T.d_l_take.mg T.d_l_take.fn.kp T.d_l_take.b .nil pass0 (pa_cons (pv 0) (pa_cons pe_int pa_nil))) (fun _ _ => rfl)))))))), ?_⟩
    refine ⟨_, rfl, p, 6, n, rfl, hB, by omega, by decide, by decide, fun y H1 y0 y1 B1 F1 => ?_⟩
    refine ⟨_, rfl, _, _, rfl, rfl, _, rfl, ?_⟩
    by_cases c : y < 2
    · refine ite_bT (decide_eq_true c) ?_
      refine ⟨_, rfl, rfl, fun l1 H2 s2 n2 h2 => ?_⟩
      obtain ⟨z, ez, z0, z1⟩ : ∃ z : Int, atI ([.int w, .int 0] : List V) y = some (.int z) ∧ 0 ≤ z ∧ z ≤ 1000000 := by
        have cs : y = 0 ∨ y = 1 := by omega
        rcases cs with e | e <;> subst e
        · exact ⟨w, rfl, w0, w1⟩
        · exact ⟨0, rfl, by decide, by decide⟩
      refine ⟨_, rfl, l1, _, y, _, rfl, rfl, SqL.of h2, ez, rfl, fun l2 H3 s3 n3 h3 => ?_⟩
      refine ⟨_, rfl, l2, (h : Int), _, rfl, rfl, h3, by omega, by omega, by show 1 * _ ≤ _; rw [sizeLine_eq]; omega, fun f nf => ?_⟩
      rw [rep_ints h z]
      have B3 := (B1.same s2).same s3
      have F3 : Fr p H H3 := F1.trans (.of (s2.trans s3))
      have fp := B3.new nf
      refine q f (List.replicate h z) _ upd_same List.length_replicate (fun u hu => by rw [List.eq_of_mem_replicate hu]; exact ⟨z0, z1⟩) ((B3.same (same_new nf)).mono (by omega)) (F3.trans (.of (same_new nf))) fp (fr_new' F3 nf fp)
    · refine ite_bF (decide_eq_false c) ?_
      refine ⟨_, rfl, (h : Int), rfl, by omega, by omega, fun D hD => ?_⟩
      have Dp := B1.new hD
      have nD : H D = none := fr_new' F1 hD Dp
      refine lc_range (lo := 0) (n := h) (fun i H' => ∃ ns : List Int, Fr p H1 H' ∧ BoxAt H' p (n + 1 + 3 * i) ∧ H' D = some (.lst (ns.map V.int)) ∧ ns.length = i ∧ Ldl ns)
        ⟨[], .of (same_new hD), (B1.same (same_new hD)).mono (by omega), upd_same, rfl, fun z hz => absurd hz List.not_mem_nil⟩ (fun i H2 hi z => ?_) (fun H2 z => ?_)
      · obtain ⟨ns, F2, B2, hD2, ln, ok⟩ := z
        refine ⟨rfl, yesT ?_⟩
        refine ⟨_, rfl, _, rfl, _, _, rfl, rfl, p, w + 1, _, rfl, B2, by omega, by omega, by omega, fun a H3 a0 a1 B3 F3 => ?_⟩
        refine ⟨_, rfl, _, rfl, _, rfl, _, _, rfl, rfl, p, w + 1, _, rfl, B3, by omega, by omega, by omega, fun b H4 b0 b1 B4 F4 => ⟨rfl, fun l1 H5 s5 n5 h5 => ?_⟩⟩
        have B5 := B4.same s5
        have l1p := B4.new n5
        refine ⟨_, rfl, p, 4, _, rfl, B5, by omega, by decide, by decide, fun y2 H6 y20 y21 B6 F6 => ?_⟩
        obtain ⟨z, ez, z0, z1⟩ : ∃ z : Int, atI ([.int a, .int 0, .int w, .int b] : List V) y2 = some (.int z) ∧ 0 ≤ z ∧ z ≤ 1000000 := by
          have cs : y2 = 0 ∨ y2 = 1 ∨ y2 = 2 ∨ y2 = 3 := by omega
          rcases cs with e | e | e | e <;> subst e
          · exact ⟨a, rfl, a0, by omega⟩
          · exact ⟨0, rfl, by decide, by decide⟩
          · exact ⟨w, rfl, w0, w1⟩
          · exact ⟨b, rfl, b0, by omega⟩
        refine ⟨l1, _, y2, _, rfl, rfl, SqL.of (F6 _ _ l1p h5), ez, ?_⟩
        have F26 : Fr p H2 H6 := F3.trans (F4.trans ((Fr.of s5).trans F6))
        have hD6 := F26 _ _ Dp hD2
        refine ⟨_, hD6, by rw [List.length_map]; exact small' (by omega), ns ++ [z], (F2.trans F26).put' hD, (B6.upd Dp).mono (by omega), by rw [upd_same, List.map_append] <;> rfl, by rw [List.length_append, ln] <;> rfl, fun u hu => ?_⟩
        rcases List.mem_append.mp hu with g | g
        · exact ok u g
        · rw [List.mem_singleton.mp g]
          exact ⟨z0, z1⟩
      · obtain ⟨ns, F2, B2, hD2, ln, ok⟩ := z
        exact q D ns H2 hD2 ln ok (B2.mono (by omega)) (F1.trans F2) Dp nD

end
end KR
namespace KR
open PySem PySem.Spec PyProof.Rows L2
section
variable {P : Program} {w : World} {K : PySem.W.Frag} {mg : Str → Option Value} {base : Heap}
def sp_l_day (K : PySem.W.Frag) : Sp := fun vs H Q _ => ∃ (p : Addr) (n h k : Nat) (w : Int), vs = [.ref p, .int (h : Int), .int (k : Int), .int w] ∧ BoxAt H p n ∧ n ≤ 999980000 ∧ 1 ≤ h ∧ h ≤ 48 ∧ 1 ≤ k ∧ k ≤ 8 ∧ 1 ≤ w ∧ w ≤ 1000000 ∧
  ∀ (d : Addr) (y : DyR) (D : Dy) (H' : Hp), DayM K H' d y D → (∀ a ∈ y.all, H a = none ∧ a ≠ p) → DyOk D → DyNn D → D.cs.length = h → D.ks.length = k → BoxAt H' p (n + 2000) → Fr p H H' → Q (.ref d) H'
theorem ok_l_day (T : All K mg) : FnOk P w K mg base CX0 3 T.f_l_day T.fd_l_day ["_law_box_here", "_law_hours", "_law_pots", "_law_wide"] (sp_l_day K) := by
  refine T.d_l_day.fn.ok sc_l_day (fun vs H Q E h => ?_) (fun cdv A outer s H vs Q E hr h => ?_)
  · obtain ⟨p, n, h, k, w, rfl, _⟩ := h
    rfl
  · obtain ⟨p, n, h, k, w, rfl, hB, hn, h1, h48, k1, k8, w0, w1, q⟩ := h
    refine ⟨_, (pss_cons (ps_set (i := 4) sc_l_day.nd rfl (by first | exact Or.inl rfl | exact Or.inr rfl) (pe_lstI pa_nil))
      (pss_cons (ps_for PassesOwn.never rfl (pi_range1 (by rfl) T.b_range (pa_cons (pv 2) pa_nil)) (pg_name (i := 5) sc_l_day.nd rfl (by first | exact Or.inl rfl | exact Or.inr rfl)) (pss_one (ps_expr (pe_bm PySem.F.plainAttrs_list PySem.F.slot_list_append PySem.F.type_list_append mt_append (pv 4) (pa_cons (pe_tupI (pa_cons (pe_op op_add pe_int (pe_call (ok_l_take T) (hr.mono (by decide)) (by rfl) T.d_l_take.mg T.d_l_take.fn.kp T.d_l_take.b .nil pass0 (pa_cons (pv 0) (pa_cons (pe_ix (ixL (K := K) rfl) (pe_lstI (pa_cons pe_int (pa_cons (pv 3) (pa_cons (pe_op op_mulX pe_int (pv 3)) pa_nil)))) (pe_call (ok_l_take T) (hr.mono (by decide)) (by rfl) T.d_l_take.mg T.d_l_take.fn.kp T.d_l_take.b .nil pass0 (pa_cons (pv 0) (pa_cons pe_int pa_nil))) (fun _ _ => rfl)) pa_nil)))) (pa_cons (pe_call (ok_l_ladles T) hr (by rfl) T.d_l_ladles.mg T.d_l_ladles.fn.kp T.d_l_ladles.b .nil pass0 (pa_cons (pv 0) (pa_cons (pv 1) (pa_cons (pv 3) pa_nil)))) pa_nil))) pa_nil)))))
      (pss_cons (ps_setLc (i := 4) (own := [("_law_room", 6), ("_law_takes", 7)]) (g := gTup K 2 (gCons (gName 6) (gCons (gName 7) gNil))) (tt := tYes) (by rfl) sc_l_day.nd rfl rfl (sw_true rfl rfl rfl (by decide +kernel)) (pi_listK (K := K) rfl (pv 4)) (blkOk_by (own := [("_law_room", 6), ("_law_takes", 7)]) (N := ["_law_box_here", "_law_hours", "_law_pots", "_law_wide", "_law_kettles", "_law_place", "_law_room", "_law_takes"]) (sc := defScope s_l_day) (by decide +kernel)) (fun _ _ _ _ _ => (pg_tupK (K := K) rfl rfl (pgs_cons (pg_name (i := 6) sc_l_day.nd rfl (by first | exact Or.inl rfl | exact Or.inr rfl)) (pgs_cons (pg_name (i := 7) sc_l_day.nd rfl (by first | exact Or.inl rfl | exact Or.inr rfl)) pgs_nil)))) (fun _ _ _ _ _ => pts_nil) (fun _ _ _ _ _ => (pe_tupI (pa_cons (pe_callB (call_min2 rfl) (by rfl) T.b_min (by decide +kernel) (pa_cons (pe_op op_pow pe_int pe_int) (pa_cons (pv 6) pa_nil))) (pa_cons (pv 7) pa_nil)))))
      (pss_one (ps_ret (pe_tupI (pa_cons (pe_call (ok_l_ladles T) hr (by rfl) T.d_l_ladles.mg T.d_l_ladles.fn.kp T.d_l_ladles.b .nil pass0 (pa_cons (pv 0) (pa_cons (pv 1) (pa_cons (pv 3) pa_nil)))) (pa_cons (pv 4) (pa_cons (pe_call (ok_l_ladles T) hr (by rfl) T.d_l_ladles.mg T.d_l_ladles.fn.kp T.d_l_ladles.b .nil pass0 (pa_cons (pv 0) (pa_cons (pv 1) (pa_cons (pv 3) pa_nil)))) pa_nil))))))))), ?_⟩
    refine ⟨rfl, fun f H1 s1 n1 hf1 => ?_⟩
    have fp := hB.new n1
    refine ⟨_, rfl, k, rfl, by omega, by omega, for_range (lo := 0) (n := k) (fun i σ H' => ∃ (as ts : List Addr) (ks : List (Int × List Int)) (v5 : Option V), σ = [some (.ref p), some (.int (h : Int)), some (.int (k : Int)), some (.int w), some (.ref f), v5, none, none] ∧ H' f = some (.lst (as.map V.ref)) ∧ PotsM K H' as ts ks ∧ as.length = i ∧ (∀ t ∈ ts, t ≠ p ∧ t ≠ f ∧ H t = none) ∧ ts.Nodup ∧ (∀ k ∈ ks, 1 ≤ k.1 ∧ k.2.length = h ∧ Ldl k.2) ∧ BoxAt H' p (n + 160 * i) ∧ Fr p H H')
      ⟨[], [], [], none, rfl, hf1, .nil, rfl, fun t ht => absurd ht List.not_mem_nil, List.nodup_nil, fun k hk => absurd hk List.not_mem_nil, hB.same s1, .of s1⟩ ?_ ?_⟩
    · rintro i σ H2 hi ⟨as, ts, ks, v5, rfl, hf, P, la, tsn, tnd, ok, B, F⟩
      refine ⟨_, rfl, .inl ⟨rfl, _, SqL.of hf⟩, ?_⟩
      refine ⟨_, rfl, _, rfl, _, rfl, _, _, rfl, rfl, mulL (by decide), rfl, fun l1 H3 s3 n3 h3 => ?_⟩
      have B3 := B.same s3
      have l1p := B.new n3
      refine ⟨_, rfl, p, 3, _, rfl, B3, by omega, by decide, by decide, fun y H4 y0 y1 B4 F4 => ?_⟩
      obtain ⟨m, em, m0, m1⟩ : ∃ m : Int, atI ([.int 1, .int w, .int (3 * w)] : List V) y = some (.int m) ∧ 1 ≤ m ∧ m ≤ 3000000 := by
        have cs : y = 0 ∨ y = 1 ∨ y = 2 := by omega
        rcases cs with e | e | e <;> subst e
        · exact ⟨1, rfl, by decide, by decide⟩
        · exact ⟨w, rfl, by omega, by omega⟩
        · exact ⟨3 * w, rfl, by omega, by omega⟩
      refine ⟨l1, _, y, _, rfl, rfl, SqL.of (F4 _ _ l1p h3), em, p, m, _, rfl, B4, by omega, by omega, by omega, fun r H5 r0 r1 B5 F5 => ⟨_, _, rfl, rfl, ?_⟩⟩
      have F25 : Fr p H2 H5 := (Fr.of s3).trans (F4.trans F5)
      have hf5 := F25 _ _ fp hf
      refine ⟨_, rfl, _, rfl, _, rfl, p, _, h, w, rfl, B5, by omega, h48, by omega, w1, fun t ns H6 ht ln nn B6 F6 tp nt => ?_⟩
      refine ⟨rfl, fun a H7 s7 n7 h7 => ?_⟩
      have tf : t ≠ f := (ne_of_none hf5 nt).symm
      have F27 : Fr p H2 H7 := (F25.trans F6).trans (.of s7)
      have hf7 := F27 _ _ fp hf
      refine ⟨f, _, _, rfl, rfl, hf7, by rw [List.length_map]; exact small' (by omega), ?_⟩
      have P5 := P.fr B F25 fun t m => (tsn t m).1
      have tn : t ∉ ts := fun m => by
        obtain ⟨q, eq⟩ := List.getElem?_of_mem m
        have lq : q < ts.length := (List.getElem?_eq_some_iff.mp eq).1
        have z := (P5.pot q _ t _ (List.getElem?_eq_getElem (by rw [P.la, ← P.lt]; exact lq)) eq (List.getElem?_eq_getElem (by rw [← P.lt]; exact lq))).2
        rw [nt] at z
        cases z
      refine ⟨as ++ [a], ts ++ [t], ks ++ [(1 + r, ns)], _, rfl, by rw [upd_same, List.map_append] <;> rfl, ?_, by rw [List.length_append, la] <;> rfl, fun u hu => ?_, nd_snoc tnd tn, fun k hk => ?_, ((B6.same s7).upd fp).mono (by omega), (F.trans F27).put' n1⟩
      · refine PotsM.put (PotsM.snoc (P.fr B F27 fun t m => (tsn t m).1) (SqT.of h7) (s7 _ _ ht)) hf7 fun u hu => ?_
        rcases List.mem_append.mp hu with g | g
        · exact (tsn u g).2.1
        · rw [List.mem_singleton.mp g]
          exact tf
      · rcases List.mem_append.mp hu with g | g
        · exact tsn u g
        · rw [List.mem_singleton.mp g]
          exact ⟨tp, tf, fr_new' (F.trans F25) nt tp⟩
      · rcases List.mem_append.mp hk with g | g
        · exact ok k g
        · rw [List.mem_singleton.mp g]
          exact ⟨by show 1 ≤ 1 + r; omega, ln, nn⟩
    · rintro σ H2 ⟨as, ts, ks, v5, rfl, hf, P, la, tsn, tnd, ok, B, F⟩
      refine ⟨_, rfl, f, rfl, ⟨_, SqL.of hf⟩, fun g hg => ?_⟩
      have gp := B.new hg
      refine lc_it (walk_list (K := K) (a := f) (xs := as.map V.ref)) (fun j H' => ∃ (bs : List Addr) (js : List (Int × List Int)), Same H2 H' ∧ H' g = some (.lst (bs.map V.ref)) ∧ PotsM K H' bs (ts.take j) js ∧ bs.length = j ∧ (∀ k ∈ js, 1 ≤ k.1 ∧ k.1 ≤ 1000000 ∧ k.2.length = h ∧ Ldl k.2))
        ⟨[], [], same_new hg, upd_same, by rw [List.take_zero]; exact .nil, rfl, fun k hk => absurd hk List.not_mem_nil⟩ (fun j H' _ ⟨_, _, s, _⟩ => SqL.of (s _ _ hf)) ?_ ?_
      · rintro j v H3 H4 hj ⟨bs, js, s3, hg3, P3, lb, ok3⟩ ⟨rfl, hv⟩
        rw [List.getElem?_map] at hv
        obtain ⟨a, ea, rfl⟩ := Option.map_eq_some_iff.mp hv
        have jl : j < as.length := (List.getElem?_eq_some_iff.mp ea).1
        have et : ts[j]? = some (ts[j]'(by rw [P.lt, ← P.la]; exact jl)) := List.getElem?_eq_getElem _
        have ek : ks[j]? = some (ks[j]'(by rw [← P.la]; exact jl)) := List.getElem?_eq_getElem _
        generalize ts[j]'(by rw [P.lt, ← P.la]; exact jl) = t at et
        generalize ks[j]'(by rw [← P.la]; exact jl) = kk' at ek
        obtain ⟨h1', h2'⟩ := P.pot j a t kk' ea et ek
        have mt := List.mem_of_getElem? et
        have h3' := (tsn t mt).1
        obtain ⟨o1, o2, o3⟩ := ok _ (List.mem_of_getElem? ek)
        rw [List.length_map] at hj
        refine ⟨a, _, rfl, Same.tup s3 h1', rfl, _, _, rfl, _, _, rfl, rfl, rfl, yesT ?_⟩
        refine ⟨_, _, rfl, rfl, ⟨by decide, by decide, by decide⟩, _, rfl, _, _, rfl, _, rfl, rfl, fun u H5 s5 n5 h5 => ?_⟩
        have hg5 := s5 _ _ hg3
        have tg : t ≠ g := ne_of_none h2' hg
        obtain ⟨rr, er, r1', r2'⟩ : ∃ rr : Int, (if kk'.1 < (10 : Int) ^ (6 : Int).toNat then kk'.1 else (10 : Int) ^ (6 : Int).toNat) = rr ∧ 1 ≤ rr ∧ rr ≤ 1000000 := by
          refine ⟨_, rfl, ?_, ?_⟩
          · split
            · exact o1
            · decide
          · split
            · have e6 : (10 : Int) ^ (6 : Int).toNat = 1000000 := by decide
              omega
            · decide
        have h5 : H5 u = some (.tup [.int (if kk'.1 < (10 : Int) ^ (6 : Int).toNat then kk'.1 else (10 : Int) ^ (6 : Int).toNat), .ref t]) := h5
        rw [er] at h5
        refine ⟨_, hg5, by rw [List.length_map]; exact small' (by omega), bs ++ [u], js ++ [(rr, kk'.2)], Same.put (s3.trans s5) hg, by rw [upd_same, List.map_append] <;> rfl, ?_, by rw [List.length_append, lb] <;> rfl, fun k hk => ?_⟩
        · rw [take_one et]
          refine PotsM.put (PotsM.snoc (k := (rr, kk'.2)) (P3.same s5) (SqT.of h5) ((s3.trans s5) _ _ h2')) hg5 fun u' hu => ?_
          rcases List.mem_append.mp hu with g' | g'
          · obtain ⟨q, eq⟩ := List.getElem?_of_mem (List.mem_of_mem_take g')
            have lq : q < ts.length := (List.getElem?_eq_some_iff.mp eq).1
            exact ne_of_none (P.pot q _ u' _ (List.getElem?_eq_getElem (by rw [P.la, ← P.lt]; exact lq)) eq (List.getElem?_eq_getElem (by rw [← P.lt]; exact lq))).2 hg
          · rw [List.mem_singleton.mp g']
            exact tg
        · rcases List.mem_append.mp hk with g' | g'
          · exact ok3 k g'
          · rw [List.mem_singleton.mp g']
            exact ⟨r1', r2', o2, o3⟩
      · rintro H3 ⟨bs, js, s3, hg3, P3, lb, ok3⟩
        rw [List.length_map, la] at lb
        rw [List.length_map, List.take_of_length_le (by rw [P.lt, ← P.la]; exact Nat.le_refl _)] at P3
        have B3 := B.same s3
        have F3 : Fr p H H3 := F.trans (.of s3)
        refine ⟨_, rfl, _, rfl, _, rfl, p, _, h, w, rfl, B3, by omega, h48, by omega, w1, fun t1 ns1 H4 ht1 ln1 nn1 B4 F4 t1p nt1 => ?_⟩
        refine ⟨_, rfl, _, rfl, _, rfl, _, rfl, p, _, h, w, rfl, B4, by omega, h48, by omega, w1, fun t2 ns2 H5 ht2 ln2 nn2 B5 F5 t2p nt2 => ⟨rfl, fun d H6 s6 n6 h6 => ?_⟩⟩
        have F36 : Fr p H3 H6 := (F4.trans F5).trans (.of s6)
        have jl : js.length = k := by rw [← P3.la, lb]
        have f0 : H g = none := fr_new' F hg gp
        have P6 := P3.fr B3 F36 fun t m => (tsn t m).1
        have t1n : H t1 = none := fr_new' F3 nt1 t1p
        have t2n : H t2 = none := fr_new' (F3.trans F4) nt2 t2p
        have inH3 : ∀ t ∈ ts, ∃ xs, H3 t = some (.lst xs) := fun t m => by
          obtain ⟨q, eq⟩ := List.getElem?_of_mem m
          have lq : q < ts.length := (List.getElem?_eq_some_iff.mp eq).1
          exact ⟨_, (P3.pot q _ t _ (List.getElem?_eq_getElem (by rw [P3.la, ← P3.lt]; exact lq)) eq (List.getElem?_eq_getElem (by rw [← P3.lt]; exact lq))).2⟩
        have gts : g ∉ ts := fun m => by
          obtain ⟨q, eq⟩ := List.getElem?_of_mem m
          have lq : q < ts.length := (List.getElem?_eq_some_iff.mp eq).1
          have z := (P.pot q _ g _ (List.getElem?_eq_getElem (by rw [P.la, ← P.lt]; exact lq)) eq (List.getElem?_eq_getElem (by rw [← P.lt]; exact lq))).2
          rw [hg] at z
          cases z
        have t1ts : t1 ∉ ts := fun m => by
          obtain ⟨xs, z⟩ := inH3 _ m
          rw [nt1] at z
          cases z
        have t2ts : t2 ∉ ts := fun m => by
          obtain ⟨xs, z⟩ := inH3 _ m
          have z := F4 _ _ t2p z
          rw [nt2] at z
          cases z
        have g1 : t1 ≠ g := (ne_of_none hg3 nt1).symm
        have g2 : t2 ≠ g := (ne_of_none (F4 _ _ gp hg3) nt2).symm
        have t12 : t1 ≠ t2 := ne_of_none ht1 nt2
        refine q d ⟨t1, g, t2, bs, ts⟩ ⟨ns1, js, ns2⟩ H6 ⟨SqT.of h6, s6 _ _ (F5 _ _ t1p ht1), F36 _ _ gp hg3, s6 _ _ ht2, P6.la, P6.lt, P6.pot, ?_⟩ (fun a ha => ?_) ⟨by show 1 ≤ ns1.length; omega, by show ns1.length ≤ 48; omega, by show 1 ≤ js.length; omega, by show js.length ≤ 8; omega, fun k hk => (ok3 k hk).2.2.1.trans ln1.symm, ln2.trans ln1.symm⟩ ⟨nn1, fun k hk => ⟨(ok3 k hk).1, (ok3 k hk).2.1, (ok3 k hk).2.2.2⟩, nn2⟩ ln1 jl ((B5.same s6).mono (by omega)) (F3.trans F36)
        · refine List.nodup_cons.mpr ⟨fun m => ?_, List.nodup_cons.mpr ⟨fun m => ?_, List.nodup_cons.mpr ⟨t2ts, tnd⟩⟩⟩
          · rcases List.mem_cons.mp m with e | m
            · exact g1 e
            · rcases List.mem_cons.mp m with e | m
              · exact t12 e
              · exact t1ts m
          · rcases List.mem_cons.mp m with e | m
            · exact g2 e.symm
            · exact gts m
        · rcases List.mem_cons.mp ha with e | m
          · rw [e]
            exact ⟨t1n, t1p⟩
          · rcases List.mem_cons.mp m with e | m
            · rw [e]
              exact ⟨f0, gp⟩
            · rcases List.mem_cons.mp m with e | m
              · rw [e]
                exact ⟨t2n, t2p⟩
              · exact ⟨(tsn a m).2.2, (tsn a m).1⟩

end
end KR
namespace KR
open PySem PySem.Spec PyProof.Rows L2
section
variable {P : Program} {w : World} {K : PySem.W.Frag} {mg : Str → Option Value} {base : Heap}
def sp_l_same (K : PySem.W.Frag) (n : Nat) : Sp := fun vs H Q _ => ∃ (v w : V) (d : PyData), vs = [v, w] ∧ Dk K H n v d ∧ Dk K H n w d ∧ ∀ H', Same H H' → Q (.bl true) H'
/-- how two alike things look: no list and no tuple, or two lists, or two tuples -/
inductive Look2 (K : PySem.W.Frag) (H : Hp) (n : Nat) (v w : V) (d : PyData) : Prop
  | leaf (t : String) (bb bi bs : Bool) (e : v = w) (ty : ∀ H2, TyX K H2 w (.type t)) (kl : kitB t "list" = some false) (kt : kitB t "tuple" = some false) (kb : kitB t "bool" = some bb) (ks : kitB t "str" = some bs) (kn : w = .non ∨ (w ≠ .non ∧ (bs = true ∨ (bs = false ∧ bb = true))) ∨ (w ≠ .non ∧ bs = false ∧ bb = false ∧ bi = true)) (ki : kitB t "int" = some bi) (dp : ∀ H2, Dp K H2 w d) (sh : SeqAt.shaped d = true)
  | both (t : String) (bl bt : Bool) (a b : Addr) (xs ys : List V) (ds : List PyData) (e1 : v = .ref a) (e2 : w = .ref b) (ty1 : TyX K H v (.type t)) (ty2 : TyX K H w (.type t)) (kl : kitB t "list" = some bl) (kt : kitB t "tuple" = some bt) (kk : bl = false → bt = true)
    (lx : xs.length = ds.length) (ly : ys.length = ds.length) (l9 : xs.length ≤ 100000) (dx : ∀ (i : Nat) (x : V) (d : PyData), xs[i]? = some x → ds[i]? = some d → Dk K H n x d) (dy : ∀ (i : Nat) (x : V) (d : PyData), ys[i]? = some x → ds[i]? = some d → Dk K H n x d)
    (h : (H a = some (.lst xs) ∧ H b = some (.lst ys)) ∨ (SqT K H a xs ∧ SqT K H b ys))
theorem look2 {K : PySem.W.Frag} {H : Hp} {n : Nat} {v w : V} {d : PyData} (h1 : Dk K H (n + 1) v d) (h2 : Dk K H (n + 1) w d) : Look2 K H n v w d := by
  cases h1 with
  | non => cases h2; exact .leaf "NoneType" false false false rfl (fun _ => .base .non) (by decide +kernel) (by decide +kernel) (by decide +kernel) (by decide +kernel) (.inl rfl) (by decide +kernel) (fun _ => .non) rfl
  | bl _ b => cases h2; exact .leaf "bool" true true false rfl (fun _ => .base (.bl b)) (by decide +kernel) (by decide +kernel) (by decide +kernel) (by decide +kernel) (.inr (.inl ⟨nofun, .inr ⟨rfl, rfl⟩⟩)) (by decide +kernel) (fun _ => .bl b) rfl
  | int _ i => cases h2; exact .leaf "int" false true false rfl (fun _ => .base (.int i)) (by decide +kernel) (by decide +kernel) (by decide +kernel) (by decide +kernel) (.inr (.inr ⟨nofun, rfl, rfl, rfl⟩)) (by decide +kernel) (fun _ => .int i) rfl
  | str _ x ok => cases h2; exact .leaf "str" false false true rfl (fun _ => .base (.str x)) (by decide +kernel) (by decide +kernel) (by decide +kernel) (by decide +kernel) (.inr (.inl ⟨nofun, .inl rfl⟩)) (by decide +kernel) (fun _ => .str x) (by show (PyData.canLay0 (.str x) && decide (PyData.depth (.str x) ≤ 64)) = true; rw [ok]; rfl)
  | lst a1 a2 a3 a4 =>
    cases h2 with
    | lst b1 b2 b3 b4 => exact .both "list" true false _ _ _ _ _ rfl rfl (.base (.lst a1)) (.base (.lst b1)) (by decide +kernel) (by decide +kernel) (fun z => nomatch z) a2 b2 a3 a4 b4 (.inl ⟨a1, b1⟩)
  | tup a1 a2 a3 a4 =>
    cases h2 with
    | tup b1 b2 b3 b4 => exact .both "tuple" false true _ _ _ _ _ rfl rfl (sqT_ty a1) (sqT_ty b1) (by decide +kernel) (by decide +kernel) (fun _ => rfl) a2 b2 a3 a4 b4 (.inr ⟨a1, b1⟩)
theorem none_l_same {f : Addr} {fd : FuncData} : FnOk P w K mg base CX0 0 f fd ["_law_found", "_law_due"] (sp_l_same K 0) := by
  have no : ∀ vs H Q E, ¬ sp_l_same K 0 vs H Q E := fun vs H Q E h => by
    obtain ⟨v, w, d, _, h1, _⟩ := h
    cases h1
  exact ⟨fun vs H Q E h => absurd h (no vs H Q E), fun A outer s H args us vs Q E _ _ _ _ h => absurd h (no vs H Q E)⟩
theorem step_l_same (T : All K mg) {n : Nat} (ih : FnOk P w K mg base CX0 n T.f_l_same T.fd_l_same ["_law_found", "_law_due"] (sp_l_same K n)) : FnOk P w K mg base CX0 (n + 1) T.f_l_same T.fd_l_same ["_law_found", "_law_due"] (sp_l_same K (n + 1)) := by
  refine T.d_l_same.fn.ok sc_l_same (fun vs H Q E h => ?_) (fun cdv A outer s H vs Q E hr h => ?_)
  · obtain ⟨v, w, d, rfl, _⟩ := h
    rfl
  · obtain ⟨v, w, d, rfl, h1, h2, q⟩ := h
    refine ⟨_, (pss_cons (ps_if (pt_val (pe_callB (isiTK (K := K) rfl) (by rfl) T.b_isinstance (by decide +kernel) (pa_cons (pv 1) (pa_cons (pe_tupI (pa_cons (pe_bltn (v := .ty "list") (by rfl) T.b_list (by decide +kernel) rfl) (pa_cons (pe_bltn (v := .ty "tuple") (by rfl) T.b_tuple (by decide +kernel) rfl) pa_nil))) pa_nil)))) (pss_cons (ps_if (PW.pt (pw_or (pt_cmpR op_ne (pe_callB (isiK (K := K) rfl) (by rfl) T.b_isinstance (by decide +kernel) (pa_cons (pv 0) (pa_cons (pe_bltn (v := .ty "list") (by rfl) T.b_list (by decide +kernel) rfl) pa_nil))) (pe_callB (isiK (K := K) rfl) (by rfl) T.b_isinstance (by decide +kernel) (pa_cons (pv 1) (pa_cons (pe_bltn (v := .ty "list") (by rfl) T.b_list (by decide +kernel) rfl) pa_nil))) (nomark _)) (pw_or1 (pt_cmpR op_ne (pe_callB (isiK (K := K) rfl) (by rfl) T.b_isinstance (by decide +kernel) (pa_cons (pv 0) (pa_cons (pe_bltn (v := .ty "tuple") (by rfl) T.b_tuple (by decide +kernel) rfl) pa_nil))) (pe_callB (isiK (K := K) rfl) (by rfl) T.b_isinstance (by decide +kernel) (pa_cons (pv 1) (pa_cons (pe_bltn (v := .ty "tuple") (by rfl) T.b_tuple (by decide +kernel) rfl) pa_nil))) (nomark _))))) (pss_one (ps_ret pe_bl)) pss_nil)
      (pss_one (ps_ret (pe_and (pe_cmpR op_eq (pe_callB (lenA (K := K) rfl) (by rfl) T.b_len PySem.boot_len (pa_cons (pv 0) pa_nil)) (pe_callB (lenA (K := K) rfl) (by rfl) T.b_len PySem.boot_len (pa_cons (pv 1) pa_nil)) (nomark _)) (pe_one (pe_callB (allK (K := K) rfl rfl) (by rfl) T.b_all (by decide +kernel) (pa_cons (pe_lc (own := [("_law_one", 2), ("_law_other", 3)]) (g := gTup K 2 (gCons (gName 2) (gCons (gName 3) gNil))) (tt := tYes) (by rfl) sc_l_same.nd (pi_zipK (K := K) rfl (by rfl) T.b_zip (pa_cons (pv 0) (pa_cons (pv 1) pa_nil))) (blkOk_by (own := [("_law_one", 2), ("_law_other", 3)]) (N := ["_law_found", "_law_due", "_law_one", "_law_other", "_law_alike"]) (sc := defScope s_l_same) (by decide +kernel)) (fun _ _ _ _ _ => (pg_tupK (K := K) rfl rfl (pgs_cons (pg_name (i := 2) sc_l_same.nd rfl (by first | exact Or.inl rfl | exact Or.inr rfl)) (pgs_cons (pg_name (i := 3) sc_l_same.nd rfl (by first | exact Or.inl rfl | exact Or.inr rfl)) pgs_nil)))) (fun _ _ _ _ _ => pts_nil) (fun _ _ _ _ _ => (pe_call ih hr (by rfl) T.d_l_same.mg T.d_l_same.fn.kp T.d_l_same.b .nil pass0 (pa_cons (pv 2) (pa_cons (pv 3) pa_nil))))) pa_nil))))))) pss_nil)
      (pss_cons (ps_if (PW.pt (pw_or (pt_cmpR op_isN (pv 1) pe_non (nomark _)) (pw_or1 (pt_val (pe_callB (isiTK (K := K) rfl) (by rfl) T.b_isinstance (by decide +kernel) (pa_cons (pv 1) (pa_cons (pe_tupI (pa_cons (pe_bltn (v := .ty "str") (by rfl) T.b_str (by decide +kernel) rfl) (pa_cons (pe_bltn (v := .ty "bool") (by rfl) T.b_bool (by decide +kernel) rfl) pa_nil))) pa_nil))))))) (pss_cons (ps_set (i := 4) sc_l_same.nd rfl (by first | exact Or.inl rfl | exact Or.inr rfl) (pe_and (pe_cmpR op_eq (pe_callB (isiK (K := K) rfl) (by rfl) T.b_isinstance (by decide +kernel) (pa_cons (pv 0) (pa_cons (pe_bltn (v := .ty "bool") (by rfl) T.b_bool (by decide +kernel) rfl) pa_nil))) (pe_callB (isiK (K := K) rfl) (by rfl) T.b_isinstance (by decide +kernel) (pa_cons (pv 1) (pa_cons (pe_bltn (v := .ty "bool") (by rfl) T.b_bool (by decide +kernel) rfl) pa_nil))) (nomark _)) (pe_one (pe_cmpR op_eq (pe_callB (isiK (K := K) rfl) (by rfl) T.b_isinstance (by decide +kernel) (pa_cons (pv 0) (pa_cons (pe_bltn (v := .ty "int") (by rfl) T.b_int (by decide +kernel) rfl) pa_nil))) (pe_callB (isiK (K := K) rfl) (by rfl) T.b_isinstance (by decide +kernel) (pa_cons (pv 1) (pa_cons (pe_bltn (v := .ty "int") (by rfl) T.b_int (by decide +kernel) rfl) pa_nil))) (nomark _)))))
      (pss_one (ps_ret (pe_and (pv 4) (pe_one (pe_cmpR (eqDK (K := K) rfl hr.units) (pv 0) (pv 1) (nomark _))))))) pss_nil)
      (pss_one (ps_ret (pe_and (pe_callB (isiK (K := K) rfl) (by rfl) T.b_isinstance (by decide +kernel) (pa_cons (pv 0) (pa_cons (pe_bltn (v := .ty "int") (by rfl) T.b_int (by decide +kernel) rfl) pa_nil))) (pe_and (pe_not (pe_callB (isiK (K := K) rfl) (by rfl) T.b_isinstance (by decide +kernel) (pa_cons (pv 0) (pa_cons (pe_bltn (v := .ty "bool") (by rfl) T.b_bool (by decide +kernel) rfl) pa_nil)))) (pe_one (pe_cmpR (eqDK (K := K) rfl hr.units) (pv 0) (pv 1) (nomark _))))))))), ?_⟩
    refine ⟨_, rfl, rfl, fun tp H1 s1 htp htp2 => ?_⟩
    have lk : Look2 K H1 n v w d := look2 (h1.same s1) (h2.same s1)
    cases lk with
    | leaf t bb bi bs e ty kl kt kb ks kn ki dp sh =>
      subst e
      refine ⟨_, tp, _, _, [.type "list", .type "tuple"], false, rfl, htp2, .cons (.ty _) (.cons (.ty _) .nil), ty H1, kitAny_cons (kit_ty kl) (fun _ => kitAny_cons (kit_ty kt) (fun _ => rfl) (fun z => nomatch z)) (fun z => nomatch z), false, rfl, iteF ?_⟩
      have ty1 := ty H1
      have dp1 := dp H1
      rcases kn with e | ⟨n1, k⟩ | ⟨n1, k1, k2, k3⟩
      · subst e
        refine ⟨_, rfl, rfl, _, rfl, ?_⟩
        rw [decide_eq_true rfl]
        refine iteT (iteT ?_)
        refine ⟨_, rfl, _, _, _, _, _, rfl, .ty _, ty1, kit_ty kb, _, rfl, _, _, _, _, _, rfl, .ty _, ty1, kit_ty kb, rfl, _, rfl, ?_⟩
        rw [decide_eq_true rfl]
        refine iteT ?_
        refine ⟨_, rfl, _, _, _, _, _, rfl, .ty _, ty1, kit_ty ki, _, rfl, _, _, _, _, _, rfl, .ty _, ty1, kit_ty ki, rfl, ?_⟩
        rw [decide_eq_true rfl]
        refine ⟨_, rfl, _, rfl, iteT ?_⟩
        refine ⟨_, rfl, _, rfl, d, d, dp1, dp1, sh, sh, ?_⟩
        rw [SeqAt.eqv_refl _ (SeqAt.canLay_of_shaped sh)]
        exact q _ s1
      · refine ⟨_, rfl, rfl, _, rfl, ?_⟩
        rw [decide_eq_false n1]
        refine iteF ?_
        refine ⟨_, rfl, rfl, fun tp2 H2 s2 _ g2 => ?_⟩
        have ty2 := ty H2
        have dp2 := dp H2
        refine ⟨_, tp2, _, _, [.type "str", .type "bool"], true, rfl, g2, .cons (.ty _) (.cons (.ty _) .nil), ty2, kitAny_cons (kit_ty ks) (fun z => kitAny_cons (kit_ty kb) (fun y => by rcases k with k | ⟨_, k⟩ <;> simp_all) (fun _ => rfl)) (fun _ => rfl), true, rfl, iteT ?_⟩
        refine ⟨_, rfl, _, _, _, _, _, rfl, .ty _, ty2, kit_ty kb, _, rfl, _, _, _, _, _, rfl, .ty _, ty2, kit_ty kb, rfl, _, rfl, ?_⟩
        rw [decide_eq_true rfl]
        refine iteT ?_
        refine ⟨_, rfl, _, _, _, _, _, rfl, .ty _, ty2, kit_ty ki, _, rfl, _, _, _, _, _, rfl, .ty _, ty2, kit_ty ki, rfl, ?_⟩
        rw [decide_eq_true rfl]
        refine ⟨_, rfl, _, rfl, iteT ?_⟩
        refine ⟨_, rfl, _, rfl, d, d, dp2, dp2, sh, sh, ?_⟩
        rw [SeqAt.eqv_refl _ (SeqAt.canLay_of_shaped sh)]
        exact q _ (s1.trans s2)
      · refine ⟨_, rfl, rfl, _, rfl, ?_⟩
        rw [decide_eq_false n1]
        refine iteF ?_
        refine ⟨_, rfl, rfl, fun tp2 H2 s2 _ g2 => ?_⟩
        have ty2 := ty H2
        have dp2 := dp H2
        subst k1 k2 k3
        refine ⟨_, tp2, _, _, [.type "str", .type "bool"], false, rfl, g2, .cons (.ty _) (.cons (.ty _) .nil), ty2, kitAny_cons (kit_ty ks) (fun _ => kitAny_cons (kit_ty kb) (fun _ => rfl) (fun z => nomatch z)) (fun z => nomatch z), false, rfl, iteF ?_⟩
        refine ⟨_, rfl, _, _, _, _, _, rfl, .ty _, ty2, kit_ty ki, _, rfl, iteT ?_⟩
        refine ⟨_, rfl, _, _, _, _, _, rfl, .ty _, ty2, kit_ty kb, _, rfl, _, rfl, iteT ?_⟩
        refine ⟨_, rfl, _, rfl, d, d, dp2, dp2, sh, sh, ?_⟩
        rw [SeqAt.eqv_refl _ (SeqAt.canLay_of_shaped sh)]
        exact q _ (s1.trans s2)
    | both t bl bt a b xs ys ds e1 e2 ty1 ty2 kl kt kk lx ly l9 dx dy hab =>
      subst e1 e2
      refine ⟨_, tp, _, _, [.type "list", .type "tuple"], true, rfl, htp2, .cons (.ty _) (.cons (.ty _) .nil), ty2, kitAny_cons (kit_ty kl) (fun z => kitAny_cons (kit_ty kt) (fun y => nomatch (kk z).symm.trans y) (fun _ => rfl)) (fun _ => rfl), true, rfl, iteT ?_⟩
      refine ⟨_, rfl, _, _, _, _, _, rfl, .ty _, ty1, kit_ty kl, _, rfl, _, _, _, _, _, rfl, .ty _, ty2, kit_ty kl, rfl, _, rfl, ?_⟩
      rw [decide_eq_true rfl]
      refine iteF ?_
      refine ⟨_, rfl, _, _, _, _, _, rfl, .ty _, ty1, kit_ty kt, _, rfl, _, _, _, _, _, rfl, .ty _, ty2, kit_ty kt, rfl, _, rfl, ?_⟩
      rw [decide_eq_true rfl]
      refine iteF ?_
      have hlen : ∀ (c : Addr) (zs : List V), (H1 c = some (.lst zs) ∨ SqT K H1 c zs) → LenV K (.ref c) H1 zs.length := fun c zs h => by
        rcases h with h | h
        · exact .inl ⟨_, SqL.of h, rfl⟩
        · exact .inr ⟨_, h, rfl⟩
      refine ⟨_, rfl, _, _, rfl, hlen a xs (hab.imp (·.1) (·.1)), _, rfl, _, _, rfl, hlen b ys (hab.imp (·.2) (·.2)), rfl, _, rfl, ?_⟩
      have el : decide (V.int (xs.length : Int) = V.int (ys.length : Int)) = true := decide_eq_true (by rw [lx, ly])
      rw [el]
      refine iteT ?_
      -- the turns of zip
      have turn : ∀ (D : Addr) (H2 : Hp) (i : Nat) (T0 : Addr), H1 D = none → i < xs.length → Same H1 H2 → H2 D = some (.lst (List.replicate i (.bl true))) → H2 T0 = none →
          sp_l_same K n [xs.getD i .non, ys.getD i .non] (upd H2 T0 (.tup [xs.getD i .non, ys.getD i .non])) (fun y H4 => ∃ acc, H4 D = some (.lst acc) ∧ acc.length < sizeLine ∧ (Same H1 (upd H4 D (.lst (acc ++ [y]))) ∧ (upd H4 D (.lst (acc ++ [y]))) D = some (.lst (List.replicate (i + 1) (.bl true))))) E0 := by
        intro D H2 i T0 hD hi sm hd hT
        have sT : Same H2 (upd H2 T0 (.tup [xs.getD i .non, ys.getD i .non])) := same_new hT
        have gx := getD_of hi
        have gy := getD_of (show i < ys.length by omega)
        have gd : ds[i]? = some ds[i] := List.getElem?_eq_getElem (by omega)
        refine ⟨_, _, ds[i], rfl, (dx i _ _ gx gd).same (sm.trans sT), (dy i _ _ gy gd).same (sm.trans sT), fun H4 s4 => ?_⟩
        refine ⟨_, s4 _ _ (sT _ _ hd), by rw [List.length_replicate]; exact small' (by omega), Same.put ((sm.trans sT).trans s4) hD, ?_⟩
        rw [upd_same, List.replicate_succ'] <;> rfl
      refine ⟨_, rfl, _, rfl, a, b, xs, ys, rfl, ?_⟩
      have fin : ∀ (D : Addr) (H2 : Hp), Same H1 H2 ∧ H2 D = some (.lst (List.replicate xs.length (.bl true))) → ∃ (a : Addr) (bs : List Bool), [V.ref D] = [V.ref a] ∧ SqL K H2 a (bs.map V.bl) ∧ Q (.bl (bs.all id)) H2 := fun D H2 ⟨sm, hd⟩ => by
        obtain ⟨t1, t2⟩ := all_true xs.length
        refine ⟨D, List.replicate xs.length true, rfl, SqL.of (by rw [t1]; exact hd), ?_⟩
        rw [t2]
        exact q H2 (s1.trans sm)
      rcases hab with ⟨ha, hb⟩ | ⟨ha, hb⟩
      · refine .inl ⟨SqL.of ha, SqL.of hb, fun D hD => ?_⟩
        refine lc_pair (n := xs.length) (St := fun H2 => SqL K H2 a xs ∧ SqL K H2 b ys) (fun i H2 => zipL_go rfl (by omega)) (fun H2 => zipL_stop rfl) (fun i H2 v H3 => zipL_yld rfl (by omega))
          (fun i H2 => Same H1 H2 ∧ H2 D = some (.lst (List.replicate i (.bl true)))) ⟨same_new hD, upd_same⟩ (fun i H2 _ z => ⟨SqL.of (z.1 _ _ ha), SqL.of (z.1 _ _ hb)⟩) (fun i T0 H2 hi z hT => ?_) (fun H2 z => fin D H2 z)
        refine ⟨T0, _, rfl, SqT.of upd_same, rfl, _, _, rfl, _, _, rfl, rfl, rfl, yesT ?_⟩
        exact ⟨_, rfl, _, rfl, turn D H2 i T0 hD hi z.1 z.2 hT⟩
      · refine .inr ⟨ha, hb, fun D hD => ?_⟩
        refine lc_pair (n := xs.length) (St := fun H2 => SqT K H2 a xs ∧ SqT K H2 b ys) (fun i H2 => zipT_go rfl (by omega)) (fun H2 => zipT_stop rfl) (fun i H2 v H3 => zipT_yld rfl (by omega))
          (fun i H2 => Same H1 H2 ∧ H2 D = some (.lst (List.replicate i (.bl true)))) ⟨same_new hD, upd_same⟩ (fun i H2 _ z => ⟨Same.tup z.1 ha, Same.tup z.1 hb⟩) (fun i T0 H2 hi z hT => ?_) (fun H2 z => fin D H2 z)
        refine ⟨T0, _, rfl, SqT.of upd_same, rfl, _, _, rfl, _, _, rfl, rfl, rfl, yesT ?_⟩
        exact ⟨_, rfl, _, rfl, turn D H2 i T0 hD hi z.1 z.2 hT⟩
theorem ok_l_same (T : All K mg) : FnOk P w K mg base CX0 5 T.f_l_same T.fd_l_same ["_law_found", "_law_due"] (sp_l_same K 5) := by
  have go : ∀ n, FnOk P w K mg base CX0 n T.f_l_same T.fd_l_same ["_law_found", "_law_due"] (sp_l_same K n) := fun n => by
    induction n with
    | zero => exact none_l_same
    | succ n ih => exact step_l_same T ih
  exact go _

end
end KR
namespace KR
open PySem PySem.Spec PyProof.Rows L2
section
variable {P : Program} {w : World} {K : PySem.W.Frag} {mg : Str → Option Value} {base : Heap}
def sp_l_is_number (K : PySem.W.Frag) : Sp := fun vs H Q _ => ∃ (Av : Addr → Prop) (B n : Nat) (v : V) (d : PyData), vs = [v] ∧ Tg K Av H B n v d ∧ Q (.bl (isI d)) H
theorem ok_l_is_number (T : All K mg) : FnOk P w K mg base CX0 1 T.f_l_is_number T.fd_l_is_number ["_law_thing"] (sp_l_is_number K) := by
  refine T.d_l_is_number.fn.ok sc_l_is_number (fun vs H Q E h => ?_) (fun cdv A outer s H vs Q E hr h => ?_)
  · obtain ⟨Av, B, n, v, d, rfl, _⟩ := h
    rfl
  · obtain ⟨Av, B, n, v, d, rfl, h, q⟩ := h
    refine ⟨_, (pss_one (ps_ret (pe_and (pe_callB (isiK (K := K) rfl) (by rfl) T.b_isinstance (by decide +kernel) (pa_cons (pv 0) (pa_cons (pe_bltn (v := .ty "int") (by rfl) T.b_int (by decide +kernel) rfl) pa_nil))) (pe_one (pe_not (pe_callB (isiK (K := K) rfl) (by rfl) T.b_isinstance (by decide +kernel) (pa_cons (pv 0) (pa_cons (pe_bltn (v := .ty "bool") (by rfl) T.b_bool (by decide +kernel) rfl) pa_nil)))))))), ?_⟩
    obtain ⟨t, ty, _, _, ki, kb, _⟩ := h.ty
    cases e : isBo d with
    | true =>
      rw [boI e] at q
      rw [e, Bool.or_true] at ki
      rw [e] at kb
      refine ⟨_, rfl, _, _, _, _, _, rfl, .ty _, ty, kit_ty ki, _, rfl, ?_⟩
      refine iteT ?_
      refine ⟨_, rfl, _, _, _, _, _, rfl, .ty _, ty, kit_ty kb, _, rfl, ?_⟩
      exact q
    | false =>
      rw [e, Bool.or_false] at ki
      rw [e] at kb
      refine ⟨_, rfl, _, _, _, _, _, rfl, .ty _, ty, kit_ty ki, _, rfl, ?_⟩
      cases e2 : isI d with
      | true =>
        rw [e2] at q
        refine iteT ?_
        refine ⟨_, rfl, _, _, _, _, _, rfl, .ty _, ty, kit_ty kb, _, rfl, ?_⟩
        exact q
      | false =>
        rw [e2] at q
        refine iteF ?_
        exact q

end
end KR
namespace KR
open PySem PySem.Spec PyProof.Rows L2
section
variable {P : Program} {w : World} {K : PySem.W.Frag} {mg : Str → Option Value} {base : Heap}
theorem at_end {ns : List Int} {n : Nat} (len : ns.length = n + 1) : atI (ns.map V.int) (-1) = some (.int (ns.getD n 0)) := by
  unfold atI ixN
  rw [List.length_map, len, if_neg (by omega), if_pos (by omega)]
  show (ns.map V.int)[(-1 + ((n + 1 : Nat) : Int)).toNat]? = _
  rw [show (-1 + ((n + 1 : Nat) : Int)).toNat = n by omega]
  exact ints_get (by omega)
theorem at_endR {rs : List Addr} {n : Nat} {r : Addr} (len : rs.length = n + 1) (e : rs[n]? = some r) : atI (rs.map V.ref) (-1) = some (.ref r) := by
  unfold atI ixN
  rw [List.length_map, len, if_neg (by omega), if_pos (by omega)]
  show (rs.map V.ref)[(-1 + ((n + 1 : Nat) : Int)).toNat]? = _
  rw [show (-1 + ((n + 1 : Nat) : Int)).toNat = n by omega, List.getElem?_map, e] <;> rfl
theorem ixN_n {n i : Nat} (h : i < n) : ixN n (i : Int) = some i := by
  unfold ixN
  rw [if_pos (by omega), if_pos (by omega), Int.toNat_natCast]
/-- what is held within an hour, behind so many places from the last one on -/
def heldM (D : Dy) (t j : Nat) : List Int := (List.range D.ks.length).map fun p => if D.ks.length ≤ p + j then tk D (t + 1) p - tk D (t + 1) (p + 1) else tk D t p - tk D t (p + 1)
def heldI (D : Dy) (t : Nat) : List Int := (List.range D.ks.length).map fun p => tk D t p - tk D t (p + 1)
theorem heldM_len (D : Dy) (t j : Nat) : (heldM D t j).length = D.ks.length := by
  unfold heldM
  rw [List.length_map, List.length_range]
theorem heldI_len (D : Dy) (t : Nat) : (heldI D t).length = D.ks.length := by
  unfold heldI
  rw [List.length_map, List.length_range]
theorem heldI_at {D : Dy} {t p : Nat} (h : p < D.ks.length) : (heldI D t).getD p 0 = tk D t p - tk D t (p + 1) := by
  unfold heldI
  rw [List.getD_eq_getElem?_getD, List.getElem?_map, List.getElem?_range h] <;> rfl
theorem heldM_at {D : Dy} {t j p : Nat} (h : p < D.ks.length) : (heldM D t j)[p]? = some (if D.ks.length ≤ p + j then tk D (t + 1) p - tk D (t + 1) (p + 1) else tk D t p - tk D t (p + 1)) := by
  unfold heldM
  rw [List.getElem?_map, List.getElem?_range h] <;> rfl
theorem heldM_zero (D : Dy) (t : Nat) : heldM D t 0 = heldI D t := by
  unfold heldM heldI
  exact List.map_congr_left fun p hp => if_neg (by have := List.mem_range.mp hp; omega)
theorem heldM_all (D : Dy) (t : Nat) : heldM D t D.ks.length = heldI D (t + 1) := by
  unfold heldM heldI
  exact List.map_congr_left fun p hp => if_pos (by omega)
theorem heldI_zero (D : Dy) : heldI D 0 = List.replicate D.ks.length 0 := by
  refine List.eq_replicate_iff.mpr ⟨heldI_len D 0, fun z hz => ?_⟩
  unfold heldI at hz
  obtain ⟨p, _, rfl⟩ := List.mem_map.mp hz
  show tk D 0 p - tk D 0 (p + 1) = 0
  rw [tk_zero, tk_zero] <;> rfl
theorem heldM_step {D : Dy} {t j p : Nat} (h : p + j + 1 = D.ks.length) : (heldM D t j).set p (tk D (t + 1) p - tk D (t + 1) (p + 1)) = heldM D t (j + 1) := by
  refine List.ext_getElem? fun i => ?_
  rw [List.getElem?_set]
  by_cases c : p = i
  · subst c
    rw [if_pos rfl, if_pos (by rw [heldM_len]; omega), heldM_at (by omega), if_pos (by omega)]
  · rw [if_neg c]
    by_cases hi : i < D.ks.length
    · rw [heldM_at hi, heldM_at hi]
      by_cases c2 : D.ks.length ≤ i + j
      · rw [if_pos c2, if_pos (by omega)]
      · rw [if_neg c2, if_neg (by omega)]
    · rw [List.getElem?_eq_none (by rw [heldM_len]; omega), List.getElem?_eq_none (by rw [heldM_len]; omega)]
theorem csum_step {D : Dy} {t : Nat} (h : t < D.cs.length) : csum D (t + 1) = csum D t + D.cs.getD t 0 := by
  unfold csum
  rw [take_one (List.getElem?_eq_getElem h), List.sum_append, List.getD_eq_getElem?_getD, List.getElem?_eq_getElem h, List.sum_cons, List.sum_nil]
  show _ + (D.cs[t] + 0) = _ + D.cs[t]
  omega
/-- how far a row has come -/
def rowT (D : Dy) (t j q : Nat) : List Int := (rowI D q).take (if D.ks.length ≤ q + j then t + 1 else t)
def RowsG (H H0 : Hp) (D : Dy) (l g : Addr) (rs : List Addr) (f : Nat → List Int) : Prop := ∀ (q : Nat) (r : Addr), rs[q]? = some r → H r = some (.lst ((f q).map V.int)) ∧ H0 r = none ∧ r ≠ l ∧ r ≠ g
theorem RowsG.same {H H' H0 : Hp} {D : Dy} {l g : Addr} {rs : List Addr} {f : Nat → List Int} (h : RowsG H H0 D l g rs f) (s : Same H H') : RowsG H' H0 D l g rs f := fun q r e => ⟨s _ _ (h q r e).1, (h q r e).2⟩
theorem RowsG.put {H H0 : Hp} {D : Dy} {l g : Addr} {rs : List Addr} {f : Nat → List Int} {o : HO} (h : RowsG H H0 D l g rs f) : RowsG (upd H l o) H0 D l g rs f := fun q r e => ⟨by rw [upd_ne (h q r e).2.2.1]; exact (h q r e).1, (h q r e).2⟩
theorem RowsG.row {H H0 : Hp} {D : Dy} {l g : Addr} {rs : List Addr} {f f' : Nat → List Int} {i : Nat} {r : Addr} {ns : List Int} (h : RowsG H H0 D l g rs f) (nd : rs.Nodup) (e : rs[i]? = some r) (hi : f' i = ns) (ho : ∀ q, q < rs.length → q ≠ i → f' q = f q) : RowsG (upd H r (.lst (ns.map V.int))) H0 D l g rs f' := fun q r' e' => by
  by_cases c : q = i
  · subst c
    rw [e] at e'
    cases e'
    exact ⟨by rw [upd_same, hi], (h q r e).2⟩
  · have ne : r' ≠ r := fun z => by
      rw [z, ← e] at e'
      exact c ((List.getElem?_inj (List.getElem?_eq_some_iff.mp (e'.trans e)).1 nd).mp e')
    exact ⟨by rw [upd_ne ne, ho q (List.getElem?_eq_some_iff.mp e').1 c]; exact (h q r' e').1, (h q r' e').2⟩
def sp_l_greatest (K : PySem.W.Frag) : Sp := fun vs H Q _ => ∃ (p d : Addr) (x : DyP) (D : Dy), vs = [.ref d] ∧ DayAt K H p d x D ∧ DyOk D ∧
  ∀ (f : Addr) (rs : List Addr) (H' : Hp), Same H H' → H f = none → H' f = some (.lst (rs.map V.ref)) → rs.length = D.ks.length + 1 → rs.Nodup → (∀ (q : Nat) (r : Addr), rs[q]? = some r → H' r = some (.lst ((rowI D q).map V.int)) ∧ H r = none ∧ r ≠ f) → Q (.ref f) H'
theorem ok_l_greatest (T : All K mg) : FnOk P w K mg base CX0 1 T.f_l_greatest T.fd_l_greatest ["_law_day_here"] (sp_l_greatest K) := by
  refine T.d_l_greatest.fn.ok sc_l_greatest (fun vs H Q E h => ?_) (fun cdv A outer s H vs Q E hr h => ?_)
  · obtain ⟨p, d, x, D, rfl, _⟩ := h
    rfl
  · obtain ⟨p, d, x, D, rfl, hD, O, q⟩ := h
    refine ⟨_, (pss_cons (ps_asg (pv 0) (pg_tupK (K := K) rfl rfl (pgs_cons (pg_name (i := 1) sc_l_greatest.nd rfl (by first | exact Or.inl rfl | exact Or.inr rfl)) (pgs_cons (pg_name (i := 2) sc_l_greatest.nd rfl (by first | exact Or.inl rfl | exact Or.inr rfl)) (pgs_cons (pg_name (i := 3) sc_l_greatest.nd rfl (by first | exact Or.inl rfl | exact Or.inr rfl)) pgs_nil)))))
      (pss_cons (ps_par3 (i := 4) (j := 5) (l := 6) (by rfl) sc_l_greatest.nd rfl rfl rfl (by decide) (by decide) (by decide) rfl rfl rfl (pa_cons (pe_op op_rep (pe_lstI (pa_cons pe_int pa_nil)) (pe_callB (lenA (K := K) rfl) (by rfl) T.b_len PySem.boot_len (pa_cons (pv 2) pa_nil))) (pa_cons pe_int (pa_cons (pe_lc (own := [("_law_place", 7)]) (g := gName 7) (tt := tYes) (by rfl) sc_l_greatest.nd (pi_range1 (by rfl) T.b_range (pa_cons (pe_op op_add (pe_callB (lenA (K := K) rfl) (by rfl) T.b_len PySem.boot_len (pa_cons (pv 2) pa_nil)) pe_int) pa_nil)) (blkOk_by (own := [("_law_place", 7)]) (N := ["_law_day_here", "_law_comes", "_law_kettles", "_law_strikes", "_law_held", "_law_waiting", "_law_plan", "_law_place", "_law_hour", "_law_many", "_law_before", "_law_taken", "_law_room", "_law_takes"]) (sc := defScope s_l_greatest) (by decide +kernel)) (fun _ _ _ _ _ => (pg_name (i := 7) sc_l_greatest.nd rfl (by first | exact Or.inl rfl | exact Or.inr rfl))) (fun _ _ _ _ _ => pts_nil) (fun _ _ _ _ _ => (pe_lstI pa_nil))) pa_nil))) (by rfl))
      (pss_cons (ps_for PassesOwn.never rfl (pi_enumB (K := K) rfl (by rfl) T.b_enumerate (pa_cons (pv 1) pa_nil)) (pg_tupK (K := K) rfl rfl (pgs_cons (pg_name (i := 8) sc_l_greatest.nd rfl (by first | exact Or.inl rfl | exact Or.inr rfl)) (pgs_cons (pg_name (i := 9) sc_l_greatest.nd rfl (by first | exact Or.inl rfl | exact Or.inr rfl)) pgs_nil))) (pss_cons (ps_par (i := 5) (j := 10) (by rfl) sc_l_greatest.nd rfl rfl (by decide) rfl rfl (pa_cons (pe_op op_add (pv 5) (pv 9)) (pa_cons (pe_callTy (listI (K := K) rfl) (by rfl) T.b_list (by decide +kernel) (pa_cons (pv 4) pa_nil)) pa_nil)) (by rfl))
      (pss_cons (ps_set (i := 11) sc_l_greatest.nd rfl (by first | exact Or.inl rfl | exact Or.inr rfl) (pe_callB (call_min2 rfl) (by rfl) T.b_min (by decide +kernel) (pa_cons (pe_ix (ixQ (K := K) rfl) (pv 3) (pv 8) (fun _ _ => rfl)) (pa_cons (pe_ix (ixL (K := K) rfl) (pv 10) (pe_un un_neg pe_int) (fun _ _ => rfl)) pa_nil))))
      (pss_cons (ps_expr (pe_bm PySem.F.plainAttrs_list PySem.F.slot_list_append PySem.F.type_list_append mt_append (pe_ix (ixL (K := K) rfl) (pv 6) (pe_un un_neg pe_int) (fun _ _ => rfl)) (pa_cons (pv 11) pa_nil)))
      (pss_cons (ps_for PassesOwn.never rfl (pi_range3 (by rfl) T.b_range (pa_cons (pe_op op_sub (pe_callB (lenA (K := K) rfl) (by rfl) T.b_len PySem.boot_len (pa_cons (pv 2) pa_nil)) pe_int) (pa_cons (pe_un un_neg pe_int) (pa_cons (pe_un un_neg pe_int) pa_nil)))) (pg_name (i := 7) sc_l_greatest.nd rfl (by first | exact Or.inl rfl | exact Or.inr rfl)) (pss_cons (ps_asg (pe_ix (ixQ (K := K) rfl) (pv 2) (pv 7) (fun _ _ => rfl)) (pg_tupK (K := K) rfl rfl (pgs_cons (pg_name (i := 12) sc_l_greatest.nd rfl (by first | exact Or.inl rfl | exact Or.inr rfl)) (pgs_cons (pg_name (i := 13) sc_l_greatest.nd rfl (by first | exact Or.inl rfl | exact Or.inr rfl)) pgs_nil))))
      (pss_cons (ps_asg (pe_op op_sub (pe_ix (ixL (K := K) rfl) (pv 4) (pv 7) (fun _ _ => rfl)) (pv 11)) (pg_sub (pv 4) (pv 7) set_list))
      (pss_cons (ps_J (ps_set (i := 11) sc_l_greatest.nd rfl (by first | exact Or.inl rfl | exact Or.inr rfl) (pe_callB (call_min3Nu rfl) (by rfl) T.b_min (by decide +kernel) (pa_cons (pe_ix (ixQ (K := K) rfl) (pv 13) (pv 8) (fun _ _ => rfl)) (pa_cons (pe_op op_sub (pv 12) (pe_ix (ixL (K := K) rfl) (pv 4) (pv 7) (fun _ _ => rfl))) (pa_cons (pe_ifExp (pt_cmpR op_gt (pv 7) pe_int (nomark _)) (pe_ix (ixL (K := K) rfl) (pv 10) (pe_op op_sub (pv 7) pe_int) (fun _ _ => rfl)) (pv 5)) pa_nil))))))
      (pss_cons (ps_asg (pe_op op_add (pe_ix (ixL (K := K) rfl) (pv 4) (pv 7) (fun _ _ => rfl)) (pv 11)) (pg_sub (pv 4) (pv 7) set_list))
      (pss_one (ps_expr (pe_bm PySem.F.plainAttrs_list PySem.F.slot_list_append PySem.F.type_list_append mt_append (pe_ix (ixL (K := K) rfl) (pv 6) (pv 7) (fun _ _ => rfl)) (pa_cons (pv 11) pa_nil)))))))))
      (pss_one (ps_set (i := 5) sc_l_greatest.nd rfl (by first | exact Or.inl rfl | exact Or.inr rfl) (pe_op op_sub (pv 5) (pv 11)))))))))
      (pss_one (ps_ret (pv 6)))))), ?_⟩
    have k1 := O.k1
    have k2 := O.k2
    have h2 := O.h2
    refine ⟨_, rfl, d, _, rfl, hD.at_, rfl, _, _, rfl, _, _, rfl, _, _, rfl, rfl, ?_⟩
    refine ⟨rfl, fun l0 H1 s1 n1 h1 => ?_⟩
    refine ⟨_, rfl, _, _, rfl, lenV_b (hD.ks.same s1), ?_⟩
    rw [List.length_map, hD.len]
    refine ⟨l0, (D.ks.length : Int), _, rfl, rfl, h1, by omega, by omega, by show 1 * _ ≤ _; rw [sizeLine_eq]; omega, fun hl nhl => ?_⟩
    rw [rep_ints D.ks.length 0]
    have nhlH : H hl = none := same_none' s1 nhl
    have s2 : Same H (upd H1 hl (.lst ((List.replicate D.ks.length (0 : Int)).map V.int))) := s1.trans (same_new nhl)
    have hhl2 : (upd H1 hl (.lst ((List.replicate D.ks.length (0 : Int)).map V.int))) hl = some (.lst ((List.replicate D.ks.length (0 : Int)).map V.int)) := upd_same
    generalize upd H1 hl (.lst ((List.replicate D.ks.length (0 : Int)).map V.int)) = H2 at s2 hhl2
    refine ⟨_, rfl, _, _, rfl, lenV_b (hD.ks.same s2), ?_⟩
    rw [List.length_map, hD.len]
    refine ⟨_, _, rfl, rfl, (D.ks.length : Int) + 1, rfl, by omega, by omega, fun g hg => ?_⟩
    have ngH : H g = none := same_none' s2 hg
    have hlg : hl ≠ g := ne_of_none hhl2 hg
    refine lc_range (lo := 0) (n := D.ks.length + 1) (fun j H' => ∃ rs : List Addr, Same H2 H' ∧ H' g = some (.lst (rs.map V.ref)) ∧ rs.length = j ∧ rs.Nodup ∧ ∀ r ∈ rs, H' r = some (.lst []) ∧ H2 r = none ∧ r ≠ g)
      ⟨[], same_new hg, upd_same, rfl, List.nodup_nil, fun r hr => absurd hr List.not_mem_nil⟩ (fun j H3 hj z => ?_) (fun H3 z => ?_)
    · obtain ⟨rs, s3, hg3, lr, nd, all⟩ := z
      refine ⟨rfl, yesT ?_⟩
      refine ⟨rfl, fun r H4 s4 n4 h4 => ?_⟩
      have hg4 := s4 _ _ hg3
      have rg : r ≠ g := (ne_of_none hg3 n4).symm
      refine ⟨_, hg4, by rw [List.length_map]; exact small' (by omega), rs ++ [r], Same.put (s3.trans s4) hg, by rw [upd_same, List.map_append] <;> rfl, by rw [List.length_append, lr] <;> rfl, ?_, fun r' hr' => ?_⟩
      · refine List.nodup_append.mpr ⟨nd, List.nodup_cons.mpr ⟨List.not_mem_nil, List.nodup_nil⟩, fun a ha b hb e => ?_⟩
        rw [List.mem_singleton.mp hb] at e
        have z := (all a ha).1
        rw [e, n4] at z
        cases z
      · rcases List.mem_append.mp hr' with m | m
        · obtain ⟨z1, z2, z3⟩ := all r' m
          exact ⟨by rw [upd_ne z3]; exact s4 _ _ z1, z2, z3⟩
        · rw [List.mem_singleton.mp m]
          exact ⟨by rw [upd_ne rg]; exact h4, same_none' s3 n4, rg⟩
    · obtain ⟨rs, s3, hg3, lr, nd, all⟩ := z
      have s03 := s2.trans s3
      have hhl3 := s3 _ _ hhl2
      have R3 : RowsG H3 H D hl g rs fun q => (rowI D q).take 0 := fun q' r e => by
        obtain ⟨z1, z2, z3⟩ := all r (List.mem_of_getElem? e)
        exact ⟨z1, same_none' s2 z2, (ne_of_none hhl2 z2).symm, z3⟩
      refine ⟨_, _, _, rfl, ?_⟩
      refine ⟨_, rfl, x.c, _, x.pc, rfl, hD.cs.1.same s03, for_it (walk_enumB (K := K) (a := x.c) (xs := D.cs.map V.int) (p := x.pc)) (fun t σ H' => ∃ (wt : Int) (v7 v8 v9 v10 v11 v12 v13 : Option V), σ = [some (.ref d), some (.ref x.c), some (.ref x.k), some (.ref x.s), some (.ref hl), some (.int wt), some (.ref g), v7, v8, v9, v10, v11, v12, v13] ∧ Same H H' ∧ H' hl = some (.lst ((heldI D t).map V.int)) ∧ wt = csum D t - tk D t 0 ∧ H' g = some (.lst (rs.map V.ref)) ∧ RowsG H' H D hl g rs fun q => (rowI D q).take t)
        ⟨0, none, none, none, none, none, none, none, rfl, s03, by rw [heldI_zero]; exact hhl3, rfl, hg3, R3⟩ (fun t σ H' _ ⟨_, _, _, _, _, _, _, _, _, s, _⟩ => hD.cs.1.same s) ?_ ?_⟩
      · rintro t v σ H4 H5 ht ⟨wt, v7, v8, v9, v10, v11, v12, v13, rfl, s4, hh4, rfl, hg4, R4⟩ ⟨T0, x0, y0, rfl, hT, rfl, e0, ex⟩
        rw [List.length_map] at ht
        obtain rfl := Option.some.inj e0
        have ex' : (D.cs.map V.int)[t]? = some y0 := ex
        rw [ints_get ht] at ex'
        obtain rfl := Option.some.inj ex'
        have sT : Same H4 (upd H4 T0 (.tup [.int (t : Nat), .int (D.cs.getD t 0)])) := same_new hT
        have hT5 : (upd H4 T0 (.tup [.int (t : Nat), .int (D.cs.getD t 0)])) T0 = some (.tup [.int (t : Nat), .int (D.cs.getD t 0)]) := upd_same
        generalize upd H4 T0 (.tup [.int (t : Nat), .int (D.cs.getD t 0)]) = H5 at sT hT5
        refine ⟨T0, _, rfl, SqT.of hT5, rfl, _, _, rfl, _, _, rfl, rfl, ?_⟩
        have hh5 := sT _ _ hh4
        refine ⟨_, rfl, _, rfl, _, _, rfl, rfl, _, rfl, hl, _, rfl, .inl (SqL.of hh5), fun bf H6 s6 n6 h6 => ⟨_, _, rfl, ?_⟩⟩
        have s46 := sT.trans s6
        have s06 := s4.trans s46
        have hh6 := s6 _ _ hh5
        have hg6 := s46 _ _ hg4
        have R6 := R4.same s46
        have bfl : bf ≠ hl := (ne_of_none hh5 n6).symm
        have nbfH : H bf = none := same_none' (s4.trans sT) n6
        obtain ⟨n1', en1⟩ : ∃ n1 : Nat, D.ks.length = n1 + 1 := ⟨D.ks.length - 1, by omega⟩
        have hbl : (heldI D t).getD n1' 0 = tk D t n1' - tk D t (n1' + 1) := heldI_at (by omega)
        -- the last place
        refine ⟨_, rfl, _, rfl, ix_b (i := t) (hD.ss.1.same s06) rfl (ints_get (by rw [O.sl]; exact ht)) ?_⟩
        refine ⟨_, rfl, _, rfl, bf, _, -1, _, rfl, rfl, SqL.of h6, at_end (n := n1') (by rw [heldI_len]; exact en1), ?_⟩
        rw [hbl]
        have tl := tk_last D t
        have mn : (if tk D t n1' - tk D t (n1' + 1) < D.ss.getD t 0 then tk D t n1' - tk D t (n1' + 1) else D.ss.getD t 0) = tk D (t + 1) D.ks.length - tk D t D.ks.length := by
          rw [tl, show D.ks.length - 1 = n1' by omega, en1]
          split <;> omega
        refine ⟨_, _, rfl, ?_⟩
        rw [mn]
        have rn : rs[D.ks.length]? = some (rs[D.ks.length]'(by omega)) := List.getElem?_eq_getElem _
        generalize rs[D.ks.length]'(by omega) = r0 at rn
        have R0 := R6 D.ks.length r0 rn
        refine ⟨_, rfl, _, rfl, g, _, -1, _, rfl, rfl, SqL.of hg6, at_endR (n := D.ks.length) lr rn, .inl ⟨rfl, _, SqL.of R0.1⟩, _, rfl, r0, _, _, rfl, rfl, R0.1, by rw [List.length_map, List.length_take, row_len]; exact small' (by omega), ?_⟩
        have e7 : ((rowI D D.ks.length).take t).map V.int ++ [.int (tk D (t + 1) D.ks.length - tk D t D.ks.length)] = ((rowI D D.ks.length).take (t + 1)).map V.int := by
          rw [take_one (row_get ht), List.map_append] <;> rfl
        rw [e7]
        have R7 : RowsG (upd H6 r0 (.lst (((rowI D D.ks.length).take (t + 1)).map V.int))) H D hl g rs (rowT D t 0) := R6.row nd rn (by unfold rowT; rw [if_pos (by omega)]) fun q' lt hq => by
          unfold rowT
          rw [if_neg (by omega)]
        have r0l : hl ≠ r0 := R0.2.2.1.symm
        have r0g : g ≠ r0 := R0.2.2.2.symm
        have rbf : ∀ (q' : Nat) (r : Addr), rs[q']? = some r → r ≠ bf := fun q' r e => ne_of_none ((R4.same sT) q' r e).1 n6
        have s07 : Same H (upd H6 r0 (.lst (((rowI D D.ks.length).take (t + 1)).map V.int))) := Same.put s06 R0.2.1
        have hh7 : (upd H6 r0 (.lst (((rowI D D.ks.length).take (t + 1)).map V.int))) hl = some (.lst ((heldM D t 0).map V.int)) := by rw [upd_ne r0l, heldM_zero]; exact hh6
        have hg7 : (upd H6 r0 (.lst (((rowI D D.ks.length).take (t + 1)).map V.int))) g = some (.lst (rs.map V.ref)) := by rw [upd_ne r0g]; exact hg6
        have hb7 : (upd H6 r0 (.lst (((rowI D D.ks.length).take (t + 1)).map V.int))) bf = some (.lst ((heldI D t).map V.int)) := by rw [upd_ne (rbf _ _ rn).symm]; exact h6
        generalize upd H6 r0 (.lst (((rowI D D.ks.length).take (t + 1)).map V.int)) = H7 at R7 s07 hh7 hg7 hb7
        refine ⟨_, rfl, _, _, rfl, lenV_b (hD.ks.same s07), ?_⟩
        rw [List.length_map, hD.len]
        have eN : ((D.ks.length : Int) - 1 - -1).toNat = D.ks.length := by omega
        refine ⟨_, _, rfl, rfl, _, rfl, _, rfl, (D.ks.length : Int) - 1, -1, -1, _, rfl, RgC.neg (by omega) (by omega) (by decide) (by decide), for_rangeC (lo := (D.ks.length : Int) - 1) (c := -1) (n := ((D.ks.length : Int) - 1 - -1).toNat) (fun j σ H' => ∃ (v7 v12 v13 : Option V), σ = [some (.ref d), some (.ref x.c), some (.ref x.k), some (.ref x.s), some (.ref hl), some (.int (csum D t - tk D t 0 + D.cs.getD t 0)), some (.ref g), v7, some (.int (t : Nat)), some (.int (D.cs.getD t 0)), some (.ref bf), some (.int (tk D (t + 1) (D.ks.length - j) - tk D t (D.ks.length - j))), v12, v13] ∧ Same H H' ∧ H' hl = some (.lst ((heldM D t j).map V.int)) ∧ H' g = some (.lst (rs.map V.ref)) ∧ H' bf = some (.lst ((heldI D t).map V.int)) ∧ RowsG H' H D hl g rs (rowT D t j))
          ⟨v7, v12, v13, rfl, s07, hh7, hg7, hb7, R7⟩ ?_ ?_⟩
        · rintro j σ H8 hj ⟨v7, v12, v13, rfl, s8, hh8, hg8, hb8, R8⟩
          obtain ⟨pl, epl, lpl⟩ : ∃ pl : Nat, (D.ks.length : Int) - 1 + (j : Int) * -1 = (pl : Int) ∧ pl + j + 1 = D.ks.length := ⟨D.ks.length - 1 - j, by omega, by omega⟩
          rw [epl]
          have enj : D.ks.length - j = pl + 1 := by omega
          rw [enj]
          obtain ⟨ka, ta, bb, gk, hk0, hta0⟩ := hD.pot (j := pl) (by omega)
          have hk := Same.tup s8 hk0
          refine ⟨_, rfl, _, rfl, ix_b (i := pl) (hD.ks.same s8) rfl gk ⟨ka, _, rfl, hk, rfl, _, _, rfl, _, _, rfl, rfl, ?_⟩⟩
          have eh8 : ((heldM D t j).map V.int)[pl]? = some (.int (tk D t pl - tk D t (pl + 1))) := by
            rw [List.getElem?_map, heldM_at (by omega), if_neg (by omega)] <;> rfl
          refine ⟨_, rfl, _, rfl, hl, _, (pl : Int), _, rfl, rfl, SqL.of hh8, at_of rfl eh8, _, rfl, _, _, rfl, rfl, _, rfl, _, rfl, hl, _, (pl : Int), pl, rfl, rfl, hh8, ixN_n (by rw [List.length_map, heldM_len]; omega), ?_⟩
          have e9 : ((heldM D t j).map V.int).set pl (.int (tk D t pl - tk D t (pl + 1) - (tk D (t + 1) (pl + 1) - tk D t (pl + 1)))) = ((heldM D t j).set pl (tk D t pl - tk D (t + 1) (pl + 1))).map V.int := by
            rw [List.map_set, show tk D t pl - tk D t (pl + 1) - (tk D (t + 1) (pl + 1) - tk D t (pl + 1)) = tk D t pl - tk D (t + 1) (pl + 1) by omega]
          have s9 : Same H (upd H8 hl (.lst (((heldM D t j).map V.int).set pl (.int (tk D t pl - tk D t (pl + 1) - (tk D (t + 1) (pl + 1) - tk D t (pl + 1))))))) := Same.put s8 nhlH
          have hh9 : (upd H8 hl (.lst (((heldM D t j).map V.int).set pl (.int (tk D t pl - tk D t (pl + 1) - (tk D (t + 1) (pl + 1) - tk D t (pl + 1))))))) hl = some (.lst (((heldM D t j).set pl (tk D t pl - tk D (t + 1) (pl + 1))).map V.int)) := by rw [upd_same, e9]
          have hg9 : (upd H8 hl (.lst (((heldM D t j).map V.int).set pl (.int (tk D t pl - tk D t (pl + 1) - (tk D (t + 1) (pl + 1) - tk D t (pl + 1))))))) g = some (.lst (rs.map V.ref)) := by rw [upd_ne hlg.symm]; exact hg8
          have hb9 : (upd H8 hl (.lst (((heldM D t j).map V.int).set pl (.int (tk D t pl - tk D t (pl + 1) - (tk D (t + 1) (pl + 1) - tk D t (pl + 1))))))) bf = some (.lst ((heldI D t).map V.int)) := by rw [upd_ne bfl]; exact hb8
          have R9 := R8.put (o := .lst (((heldM D t j).map V.int).set pl (.int (tk D t pl - tk D t (pl + 1) - (tk D (t + 1) (pl + 1) - tk D t (pl + 1))))))
          have ht9 : IsB' K (upd H8 hl (.lst (((heldM D t j).map V.int).set pl (.int (tk D t pl - tk D t (pl + 1) - (tk D (t + 1) (pl + 1) - tk D t (pl + 1))))))) p ta (kt D pl).2 bb := hta0.same s9
          generalize upd H8 hl (.lst (((heldM D t j).map V.int).set pl (.int (tk D t pl - tk D t (pl + 1) - (tk D (t + 1) (pl + 1) - tk D t (pl + 1)))))) = H9 at s9 hh9 hg9 hb9 R9 ht9
          have eh9 : (((heldM D t j).set pl (tk D t pl - tk D (t + 1) (pl + 1))).map V.int)[pl]? = some (.int (tk D t pl - tk D (t + 1) (pl + 1))) := by
            rw [List.getElem?_map, List.getElem?_set_self (by rw [heldM_len]; omega)] <;> rfl
          refine ⟨fun σ' H' => σ' = [some (.ref d), some (.ref x.c), some (.ref x.k), some (.ref x.s), some (.ref hl), some (.int (csum D t - tk D t 0 + D.cs.getD t 0)), some (.ref g), some (.int (pl : Int)), some (.int (t : Nat)), some (.int (D.cs.getD t 0)), some (.ref bf), some (.int (tk D (t + 1) pl - tk D t pl)), some (.int (kt D pl).1), some (.ref ta)] ∧ H' = H9, ?_, ?_⟩
          · rintro σ' H' ⟨rfl, rfl⟩
            refine ⟨_, rfl, _, rfl, hl, _, (pl : Int), _, rfl, rfl, SqL.of hh9, at_of rfl eh9, _, rfl, _, _, rfl, rfl, _, rfl, _, rfl, hl, _, (pl : Int), pl, rfl, rfl, hh9, ixN_n (by rw [List.length_map, List.length_set, heldM_len]; omega), ?_⟩
            have e10 : (((heldM D t j).set pl (tk D t pl - tk D (t + 1) (pl + 1))).map V.int).set pl (.int (tk D t pl - tk D (t + 1) (pl + 1) + (tk D (t + 1) pl - tk D t pl))) = (heldM D t (j + 1)).map V.int := by
              rw [← heldM_step (D := D) (t := t) (j := j) (p := pl) (by omega), ← List.map_set, List.set_set, show tk D t pl - tk D (t + 1) (pl + 1) + (tk D (t + 1) pl - tk D t pl) = tk D (t + 1) pl - tk D (t + 1) (pl + 1) by omega]
            rw [e10]
            have s10 : Same H (upd H' hl (.lst ((heldM D t (j + 1)).map V.int))) := Same.put s9 nhlH
            have hh10 : (upd H' hl (.lst ((heldM D t (j + 1)).map V.int))) hl = some (.lst ((heldM D t (j + 1)).map V.int)) := upd_same
            have hg10 : (upd H' hl (.lst ((heldM D t (j + 1)).map V.int))) g = some (.lst (rs.map V.ref)) := by rw [upd_ne hlg.symm]; exact hg9
            have hb10 : (upd H' hl (.lst ((heldM D t (j + 1)).map V.int))) bf = some (.lst ((heldI D t).map V.int)) := by rw [upd_ne bfl]; exact hb9
            have R10 := R9.put (o := .lst ((heldM D t (j + 1)).map V.int))
            generalize upd H' hl (.lst ((heldM D t (j + 1)).map V.int)) = H10 at s10 hh10 hg10 hb10 R10
            obtain ⟨r, er⟩ : ∃ r, rs[pl]? = some r := ⟨rs[pl]'(by omega), List.getElem?_eq_getElem _⟩
            have Rr := R10 pl r er
            have ert : rowT D t j pl = (rowI D pl).take t := by unfold rowT; rw [if_neg (by omega)]
            have ert' : rowT D t (j + 1) pl = (rowI D pl).take (t + 1) := by unfold rowT; rw [if_pos (by omega)]
            rw [ert] at Rr
            refine ⟨_, rfl, _, rfl, g, _, (pl : Int), _, rfl, rfl, SqL.of hg10, at_of rfl (show (rs.map V.ref)[pl]? = some (.ref r) by rw [List.getElem?_map, er] <;> rfl), .inl ⟨rfl, _, SqL.of Rr.1⟩, _, rfl, r, _, _, rfl, rfl, Rr.1, by rw [List.length_map, List.length_take, row_len]; exact small' (by omega), ?_⟩
            have e11 : ((rowI D pl).take t).map V.int ++ [.int (tk D (t + 1) pl - tk D t pl)] = ((rowI D pl).take (t + 1)).map V.int := by
              rw [take_one (row_get ht), List.map_append] <;> rfl
            rw [e11]
            refine ⟨some (.int (pl : Int)), some (.int (kt D pl).1), some (.ref ta), ?_, Same.put s10 Rr.2.1, by rw [upd_ne Rr.2.2.1.symm]; exact hh10, by rw [upd_ne Rr.2.2.2.symm]; exact hg10, by rw [upd_ne (rbf _ _ er).symm]; exact hb10, R10.row nd er ert' fun q' lt hq => ?_⟩
            · rw [show D.ks.length - (j + 1) = pl by omega]
            · unfold rowT
              by_cases c : D.ks.length ≤ q' + j
              · rw [if_pos c, if_pos (by omega)]
              · rw [if_neg c, if_neg (by omega)]
          · refine ⟨_, rfl, _, rfl, ix_b (i := t) ht9.1 rfl (ints_get (by rw [kt_len O (by omega)]; exact ht)) ?_⟩
            refine ⟨_, rfl, _, rfl, _, rfl, hl, _, (pl : Int), _, rfl, rfl, SqL.of hh9, at_of rfl eh9, _, _, rfl, rfl, ?_⟩
            refine ⟨_, rfl, _, _, rfl, rfl, _, rfl, ?_⟩
            have ta' := tk_at (D := D) (t := t) (p := pl) (by omega)
            by_cases c : pl = 0
            · refine ite_bF (decide_eq_false (by omega)) ?_
              refine ⟨_, rfl, _, _, _, _, rfl, nuMin3_int _ _ _, ?_⟩
              refine ⟨?_, rfl⟩
              rw [if_pos c, csum_step ht] at ta'
              subst c
              have ev : min (min ((kt D 0).2.getD t 0) ((kt D 0).1 - (tk D t 0 - tk D (t + 1) (0 + 1)))) (csum D t - tk D t 0 + D.cs.getD t 0) = tk D (t + 1) 0 - tk D t 0 := by omega
              rw [ev]
              rfl
            · refine ite_bT (decide_eq_true (by omega)) ?_
              refine ⟨_, rfl, _, rfl, _, _, rfl, rfl, bf, _, (pl : Int) - 1, .int ((heldI D t).getD (pl - 1) 0), rfl, rfl, SqL.of hb9, at_of (j := pl - 1) (by omega) (ints_get (by rw [heldI_len]; omega)), ?_⟩
              rw [heldI_at (by omega), show pl - 1 + 1 = pl by omega]
              refine ⟨_, _, _, _, rfl, nuMin3_int _ _ _, ?_⟩
              refine ⟨?_, rfl⟩
              rw [if_neg c] at ta'
              have ev : min (min ((kt D pl).2.getD t 0) ((kt D pl).1 - (tk D t pl - tk D (t + 1) (pl + 1)))) (tk D t (pl - 1) - tk D t pl) = tk D (t + 1) pl - tk D t pl := by omega
              rw [ev]
              rfl
        · rintro σ H8 ⟨v7, v12, v13, rfl, s8, hh8, hg8, hb8, R8⟩
          rw [eN] at hh8 R8
          rw [eN, Nat.sub_self]
          refine ⟨_, rfl, _, rfl, _, _, rfl, rfl, _, _, _, _, _, _, _, _, rfl, s8, by rw [← heldM_all]; exact hh8, ?_, hg8, fun q' r e => ?_⟩
          · rw [csum_step ht]
            omega
          · have z := R8 q' r e
            unfold rowT at z
            rw [if_pos (by omega)] at z
            exact z
      · rintro σ H4 ⟨wt, v7, v8, v9, v10, v11, v12, v13, rfl, s4, hh4, _, hg4, R4⟩
        rw [List.length_map] at R4
        refine ⟨_, rfl, q g rs H4 s4 ngH hg4 lr nd fun q' r e => ?_⟩
        obtain ⟨z1, z2, z3, z4⟩ := R4 q' r e
        exact ⟨by rw [z1]; show some (HO.lst (((rowI D q').take D.cs.length).map V.int)) = _; rw [List.take_of_length_le (by rw [row_len]; exact Nat.le_refl _)], z2, z4⟩

end
end KR
namespace KR
open PySem PySem.Spec PyProof.Rows L2
section
variable {P : Program} {w : World} {K : PySem.W.Frag} {mg : Str → Option Value} {base : Heap}
/-- what the law's own look holds within a thing -/
def PapW (D : Dy) (m : Int) (r : Bool) (ds : List PyData) (lv : V) (hour total : Int) : Prop :=
  (∃ pl t : Nat, lv = .int (pl : Int) ∧ hour = (t : Int) - 1 ∧ pl ≤ D.ks.length ∧ t ≤ D.cs.length ∧ walkP D m (some ((pl : Int), (t : Int) - 1)) total ds = r) ∨ (lv = .non ∧ walkP D m none total ds = r)
def sp_l_is_paper (K : PySem.W.Frag) : Sp := fun vs H Q _ => ∃ (p d : Addr) (x : DyP) (D : Dy) (m : Int) (Av : Addr → Prop) (B n : Nat) (v : V) (e : PyData), vs = [.ref d, .int m, v] ∧ DayAt K H p d x D ∧ x.pc = true ∧ x.pk = true ∧ DyOk D ∧ Tg K Av H B n v e ∧ ∀ H', Same H H' → Q (.bl (isPap D m e)) H'
theorem ok_l_is_paper (T : All K mg) : FnOk P w K mg base CX0 2 T.f_l_is_paper T.fd_l_is_paper ["_law_day_here", "_law_many", "_law_thing"] (sp_l_is_paper K) := by
  refine T.d_l_is_paper.fn.ok sc_l_is_paper (fun vs H Q E h => ?_) (fun cdv A outer s H vs Q E hr h => ?_)
  · obtain ⟨p, d, x, D, m, Av, B, n, v, e, rfl, _⟩ := h
    rfl
  · obtain ⟨p, d, x, D, m, Av, B, n, v, e, rfl, hD, xc, xk, O, hv, q⟩ := h
    refine ⟨_, (pss_cons (ps_asg (pv 0) (pg_tupK (K := K) rfl rfl (pgs_cons (pg_name (i := 3) sc_l_is_paper.nd rfl (by first | exact Or.inl rfl | exact Or.inr rfl)) (pgs_cons (pg_name (i := 4) sc_l_is_paper.nd rfl (by first | exact Or.inl rfl | exact Or.inr rfl)) (pgs_cons (pg_name (i := 5) sc_l_is_paper.nd rfl (by first | exact Or.inl rfl | exact Or.inr rfl)) pgs_nil)))))
      (pss_cons (ps_par3 (i := 6) (j := 7) (l := 8) (by rfl) sc_l_is_paper.nd rfl rfl rfl (by decide) (by decide) (by decide) rfl rfl rfl (pa_cons (pe_callB (lenQ (K := K) rfl) (by rfl) T.b_len PySem.boot_len (pa_cons (pv 4) pa_nil)) (pa_cons (pe_op op_sub (pe_callB (lenQ (K := K) rfl) (by rfl) T.b_len PySem.boot_len (pa_cons (pv 3) pa_nil)) pe_int) (pa_cons pe_int pa_nil))) (by rfl))
      (pss_cons (ps_if (pt_not (pt_val (pe_callB (isiK (K := K) rfl) (by rfl) T.b_isinstance (by decide +kernel) (pa_cons (pv 2) (pa_cons (pe_bltn (v := .ty "list") (by rfl) T.b_list (by decide +kernel) rfl) pa_nil))))) (pss_one (ps_ret pe_bl)) pss_nil)
      (pss_cons (ps_for PassesOwn.never rfl (pi_listK (K := K) rfl (pv 2)) (pg_name (i := 9) sc_l_is_paper.nd rfl (by first | exact Or.inl rfl | exact Or.inr rfl)) (pss_cons (ps_if (PW.pt (pw_or (pt_not (pt_val (pe_callB (isiK (K := K) rfl) (by rfl) T.b_isinstance (by decide +kernel) (pa_cons (pv 9) (pa_cons (pe_bltn (v := .ty "tuple") (by rfl) T.b_tuple (by decide +kernel) rfl) pa_nil))))) (pw_or (pt_cmpR op_ne (pe_callB (lenQ (K := K) rfl) (by rfl) T.b_len PySem.boot_len (pa_cons (pv 9) pa_nil)) pe_int (nomark _)) (pw_or (pt_not (pt_val (pe_callB (isiK (K := K) rfl) (by rfl) T.b_isinstance (by decide +kernel) (pa_cons (pe_ix (ixT (K := K) rfl) (pv 9) pe_int (fun _ _ => rfl)) (pa_cons (pe_bltn (v := .ty "str") (by rfl) T.b_str (by decide +kernel) rfl) pa_nil))))) (pw_or1 (pt_cmpR op_isN (pv 6) pe_non (nomark _))))))) (pss_one (ps_ret pe_bl)) pss_nil)
      (pss_cons (ps_if (PW.pt (pw_or (pt_not (pt_val (pe_call (ok_l_is_number T) hr (by rfl) T.d_l_is_number.mg T.d_l_is_number.fn.kp T.d_l_is_number.b .nil pass0 (pa_cons (pe_ix (ixT (K := K) rfl) (pv 9) pe_int (fun _ _ => rfl)) pa_nil)))) (pw_or (pt_not (pt_val (pe_call (ok_l_is_number T) hr (by rfl) T.d_l_is_number.mg T.d_l_is_number.fn.kp T.d_l_is_number.b .nil pass0 (pa_cons (pe_ix (ixT (K := K) rfl) (pv 9) pe_int (fun _ _ => rfl)) pa_nil)))) (pw_or1 (pt_cmpR (neDK (K := K) rfl hr.units) (pe_slice sl_tup (pv 9) (po_some pe_int) po_none) (pe_tupI (pa_cons (pv 6) (pa_cons (pv 7) pa_nil))) (nomark _)))))) (pss_one (ps_ret pe_bl)) pss_nil)
      (pss_cons (ps_set (i := 10) sc_l_is_paper.nd rfl (by first | exact Or.inl rfl | exact Or.inr rfl) (pe_ix (ixT (K := K) rfl) (pv 9) pe_int (fun _ _ => rfl)))
      (pss_cons (ps_if (PW.pt (pw_and (pt_cmpR op_eq (pv 7) (pe_un un_neg pe_int) (nomark _)) (pw_and1 (pt_cmpR op_ne (pv 10) pe_str (nomark _))))) (pss_one (ps_ret pe_bl)) pss_nil)
      (pss_one (ps_if (pt_cmpR op_eq (pv 7) (pe_un un_neg pe_int) (nomark _)) (pss_one (ps_set (i := 6) sc_l_is_paper.nd rfl (by first | exact Or.inl rfl | exact Or.inr rfl) pe_non)) (pss_one (ps_if (pt_cmpR op_eq (pv 10) pe_str (nomark _)) (pss_cons (ps_set (i := 8) sc_l_is_paper.nd rfl (by first | exact Or.inl rfl | exact Or.inr rfl) (pe_op op_add (pv 8) (pe_ix (ixQ (K := K) rfl) (pe_ifExp (pt_cmpR op_eq (pv 6) (pe_callB (lenQ (K := K) rfl) (by rfl) T.b_len PySem.boot_len (pa_cons (pv 4) pa_nil)) (nomark _)) (pv 5) (pe_ix (ixT (K := K) rfl) (pe_ix (ixL (K := K) rfl) (pv 4) (pv 6) (fun _ _ => rfl)) pe_int (fun _ _ => rfl))) (pv 7) (fun _ _ => rfl))))
      (pss_one (ps_set (i := 7) sc_l_is_paper.nd rfl (by first | exact Or.inl rfl | exact Or.inr rfl) (pe_op op_sub (pv 7) pe_int)))) (pss_one (ps_if (PW.pt (pw_and (pt_cmpR op_eq (pv 10) pe_str (nomark _)) (pw_and1 (pt_cmpR op_gt (pv 6) pe_int (nomark _))))) (pss_one (ps_par (i := 6) (j := 7) (by rfl) sc_l_is_paper.nd rfl rfl (by decide) rfl rfl (pa_cons (pe_op op_sub (pv 6) pe_int) (pa_cons (pe_op op_sub (pv 7) pe_int) pa_nil)) (by rfl))) (pss_one (ps_if (PW.pt (pw_and (pt_cmpR op_eq (pv 10) pe_str (nomark _)) (pw_and1 (pt_cmpR op_lt (pv 6) (pe_callB (lenQ (K := K) rfl) (by rfl) T.b_len PySem.boot_len (pa_cons (pv 4) pa_nil)) (nomark _))))) (pss_one (ps_par (i := 8) (j := 6) (by rfl) sc_l_is_paper.nd rfl rfl (by decide) rfl rfl (pa_cons (pe_op op_add (pv 8) (pe_ix (ixT (K := K) rfl) (pe_ix (ixL (K := K) rfl) (pv 4) (pv 6) (fun _ _ => rfl)) pe_int (fun _ _ => rfl))) (pa_cons (pe_op op_add (pv 6) pe_int) pa_nil)) (by rfl))) (pss_one (ps_if (PW.pt (pw_and (pt_cmpR op_eq (pv 10) pe_str (nomark _)) (pw_and1 (pt_cmpR op_eq (pv 6) pe_int (nomark _))))) (pss_one (ps_par (i := 8) (j := 6) (by rfl) sc_l_is_paper.nd rfl rfl (by decide) rfl rfl (pa_cons (pe_op op_add (pv 8) (pe_callB (sumBK (K := K) rfl rfl) (by rfl) T.b_sum (by decide +kernel) (pa_cons (pe_slice (slL (K := K) rfl) (pv 3) po_none (po_some (pe_op op_add (pv 7) pe_int))) pa_nil))) (pa_cons pe_non pa_nil)) (by rfl))) (pss_one (ps_ret pe_bl)))))))))))))))))
      (pss_one (ps_ret (pe_and (pe_cmpR op_isN (pv 6) pe_non (nomark _)) (pe_one (pe_cmpR op_eq (pv 8) (pv 1) (nomark _)))))))))), ?_⟩
    have h2 := O.h2
    have k2 := O.k2
    have hk0 : SqL K H x.k (x.as.map V.ref) := by
      have z := hD.ks
      rw [xk] at z
      exact z
    have hc0 : SqL K H x.c (D.cs.map V.int) := by
      have z := hD.cs.1
      rw [xc] at z
      exact z
    refine ⟨_, rfl, d, _, rfl, hD.at_, rfl, _, _, rfl, _, _, rfl, _, _, rfl, rfl, ?_⟩
    refine ⟨_, rfl, x.k, _, rfl, .inl hk0, _, rfl, x.c, _, rfl, .inl hc0, _, _, rfl, rfl, _, _, _, rfl, ?_⟩
    rw [List.length_map, List.length_map, hD.len]
    obtain ⟨ty, hty, kl, _, _, _, _⟩ := hv.ty
    refine ⟨_, rfl, _, _, _, _, _, rfl, .ty _, hty, kit_ty kl, ?_⟩
    cases el : isL e with
    | false =>
      have z : isPap D m e = false := by cases e <;> first | rfl | exact nomatch el
      rw [z] at q
      exact ⟨_, rfl, iteT (q _ (.refl _))⟩
    | true =>
    obtain ⟨f, xs, ds, n', rfl, rfl, rfl, hf, tg⟩ := hv.lstI el
    refine ⟨_, rfl, iteF ?_⟩
    generalize er : isPap D m (.list ds) = rr at q
    have er' : walkP D m (some ((D.ks.length : Int), (D.cs.length : Int) - 1)) 0 ds = rr := er
    refine ⟨_, rfl, f, rfl, ⟨_, SqL.of hf⟩, for_it (walk_list (K := K) (a := f) (xs := xs)) (fun j σ H' => ∃ (lv : V) (ho to : Int) (v9 v10 : Option V), σ = [some (.ref d), some (.int m), some (.ref f), some (.ref x.c), some (.ref x.k), some (.ref x.s), some lv, some (.int ho), some (.int to), v9, v10] ∧ Same H H' ∧ PapW D m rr (ds.drop j) lv ho to)
      ⟨_, _, _, none, none, rfl, .refl _, .inl ⟨D.ks.length, D.cs.length, rfl, rfl, Nat.le_refl _, Nat.le_refl _, er'⟩⟩ (fun j σ H' _ ⟨_, _, _, _, _, _, s, _⟩ => SqL.of (s _ _ hf)) ?_ ?_⟩
    · rintro j v σ H2 H3 hj ⟨lv, ho, to, v9, v10, rfl, s2, ld⟩ ⟨rfl, hv'⟩
      have hj2 : j < ds.length := by rw [← tg.1]; exact hj
      obtain ⟨x0, e, ex, ee, tx⟩ := (tg.same s2).at_ hj
      obtain rfl : v = x0 := Option.some.inj (hv'.symm.trans ex)
      have dj : ds.drop j = e :: ds.drop (j + 1) := by
        rw [List.drop_eq_getElem_cons hj2]
        rw [List.getElem?_eq_getElem hj2] at ee
        rw [Option.some.inj ee]
      rw [dj] at ld
      have hF : (∀ p h, bdW p h e = none) → rr = false := by
        rcases ld with ⟨pl, t, _, _, _, _, wk⟩ | ⟨_, wk⟩
        · intro z
          rw [walkP_cons] at wk
          simp only [z] at wk
          exact wk.symm
        · intro z
          exact wk.symm
      obtain ⟨ty, hty, _, kty, _, _, _⟩ := tx.ty
      refine ⟨_, rfl, _, _, _, _, _, rfl, .ty _, hty, kit_ty kty, ?_⟩
      cases e0 : isT e with
      | false =>
        rw [hF fun p h => bdW_T e0] at q
        exact ⟨_, rfl, iteT (q _ s2)⟩
      | true =>
      obtain ⟨r, ys, es, m', rfl, rfl, rfl, hr3, tg'⟩ := tx.tupI e0
      refine ⟨_, rfl, iteF ?_⟩
      refine ⟨_, rfl, r, _, rfl, .inr hr3, rfl, _, rfl, ?_⟩
      by_cases cl : ys.length = 3
      rotate_left
      · rw [decide_eq_false (show ¬ V.int (ys.length : Int) = V.int 3 from fun z => cl (by injection z with z; omega))]
        rw [hF fun p h => bdW_len (by rw [← tg'.1]; exact cl)] at q
        exact iteT (q _ s2)
      rw [decide_eq_true (show V.int (ys.length : Int) = V.int 3 by rw [cl] <;> rfl)]
      refine iteF ?_
      obtain ⟨x1, x2, x3, d1, d2, d3, rfl, rfl, t1, t2, t3⟩ := three tg' cl
      obtain ⟨ty1, hty1, _, _, _, _, ks⟩ := t1.ty
      refine ⟨_, rfl, r, _, 0, _, rfl, rfl, hr3, at0, _, _, _, _, _, rfl, .ty _, hty1, kit_ty ks, ?_⟩
      cases e1 : isS d1 with
      | false =>
        rw [hF fun p h => bdW_no (.inl e1)] at q
        exact ⟨_, rfl, iteT (q _ s2)⟩
      | true =>
      refine ⟨_, rfl, iteF ?_⟩
      rcases ld with ⟨pl, t, rfl, rfl, hpl, ht, wk⟩ | ⟨rfl, wk⟩
      rotate_left
      · have wk : false = rr := wk
        subst wk
        refine ⟨_, rfl, rfl, _, rfl, iteT ?_⟩
        exact q _ s2
      refine ⟨_, rfl, rfl, _, rfl, iteF ?_⟩
      refine ⟨_, rfl, r, _, 1, _, rfl, rfl, hr3, at1, Av, B, m', x2, d2, rfl, t2, ?_⟩
      cases e2 : isI d2 with
      | false =>
        rw [hF fun p h => bdW_no (.inr (.inl e2))] at q
        exact ⟨_, rfl, iteT (q _ s2)⟩
      | true =>
      refine ⟨_, rfl, iteF ?_⟩
      refine ⟨_, rfl, r, _, 2, _, rfl, rfl, hr3, at2, Av, B, m', x3, d3, rfl, t3, ?_⟩
      cases e3 : isI d3 with
      | false =>
        rw [hF fun p h => bdW_no (.inr (.inr e3))] at q
        exact ⟨_, rfl, iteT (q _ s2)⟩
      | true =>
      refine ⟨_, rfl, iteF ?_⟩
      obtain ⟨w, rfl, rfl⟩ := t1.strI e1
      obtain ⟨i2, rfl, rfl, _⟩ := t2.intI e2
      obtain ⟨i3, rfl, rfl, _⟩ := t3.intI e3
      refine ⟨_, rfl, _, rfl, r, _, rfl, hr3, by show ¬ (HT.sIx 3 0 (some 1) = 0 ∧ HT.sIx 3 3 none = 3); decide, fun u1 nt1 => ?_⟩
      have s4 : Same H3 (upd H3 u1 (.tup (cutV [V.str w, V.int i2, V.int i3] (some 1) none))) := same_new nt1
      have ht1 : (upd H3 u1 (.tup (cutV [V.str w, V.int i2, V.int i3] (some 1) none))) u1 = some (.tup [.int i2, .int i3]) := upd_same
      generalize upd H3 u1 (.tup (cutV [V.str w, V.int i2, V.int i3] (some 1) none)) = H4 at s4 ht1
      refine ⟨_, rfl, _, rfl, rfl, fun u2 H5 s5 n5 h5 => ⟨.tuple [.int i2, .int i3], .tuple [.int (pl : Int), .int ((t : Int) - 1)], dp_pair (s5 _ _ ht1), dp_pair h5, rfl, rfl, ?_⟩⟩
      rw [eqv_pair]
      have s35 := s4.trans s5
      have s05 := s2.trans s35
      by_cases ci : i2 = (pl : Int) ∧ i3 = (t : Int) - 1
      rotate_left
      · rw [decide_eq_false ci]
        rw [walkP_cons] at wk
        have ew : bdW (pl : Int) ((t : Int) - 1) (.tuple [.str w, .int i2, .int i3]) = none := if_neg ci
        simp only [ew] at wk
        subst wk
        exact ⟨_, rfl, iteT (q _ s05)⟩
      rw [decide_eq_true ci]
      refine ⟨_, rfl, iteF ?_⟩
      rw [walkP_cons] at wk
      have ew : bdW (pl : Int) ((t : Int) - 1) (.tuple [.str w, .int i2, .int i3]) = some w := if_pos ci
      simp only [ew] at wk
      rw [Int.toNat_natCast, show ((t : Int) - 1 + 1).toNat = t by omega] at wk
      refine ⟨_, rfl, r, _, 0, _, rfl, rfl, Same.tup s35 hr3, at0, ?_⟩
      have hD5 := hD.same s05
      have hk5 := Same.seq s05 hk0
      have hc5 := Same.seq s05 hc0
      refine ⟨_, rfl, _, rfl, rfl, _, rfl, ?_⟩
      cases es : stepP D pl t w with
      | none =>
        simp only [es] at wk
        subst wk
        have non := stepP_none es
        cases t with
        | zero =>
          rw [decide_eq_true (show V.int (((0 : Nat) : Int) - 1) = V.int (-1) from rfl)]
          refine iteT ?_
          refine ⟨_, rfl, rfl, _, rfl, ?_⟩
          rw [decide_eq_false (show ¬ V.str w = V.str "begin" from fun z => non ⟨"begin", none, 0⟩ List.mem_cons_self (by injection z with z; exact z.symm))]
          exact iteT (q _ s05)
        | succ t =>
          have hz : decide (V.int (((t + 1 : Nat) : Int) - 1) = V.int (-1)) = false := decide_eq_false fun e => by injection e with e; omega
          rw [hz]
          refine iteF ?_
          refine ⟨_, rfl, _, rfl, rfl, _, rfl, ?_⟩
          rw [hz]
          refine iteF ?_
          have mT : (⟨"takes", some ((pl : Int), (t : Int) - 1), if pl = D.ks.length then D.ss.getD t 0 else (kt D pl).2.getD t 0⟩ : Bd) ∈ bnds D pl (t + 1) := by
            by_cases c : pl = D.ks.length
            · rw [show bnds D pl (t + 1) = [firstB D pl t, ⟨"takes", some ((pl : Int), (t : Int) - 1), D.ss.getD t 0⟩] from if_pos c, if_pos c]
              exact List.mem_cons_of_mem _ List.mem_cons_self
            · rw [show bnds D pl (t + 1) = [firstB D pl t, ⟨"takes", some ((pl : Int), (t : Int) - 1), (kt D pl).2.getD t 0⟩, ⟨"room", some ((pl : Int) + 1, (t : Int)), (kt D pl).1⟩] from if_neg c, if_neg c]
              exact List.mem_cons_of_mem _ List.mem_cons_self
          have mF : firstB D pl t ∈ bnds D pl (t + 1) := by
            by_cases c : pl = D.ks.length
            · rw [show bnds D pl (t + 1) = [firstB D pl t, ⟨"takes", some ((pl : Int), (t : Int) - 1), D.ss.getD t 0⟩] from if_pos c]
              exact List.mem_cons_self
            · rw [show bnds D pl (t + 1) = [firstB D pl t, ⟨"takes", some ((pl : Int), (t : Int) - 1), (kt D pl).2.getD t 0⟩, ⟨"room", some ((pl : Int) + 1, (t : Int)), (kt D pl).1⟩] from if_neg c]
              exact List.mem_cons_self
          have nT : w ≠ "takes" := fun z => non _ mT z.symm
          have nA : w = "ahead" → pl = 0 := fun z => by
            by_cases c : pl = 0
            · exact c
            · have := non _ mF
              rw [show firstB D pl t = ⟨"ahead", some ((pl : Int) - 1, (t : Int) - 1), 0⟩ from if_neg c] at this
              exact absurd z.symm this
          have nC : w = "comes" → pl ≠ 0 := fun z c => by
            have := non _ mF
            rw [show firstB D pl t = ⟨"comes", none, csum D (t + 1)⟩ from if_pos c] at this
            exact absurd z.symm this
          have nR : w = "room" → pl = D.ks.length := fun z => by
            by_cases c : pl = D.ks.length
            · exact c
            · exact absurd z.symm (non ⟨"room", some ((pl : Int) + 1, (t : Int)), (kt D pl).1⟩ (by
                rw [show bnds D pl (t + 1) = [firstB D pl t, ⟨"takes", some ((pl : Int), (t : Int) - 1), (kt D pl).2.getD t 0⟩, ⟨"room", some ((pl : Int) + 1, (t : Int)), (kt D pl).1⟩] from if_neg c]
                exact List.mem_cons_of_mem _ (List.mem_cons_of_mem _ List.mem_cons_self)))
          have sne : ∀ {a b : Str}, a ≠ b → decide (V.str a = V.str b) = false := fun {a b} n => decide_eq_false fun z => n (by injection z)
          refine ⟨_, rfl, rfl, _, rfl, ?_⟩
          rw [sne nT]
          refine iteF ?_
          refine ⟨_, rfl, rfl, _, rfl, ?_⟩
          by_cases wa : w = "ahead"
          · have p0 := nA wa
            subst p0
            subst wa
            rw [decide_eq_true rfl]
            refine iteT ?_
            refine ⟨_, rfl, _, _, rfl, rfl, _, rfl, ite_bF (decide_eq_false (by omega)) ?_⟩
            refine ⟨_, rfl, rfl, _, rfl, ?_⟩
            rw [show decide (V.str ("ahead" : Str) = V.str ("room" : Str)) = false by decide +kernel]
            refine iteF ?_
            refine ⟨_, rfl, rfl, _, rfl, ?_⟩
            rw [show decide (V.str ("ahead" : Str) = V.str ("comes" : Str)) = false by decide +kernel]
            exact iteF (q _ s05)
          rw [sne wa]
          refine iteF ?_
          refine ⟨_, rfl, rfl, _, rfl, ?_⟩
          by_cases wr : w = "room"
          · have p0 := nR wr
            subst wr
            rw [decide_eq_true rfl]
            refine iteT ?_
            refine ⟨_, rfl, _, rfl, x.k, _, rfl, .inl hk5, ?_⟩
            rw [List.length_map, hD.len]
            refine ⟨_, _, rfl, rfl, _, rfl, ite_bF (decide_eq_false (by omega)) ?_⟩
            refine ⟨_, rfl, rfl, _, rfl, ?_⟩
            rw [show decide (V.str ("room" : Str) = V.str ("comes" : Str)) = false by decide +kernel]
            exact iteF (q _ s05)
          rw [sne wr]
          refine iteF ?_
          refine ⟨_, rfl, rfl, _, rfl, ?_⟩
          by_cases wc : w = "comes"
          · have p0 := nC wc
            subst wc
            rw [decide_eq_true rfl]
            refine iteT ?_
            refine ⟨_, rfl, rfl, _, rfl, ?_⟩
            exact ite_iF (by omega) (q _ s05)
          · rw [sne wc]
            exact iteF (q _ s05)
      | some b =>
        simp only [es] at wk
        obtain ⟨mb, hw⟩ := stepP_some es
        have finN : b.lead = none → ∀ ho', PapW D m rr (ds.drop (j + 1)) .non ho' (to + b.more) := fun z ho' => by
          rw [z] at wk
          exact .inr ⟨rfl, wk⟩
        have finS : ∀ p' h', b.lead = some (p', h') → PapW D m rr (ds.drop (j + 1)) (.int p') h' (to + b.more) := fun p' h' z => by
          obtain ⟨pn, tn, ey, hp', ht'⟩ := lead_in hpl mb z
          obtain ⟨rfl, rfl⟩ := Prod.mk.inj ey
          rw [z] at wk
          exact .inl ⟨pn, tn, rfl, rfl, hp', by omega, wk⟩
        cases t with
        | zero =>
          have eb : b = ⟨"begin", none, 0⟩ := List.mem_singleton.mp mb
          subst eb
          obtain rfl : ("begin" : Str) = w := hw
          rw [decide_eq_true (show V.int (((0 : Nat) : Int) - 1) = V.int (-1) from rfl)]
          refine iteT ?_
          refine ⟨_, rfl, rfl, _, rfl, ?_⟩
          rw [decide_eq_true rfl]
          refine iteF ?_
          refine ⟨_, rfl, _, rfl, rfl, _, rfl, ?_⟩
          rw [decide_eq_true (show V.int (((0 : Nat) : Int) - 1) = V.int (-1) from rfl)]
          refine iteT ?_
          have z : PapW D m rr (ds.drop (j + 1)) .non (((0 : Nat) : Int) - 1) (to + 0) := finN rfl _
          rw [Int.add_zero] at z
          exact ⟨_, _, _, _, _, rfl, s05, z⟩
        | succ t =>
          have hz : decide (V.int (((t + 1 : Nat) : Int) - 1) = V.int (-1)) = false := decide_eq_false fun e => by injection e with e; omega
          rw [hz]
          refine iteF ?_
          refine ⟨_, rfl, _, rfl, rfl, _, rfl, ?_⟩
          rw [hz]
          refine iteF ?_
          have kinds : b = firstB D pl t ∨ (b = ⟨"takes", some ((pl : Int), (t : Int) - 1), if pl = D.ks.length then D.ss.getD t 0 else (kt D pl).2.getD t 0⟩) ∨ (pl < D.ks.length ∧ b = ⟨"room", some ((pl : Int) + 1, (t : Int)), (kt D pl).1⟩) := by
            by_cases c : pl = D.ks.length
            · rw [show bnds D pl (t + 1) = [firstB D pl t, ⟨"takes", some ((pl : Int), (t : Int) - 1), D.ss.getD t 0⟩] from if_pos c] at mb
              rcases List.mem_cons.mp mb with z | z
              · exact .inl z
              · rw [if_pos c]
                exact .inr (.inl (List.mem_singleton.mp z))
            · rw [show bnds D pl (t + 1) = [firstB D pl t, ⟨"takes", some ((pl : Int), (t : Int) - 1), (kt D pl).2.getD t 0⟩, ⟨"room", some ((pl : Int) + 1, (t : Int)), (kt D pl).1⟩] from if_neg c] at mb
              rcases List.mem_cons.mp mb with z | z
              · exact .inl z
              · rcases List.mem_cons.mp z with z | z
                · rw [if_neg c]
                  exact .inr (.inl z)
                · exact .inr (.inr ⟨by omega, List.mem_singleton.mp z⟩)
          rcases kinds with eb | eb | ⟨lt, eb⟩
          · by_cases c0 : pl = 0
            · -- what comes
              have eb : b = ⟨"comes", none, csum D (t + 1)⟩ := eb.trans (if_pos c0)
              subst eb
              subst c0
              obtain rfl : ("comes" : Str) = w := hw
              refine ⟨_, rfl, rfl, _, rfl, ?_⟩
              rw [show decide (V.str ("comes" : Str) = V.str ("takes" : Str)) = false by decide +kernel]
              refine iteF ?_
              refine ⟨_, rfl, rfl, _, rfl, ?_⟩
              rw [show decide (V.str ("comes" : Str) = V.str ("ahead" : Str)) = false by decide +kernel]
              refine iteF ?_
              refine ⟨_, rfl, rfl, _, rfl, ?_⟩
              rw [show decide (V.str ("comes" : Str) = V.str ("room" : Str)) = false by decide +kernel]
              refine iteF ?_
              refine ⟨_, rfl, rfl, _, rfl, ?_⟩
              rw [decide_eq_true rfl]
              refine iteT ?_
              refine ⟨_, rfl, rfl, _, rfl, ?_⟩
              rw [decide_eq_true (show V.int ((0 : Nat) : Int) = V.int 0 from rfl)]
              refine iteT ?_
              refine ⟨_, rfl, _, rfl, _, rfl, _, _, rfl, rfl, _, rfl, x.c, _, rfl, hc5, fun c H6 s6 n6 h6 => ?_⟩
              rw [show ((t + 1 : Nat) : Int) - 1 + 1 = ((t + 1 : Nat) : Int) by omega, cut_to' (by rw [List.length_map]; omega), ← List.map_take] at h6
              refine ⟨c, _, true, rfl, SqL.of h6, _, _, rfl, rfl, _, _, rfl, ?_⟩
              exact ⟨_, _, _, _, _, rfl, s05.trans s6, finN rfl _⟩
            · -- from the place ahead
              have eb : b = ⟨"ahead", some ((pl : Int) - 1, (t : Int) - 1), 0⟩ := eb.trans (if_neg c0)
              subst eb
              obtain rfl : ("ahead" : Str) = w := hw
              refine ⟨_, rfl, rfl, _, rfl, ?_⟩
              rw [show decide (V.str ("ahead" : Str) = V.str ("takes" : Str)) = false by decide +kernel]
              refine iteF ?_
              refine ⟨_, rfl, rfl, _, rfl, ?_⟩
              rw [decide_eq_true rfl]
              refine iteT ?_
              refine ⟨_, rfl, _, _, rfl, rfl, _, rfl, ite_bT (decide_eq_true (by omega)) ?_⟩
              refine ⟨_, rfl, _, _, rfl, rfl, _, rfl, _, _, rfl, rfl, _, _, rfl, ?_⟩
              have z : PapW D m rr (ds.drop (j + 1)) (.int ((pl : Int) - 1)) ((t : Int) - 1) (to + 0) := finS _ _ rfl
              rw [Int.add_zero, show (t : Int) - 1 = ((t + 1 : Nat) : Int) - 1 - 1 by omega] at z
              exact ⟨_, _, _, _, _, rfl, s05, z⟩
          · -- what the place takes
            subst eb
            obtain rfl : ("takes" : Str) = w := hw
            refine ⟨_, rfl, rfl, _, rfl, ?_⟩
            rw [decide_eq_true rfl]
            refine iteT ?_
            refine ⟨_, rfl, _, rfl, _, rfl, x.k, _, rfl, .inl hk5, ?_⟩
            rw [List.length_map, hD.len]
            refine ⟨rfl, _, rfl, ?_⟩
            have z : PapW D m rr (ds.drop (j + 1)) (.int (pl : Int)) ((t : Int) - 1) (to + if pl = D.ks.length then D.ss.getD t 0 else (kt D pl).2.getD t 0) := finS _ _ rfl
            rw [show (t : Int) - 1 = ((t + 1 : Nat) : Int) - 1 - 1 by omega] at z
            by_cases c : pl = D.ks.length
            · rw [if_pos c] at z
              refine ite_bT (decide_eq_true (by rw [c])) ?_
              refine ⟨_, rfl, _, rfl, ix_b (i := t) hD5.ss.1 (by omega) (ints_get (by rw [O.sl]; omega)) ?_⟩
              refine ⟨_, _, rfl, rfl, ?_⟩
              refine ⟨_, rfl, _, _, rfl, rfl, ?_⟩
              exact ⟨_, _, _, _, _, rfl, s05, z⟩
            · rw [if_neg c] at z
              refine ite_bF (decide_eq_false fun e => c (by injection e with e; omega)) ?_
              obtain ⟨ka, tk', b', gk, hka, hta⟩ := hD5.pot (j := pl) (by omega)
              refine ⟨_, rfl, _, rfl, x.k, _, _, _, rfl, rfl, hk5, at_of rfl gk, ka, _, 1, _, rfl, rfl, hka, at1, _, rfl, ix_b (i := t) hta.1 (by omega) (ints_get (by rw [kt_len O (by omega)]; omega)) ?_⟩
              refine ⟨_, _, rfl, rfl, ?_⟩
              refine ⟨_, rfl, _, _, rfl, rfl, ?_⟩
              exact ⟨_, _, _, _, _, rfl, s05, z⟩
          · -- its room
            subst eb
            obtain rfl : ("room" : Str) = w := hw
            refine ⟨_, rfl, rfl, _, rfl, ?_⟩
            rw [show decide (V.str ("room" : Str) = V.str ("takes" : Str)) = false by decide +kernel]
            refine iteF ?_
            refine ⟨_, rfl, rfl, _, rfl, ?_⟩
            rw [show decide (V.str ("room" : Str) = V.str ("ahead" : Str)) = false by decide +kernel]
            refine iteF ?_
            refine ⟨_, rfl, rfl, _, rfl, ?_⟩
            rw [decide_eq_true rfl]
            refine iteT ?_
            refine ⟨_, rfl, _, rfl, x.k, _, rfl, .inl hk5, ?_⟩
            rw [List.length_map, hD.len]
            refine ⟨_, _, rfl, rfl, _, rfl, ite_bT (decide_eq_true (by omega)) ?_⟩
            obtain ⟨ka, tk', b', gk, hka, hta⟩ := hD5.pot (j := pl) lt
            refine ⟨_, rfl, _, rfl, _, rfl, x.k, _, _, _, rfl, rfl, hk5, at_of rfl gk, ka, _, 0, _, rfl, rfl, hka, at0, _, _, rfl, rfl, _, rfl, _, _, rfl, rfl, _, _, rfl, ?_⟩
            have z : PapW D m rr (ds.drop (j + 1)) (.int ((pl : Int) + 1)) (t : Int) (to + (kt D pl).1) := finS _ _ rfl
            rw [show (t : Int) = ((t + 1 : Nat) : Int) - 1 by omega] at z
            exact ⟨_, _, _, _, _, rfl, s05, z⟩
    · rintro σ H2 ⟨lv, ho, to, v9, v10, rfl, s2, ld⟩
      rw [tg.1, List.drop_length] at ld
      rcases ld with ⟨pl, t, rfl, rfl, hpl, ht, wk⟩ | ⟨rfl, wk⟩
      · have wk : false = rr := wk
        subst wk
        refine ⟨_, rfl, rfl, _, rfl, iteF ?_⟩
        exact q _ s2
      · have wk : (true && decide (to = m)) = rr := wk
        subst wk
        refine ⟨_, rfl, rfl, _, rfl, iteT ?_⟩
        refine ⟨_, rfl, _, rfl, rfl, ?_⟩
        have z := q _ s2
        by_cases c : to = m
        · rw [decide_eq_true c] at z
          rw [decide_eq_true (show V.int to = V.int m by rw [c])]
          exact z
        · rw [decide_eq_false c] at z
          rw [decide_eq_false (show ¬ V.int to = V.int m from fun e => c (by injection e))]
          exact z

end
end KR
namespace KR
open PySem PySem.Spec PyProof.Rows L2
section
variable {P : Program} {w : World} {K : PySem.W.Frag} {mg : Str → Option Value} {base : Heap}
def sp_l_put (K : PySem.W.Frag) : Sp := fun vs H Q _ => ∃ (p d : Addr) (nb : Nat) (y : DyR) (D : Dy), vs = [.ref p, .ref d] ∧ BoxAt H p nb ∧ nb ≤ 999000000 ∧ DayM K H d y D ∧ (∀ a ∈ y.all, a ≠ p) ∧ DyOk D ∧ DyNn D ∧
  ∀ (y' : DyR) (D' : Dy) (H' : Hp), DayM K H' d y' D' → (∀ a, a ∈ y'.all → a ∈ y.all) → DyOk D' → DyNn D' → D'.cs.length = D.cs.length → D'.ks.length = D.ks.length → BoxAt H' p (nb + 10) → Fm (fun a => a = p ∨ a ∈ y.all) H H' → Q .non H'
theorem ok_l_put (T : All K mg) : FnOk P w K mg base CX0 2 T.f_l_put T.fd_l_put ["_law_box_here", "_law_day_here"] (sp_l_put K) := by
  refine T.d_l_put.fn.ok sc_l_put (fun vs H Q E h => ?_) (fun cdv A outer s H vs Q E hr h => ?_)
  · obtain ⟨p, d, nb, y, D, rfl, _⟩ := h
    rfl
  · obtain ⟨p, d, nb, y, D, rfl, hB, hn, hD, np, O, N, q⟩ := h
    refine ⟨_, (pss_cons (ps_asg (pv 1) (pg_tupK (K := K) rfl rfl (pgs_cons (pg_name (i := 2) sc_l_put.nd rfl (by first | exact Or.inl rfl | exact Or.inr rfl)) (pgs_cons (pg_name (i := 3) sc_l_put.nd rfl (by first | exact Or.inl rfl | exact Or.inr rfl)) (pgs_cons (pg_name (i := 4) sc_l_put.nd rfl (by first | exact Or.inl rfl | exact Or.inr rfl)) pgs_nil)))))
      (pss_cons (ps_par3 (i := 5) (j := 6) (l := 7) (by rfl) sc_l_put.nd rfl rfl rfl (by decide) (by decide) (by decide) rfl rfl rfl (pa_cons (pe_call (ok_l_take T) hr (by rfl) T.d_l_take.mg T.d_l_take.fn.kp T.d_l_take.b .nil pass0 (pa_cons (pv 0) (pa_cons pe_int pa_nil))) (pa_cons (pe_call (ok_l_take T) hr (by rfl) T.d_l_take.mg T.d_l_take.fn.kp T.d_l_take.b .nil pass0 (pa_cons (pv 0) (pa_cons (pe_callB (lenQ (K := K) rfl) (by rfl) T.b_len PySem.boot_len (pa_cons (pv 3) pa_nil)) pa_nil))) (pa_cons (pe_call (ok_l_take T) hr (by rfl) T.d_l_take.mg T.d_l_take.fn.kp T.d_l_take.b .nil pass0 (pa_cons (pv 0) (pa_cons (pe_callB (lenQ (K := K) rfl) (by rfl) T.b_len PySem.boot_len (pa_cons (pv 2) pa_nil)) pa_nil))) pa_nil))) (by rfl))
      (pss_one (ps_if (pt_cmpR op_eq (pv 5) pe_int (nomark _)) (pss_cons (ps_set (i := 8) sc_l_put.nd rfl (by first | exact Or.inl rfl | exact Or.inr rfl) (pe_call (ok_l_take T) hr (by rfl) T.d_l_take.mg T.d_l_take.fn.kp T.d_l_take.b .nil pass0 (pa_cons (pv 0) (pa_cons (pe_callB (lenQ (K := K) rfl) (by rfl) T.b_len PySem.boot_len (pa_cons (pv 3) pa_nil)) pa_nil))))
      (pss_one (ps_asg (pe_tupI (pa_cons (pe_ix (ixL (K := K) rfl) (pv 3) (pv 8) (fun _ _ => rfl)) (pa_cons (pe_ix (ixL (K := K) rfl) (pv 3) (pv 6) (fun _ _ => rfl)) pa_nil))) (pg_tupK (K := K) rfl rfl (pgs_cons (pg_sub (pv 3) (pv 6) set_list) (pgs_cons (pg_sub (pv 3) (pv 8) set_list) pgs_nil)))))) (pss_cons (ps_set (i := 9) sc_l_put.nd rfl (by first | exact Or.inl rfl | exact Or.inr rfl) (pe_ix (ixL (K := K) rfl) (pe_lstI (pa_cons (pv 2) (pa_cons (pv 4) (pa_cons (pe_ix (ixT (K := K) rfl) (pe_ix (ixL (K := K) rfl) (pv 3) (pv 6) (fun _ _ => rfl)) pe_int (fun _ _ => rfl)) pa_nil)))) (pv 5) (fun _ _ => rfl)))
      (pss_one (ps_asg (pe_call (ok_l_take T) hr (by rfl) T.d_l_take.mg T.d_l_take.fn.kp T.d_l_take.b .nil pass0 (pa_cons (pv 0) (pa_cons pe_int pa_nil))) (pg_sub (pv 9) (pv 7) set_list)))))))), ?_⟩
    have k1 := O.k1
    have k2 := O.k2
    have h1 := O.h1
    have h2 := O.h2
    refine ⟨_, rfl, d, _, rfl, hD.at_, rfl, _, _, rfl, _, _, rfl, _, _, rfl, rfl, ?_⟩
    have pc := np _ DyR.mc
    have pk := np _ DyR.mk_
    have ps := np _ DyR.ms
    refine ⟨_, rfl, p, 4, nb, rfl, hB, by omega, by decide, by decide, fun way H1 w0 w1 B1 F1 => ?_⟩
    have hD1 := hD.fr hB F1 np
    refine ⟨_, rfl, _, rfl, y.k, _, rfl, .inl (SqL.of hD1.ks), ?_⟩
    rw [List.length_map, hD.la]
    refine ⟨p, (D.ks.length : Int), _, rfl, B1, by omega, by omega, by omega, fun pl H2 p0 p1 B2 F2 => ?_⟩
    have hD2 := hD1.fr B1 F2 np
    refine ⟨_, rfl, _, rfl, y.c, _, rfl, .inl (SqL.of hD2.cs), ?_⟩
    rw [List.length_map]
    refine ⟨p, (D.cs.length : Int), _, rfl, B2, by omega, by omega, by omega, fun hr' H3 r0 r1 B3 F3 => ?_⟩
    have hD3 := hD2.fr B2 F3 np
    have F03 : Fr p H H3 := F1.trans (F2.trans F3)
    obtain ⟨u, rfl⟩ : ∃ u : Nat, pl = (u : Int) := ⟨pl.toNat, by omega⟩
    obtain ⟨i, rfl⟩ : ∃ i : Nat, hr' = (i : Int) := ⟨hr'.toNat, by omega⟩
    have ul : u < D.ks.length := by omega
    have il : i < D.cs.length := by omega
    obtain ⟨ai, ea⟩ : ∃ a, y.as[u]? = some a := ⟨y.as[u]'(by rw [hD.la]; exact ul), List.getElem?_eq_getElem _⟩
    obtain ⟨ti, et⟩ : ∃ a, y.ts[u]? = some a := ⟨y.ts[u]'(by rw [hD.lt]; exact ul), List.getElem?_eq_getElem _⟩
    obtain ⟨ki, ek⟩ : ∃ a, D.ks[u]? = some a := ⟨D.ks[u], List.getElem?_eq_getElem _⟩
    refine ⟨_, _, _, rfl, ?_⟩
    refine ⟨_, rfl, rfl, _, rfl, ?_⟩
    by_cases c : way = 3
    · refine ite_bT (decide_eq_true (by rw [c])) ?_
      refine ⟨_, rfl, _, rfl, y.k, _, rfl, .inl (SqL.of hD3.ks), ?_⟩
      rw [List.length_map, hD.la]
      refine ⟨p, (D.ks.length : Int), _, rfl, B3, by omega, by omega, by omega, fun ot H4 o0 o1 B4 F4 => ?_⟩
      have hD4 := hD3.fr B3 F4 np
      obtain ⟨j, rfl⟩ : ∃ j : Nat, ot = (j : Int) := ⟨ot.toNat, by omega⟩
      have jl : j < D.ks.length := by omega
      obtain ⟨aj, ea2⟩ : ∃ a, y.as[j]? = some a := ⟨y.as[j]'(by rw [hD.la]; exact jl), List.getElem?_eq_getElem _⟩
      obtain ⟨tj, et2⟩ : ∃ a, y.ts[j]? = some a := ⟨y.ts[j]'(by rw [hD.lt]; exact jl), List.getElem?_eq_getElem _⟩
      obtain ⟨kj, ek2⟩ : ∃ a, D.ks[j]? = some a := ⟨D.ks[j], List.getElem?_eq_getElem _⟩
      refine ⟨_, rfl, _, rfl, y.k, _, (j : Int), .ref aj, rfl, rfl, SqL.of hD4.ks, at_of (j := j) rfl (by rw [List.getElem?_map, ea2] <;> rfl), ?_⟩
      refine ⟨_, rfl, _, rfl, y.k, _, (u : Int), .ref ai, rfl, rfl, SqL.of hD4.ks, at_of (j := u) rfl (by rw [List.getElem?_map, ea] <;> rfl), ?_⟩
      refine ⟨rfl, fun tp H5 s5 n5 h5 => ?_⟩
      have hk5 := s5 _ _ hD4.ks
      refine ⟨tp, _, rfl, SqT.of h5, rfl, ?_⟩
      have hD5 := hD4.sm (.of s5)
      refine ⟨_, _, rfl, _, rfl, _, rfl, y.k, _, (u : Int), u, rfl, rfl, hk5, ixN_at (by rw [List.length_map, hD.la]; exact ul), ?_⟩
      refine ⟨_, _, rfl, _, rfl, _, rfl, y.k, _, (j : Int), j, rfl, rfl, upd_same, ixN_at (by rw [List.length_set, List.length_map, hD.la]; exact jl), rfl, ?_⟩
      have ex : ((y.as.map V.ref).set u (.ref aj)).set j (.ref ai) = ((y.as.set u aj).set j ai).map V.ref := by rw [List.map_set, List.map_set]
      rw [ex]
      have FK : Fr y.k H5 (upd (upd H5 y.k (.lst ((y.as.map V.ref).set u (.ref aj)))) y.k (.lst (((y.as.set u aj).set j ai).map V.ref))) := fr_upd.trans fr_upd
      have B5 := B4.same s5
      refine q _ _ _ (hD5.swap ea ea2 et et2 ek ek2 FK upd_same) (all_sub fun t m => sw_mem et et2 m) ⟨O.h1, O.h2, by rw [List.length_set, List.length_set]; exact k1, by rw [List.length_set, List.length_set]; exact k2, fun k hk => O.ts k (sw_mem ek ek2 hk), O.sl⟩ ⟨N.cs, fun k hk => N.ks k (sw_mem ek ek2 hk), N.ss⟩ rfl (by rw [List.length_set, List.length_set]) ?_ ?_
      · exact (((B5.upd pk).upd pk).mono (by omega))
      · have f1 : Fm (fun a => a = p ∨ a ∈ y.all) H H4 := .fr (.inl rfl) (F03.trans F4) hB B4
        exact (f1.trans (.of s5)).trans ((Fm.put (.inr DyR.mk_) hk5).trans (Fm.put (.inr DyR.mk_) upd_same))
    · refine ite_bF (decide_eq_false fun z => c (by injection z)) ?_
      refine ⟨_, rfl, _, rfl, _, rfl, _, rfl, y.k, _, (u : Int), .ref ai, rfl, rfl, SqL.of hD3.ks, at_of (j := u) rfl (by rw [List.getElem?_map, ea] <;> rfl), ?_⟩
      refine ⟨ai, _, 1, _, rfl, rfl, (hD3.pot u ai ti ki ea et ek).1, at1, rfl, fun l1 H4 s4 n4 h4 => ?_⟩
      obtain ⟨qa, mv, D', e, mq, lq, hq, put⟩ : ∃ (qa : Addr) (mv : List Int) (D' : Int → Dy), atI ([.ref y.c, .ref y.s, .ref ti] : List V) way = some (.ref qa) ∧ qa ∈ y.all ∧ i < mv.length ∧ (∀ H, DayM K H d y D → H qa = some (.lst (mv.map V.int))) ∧ (∀ H z, DayM K H d y D → 0 ≤ z → z < 9 → DayM K (upd H qa (.lst ((mv.map V.int).set i (.int z)))) d y (D' z) ∧ DyOk (D' z) ∧ DyNn (D' z) ∧ (D' z).cs.length = D.cs.length ∧ (D' z).ks.length = D.ks.length) := by
        have cs : way = 0 ∨ way = 1 ∨ way = 2 := by omega
        rcases cs with e | e | e <;> subst e
        · exact ⟨y.c, D.cs, fun z => ⟨D.cs.set i z, D.ks, D.ss⟩, rfl, DyR.mc, il, fun H h => h.cs, fun H z h z0 z1 => ⟨h.putC, ⟨by rw [List.length_set]; exact h1, by rw [List.length_set]; exact h2, k1, k2, fun k hk => by rw [List.length_set]; exact O.ts k hk, by rw [List.length_set]; exact O.sl⟩, ⟨ldl_set N.cs z0 (by omega), N.ks, N.ss⟩, List.length_set, rfl⟩⟩
        · exact ⟨y.s, D.ss, fun z => ⟨D.cs, D.ks, D.ss.set i z⟩, rfl, DyR.ms, by rw [O.sl]; exact il, fun H h => h.ss, fun H z h z0 z1 => ⟨h.putS, ⟨h1, h2, k1, k2, O.ts, by rw [List.length_set]; exact O.sl⟩, ⟨N.cs, N.ks, ldl_set N.ss z0 (by omega)⟩, rfl, rfl⟩⟩
        · have ok := N.ks ki (List.mem_of_getElem? ek)
          have ol := O.ts ki (List.mem_of_getElem? ek)
          exact ⟨ti, ki.2, fun z => ⟨D.cs, D.ks.set u (ki.1, ki.2.set i z), D.ss⟩, rfl, DyR.mt (List.mem_of_getElem? et), by rw [ol]; exact il, fun H h => (h.pot u ai ti ki ea et ek).2, fun H z h z0 z1 => ⟨h.putT et ek, ⟨h1, h2, by rw [List.length_set]; exact k1, by rw [List.length_set]; exact k2, ks_set O.ts (by rw [List.length_set]; exact ol), O.sl⟩, ⟨N.cs, ks_set N.ks ⟨ok.1, ok.2.1, ldl_set ok.2.2 z0 (by omega)⟩, N.ss⟩, rfl, List.length_set⟩⟩
      refine ⟨_, rfl, l1, _, way, _, rfl, rfl, SqL.of h4, e, ?_⟩
      have B4 := B3.same s4
      have hD4 := hD3.sm (.of s4)
      refine ⟨_, rfl, p, 9, _, rfl, B4, by omega, by decide, by decide, fun z H5 z0 z1 B5 F5 => ?_⟩
      have hD5 := hD4.fr B4 F5 np
      obtain ⟨r1, r2, r3, r4, r5⟩ := put H5 z hD5 z0 z1
      refine ⟨_, rfl, _, rfl, qa, _, (i : Int), i, rfl, rfl, hq H5 hD5, ixN_at (by rw [List.length_map]; exact lq), ?_⟩
      refine q y (D' z) _ r1 (fun a ha => ha) r2 r3 r4 r5 ((B5.upd (np qa mq)).mono (by omega)) ?_
      have f1 : Fm (fun a => a = p ∨ a ∈ y.all) H H3 := .fr (.inl rfl) F03 hB B3
      exact f1.trans ((Fm.of s4).trans ((Fm.fr (.inl rfl) F5 B4 B5).trans (Fm.put (.inr mq) (hq H5 hD5))))

end
end KR
namespace KR
open PySem PySem.Spec PyProof.Rows L2
section
variable {P : Program} {w : World} {K : PySem.W.Frag} {mg : Str → Option Value} {base : Heap}
def sp_l_struck (K : PySem.W.Frag) : Sp := fun vs H Q _ => ∃ (p d : Addr) (x : DyP) (D : Dy), vs = [.ref d] ∧ DayAt K H p d x D ∧ DyOk D ∧ ∀ H', Same H H' → Q (.int (mostD D)) H'
theorem ok_l_struck (T : All K mg) : FnOk P w K mg base CX0 2 T.f_l_struck T.fd_l_struck ["_law_day_here"] (sp_l_struck K) := by
  refine T.d_l_struck.fn.ok sc_l_struck (fun vs H Q E h => ?_) (fun cdv A outer s H vs Q E hr h => ?_)
  · obtain ⟨p, d, x, D, rfl, _⟩ := h
    rfl
  · obtain ⟨p, d, x, D, rfl, hD, O, q⟩ := h
    refine ⟨_, (pss_one (ps_ret (pe_callB (sumBK (K := K) rfl rfl) (by rfl) T.b_sum (by decide +kernel) (pa_cons (pe_ix (ixL (K := K) rfl) (pe_call (ok_l_greatest T) hr (by rfl) T.d_l_greatest.mg T.d_l_greatest.fn.kp T.d_l_greatest.b .nil pass0 (pa_cons (pv 0) pa_nil)) (pe_un un_neg pe_int) (fun _ _ => rfl)) pa_nil)))), ?_⟩
    refine ⟨_, rfl, p, d, x, D, rfl, hD, O, fun f rs H1 s1 n1 hf lr nd rows => ?_⟩
    obtain ⟨r, er⟩ : ∃ r, rs[D.ks.length]? = some r := ⟨rs[D.ks.length]'(by omega), List.getElem?_eq_getElem _⟩
    obtain ⟨hr1, _, _⟩ := rows _ r er
    refine ⟨_, rfl, f, _, -1, _, rfl, rfl, SqL.of hf, at_endR lr er, ?_⟩
    refine ⟨r, _, true, rfl, SqL.of hr1, ?_⟩
    have e := row_sum D D.ks.length D.cs.length (Nat.le_refl _)
    rw [List.take_of_length_le (by rw [row_len]; exact Nat.le_refl _)] at e
    rw [e]
    exact q H1 s1

end
end KR
namespace KR
open PySem PySem.Spec PyProof.Rows L2
section
variable {P : Program} {w : World} {K : PySem.W.Frag} {mg : Str → Option Value} {base : Heap}
def sp_l_binding (K : PySem.W.Frag) : Sp := fun vs H Q _ => ∃ (p d : Addr) (x : DyP) (D : Dy), vs = [.ref d] ∧ DayAt K H p d x D ∧ (∃ o, H p = some o) ∧ x.pk = true ∧ DyOk D ∧ ∀ (f : Addr) (H' : Hp), Same H H' → H f = none → H' f = some (.lst ((bindI D).map V.int)) → Q (.ref f) H'
theorem ok_l_binding (T : All K mg) : FnOk P w K mg base CX0 3 T.f_l_binding T.fd_l_binding ["_law_day_here"] (sp_l_binding K) := by
  refine T.d_l_binding.fn.ok sc_l_binding (fun vs H Q E h => ?_) (fun cdv A outer s H vs Q E hr h => ?_)
  · obtain ⟨p, d, x, D, rfl, _⟩ := h
    rfl
  · obtain ⟨p, d, x, D, rfl, hD, ⟨op, hp⟩, xk, O, q⟩ := h
    refine ⟨_, (pss_cons (ps_asg (pv 0) (pg_tupK (K := K) rfl rfl (pgs_cons (pg_name (i := 1) sc_l_binding.nd rfl (by first | exact Or.inl rfl | exact Or.inr rfl)) (pgs_cons (pg_name (i := 2) sc_l_binding.nd rfl (by first | exact Or.inl rfl | exact Or.inr rfl)) (pgs_cons (pg_name (i := 3) sc_l_binding.nd rfl (by first | exact Or.inl rfl | exact Or.inr rfl)) pgs_nil)))))
      (pss_cons (ps_set (i := 4) sc_l_binding.nd rfl (by first | exact Or.inl rfl | exact Or.inr rfl) (pe_lstI pa_nil))
      (pss_cons (ps_for PassesOwn.never rfl (pi_enumB (K := K) rfl (by rfl) T.b_enumerate (pa_cons (pv 2) pa_nil)) (pg_tupK (K := K) rfl rfl (pgs_cons (pg_name (i := 5) sc_l_binding.nd rfl (by first | exact Or.inl rfl | exact Or.inr rfl)) (pgs_cons (pg_tupK (K := K) rfl rfl (pgs_cons (pg_name (i := 6) sc_l_binding.nd rfl (by first | exact Or.inl rfl | exact Or.inr rfl)) (pgs_cons (pg_name (i := 7) sc_l_binding.nd rfl (by first | exact Or.inl rfl | exact Or.inr rfl)) pgs_nil))) pgs_nil))) (pss_cons (ps_set (i := 8) sc_l_binding.nd rfl (by first | exact Or.inl rfl | exact Or.inr rfl) (pe_op op_catI (pe_op op_catI (pe_slice (slL (K := K) rfl) (pv 2) po_none (po_some (pv 5))) (pe_lstI (pa_cons (pe_tupI (pa_cons (pe_op op_add (pv 6) pe_int) (pa_cons (pe_lc (own := [("_law_one", 9)]) (g := gName 9) (tt := tYes) (by rfl) sc_l_binding.nd (pi_seqB (K := K) rfl (pv 7)) (blkOk_by (own := [("_law_one", 9)]) (N := ["_law_day_here", "_law_comes", "_law_kettles", "_law_strikes", "_law_found", "_law_place", "_law_room", "_law_takes", "_law_more", "_law_one"]) (sc := defScope s_l_binding) (by decide +kernel)) (fun _ _ _ _ _ => (pg_name (i := 9) sc_l_binding.nd rfl (by first | exact Or.inl rfl | exact Or.inr rfl))) (fun _ _ _ _ _ => pts_nil) (fun _ _ _ _ _ => (pe_op op_add (pv 9) pe_int))) pa_nil))) pa_nil))) (pe_slice (slL (K := K) rfl) (pv 2) (po_some (pe_op op_add (pv 5) pe_int)) po_none)))
      (pss_one (ps_if (pt_cmpR op_gt (pe_call (ok_l_struck T) hr (by rfl) T.d_l_struck.mg T.d_l_struck.fn.kp T.d_l_struck.b .nil pass0 (pa_cons (pe_tupI (pa_cons (pv 1) (pa_cons (pv 8) (pa_cons (pv 3) pa_nil)))) pa_nil)) (pe_call (ok_l_struck T) hr (by rfl) T.d_l_struck.mg T.d_l_struck.fn.kp T.d_l_struck.b .nil pass0 (pa_cons (pv 0) pa_nil)) (nomark _)) (pss_one (ps_expr (pe_bm PySem.F.plainAttrs_list PySem.F.slot_list_append PySem.F.type_list_append mt_append (pv 4) (pa_cons (pv 5) pa_nil)))) pss_nil))))
      (pss_cons (ps_if (pt_cmpR op_gt (pe_call (ok_l_struck T) hr (by rfl) T.d_l_struck.mg T.d_l_struck.fn.kp T.d_l_struck.b .nil pass0 (pa_cons (pe_tupI (pa_cons (pv 1) (pa_cons (pv 2) (pa_cons (pe_lc (own := [("_law_one", 9)]) (g := gName 9) (tt := tYes) (by rfl) sc_l_binding.nd (pi_seqB (K := K) rfl (pv 3)) (blkOk_by (own := [("_law_one", 9)]) (N := ["_law_day_here", "_law_comes", "_law_kettles", "_law_strikes", "_law_found", "_law_place", "_law_room", "_law_takes", "_law_more", "_law_one"]) (sc := defScope s_l_binding) (by decide +kernel)) (fun _ _ _ _ _ => (pg_name (i := 9) sc_l_binding.nd rfl (by first | exact Or.inl rfl | exact Or.inr rfl))) (fun _ _ _ _ _ => pts_nil) (fun _ _ _ _ _ => (pe_op op_add (pv 9) pe_int))) pa_nil)))) pa_nil)) (pe_call (ok_l_struck T) hr (by rfl) T.d_l_struck.mg T.d_l_struck.fn.kp T.d_l_struck.b .nil pass0 (pa_cons (pv 0) pa_nil)) (nomark _)) (pss_one (ps_expr (pe_bm PySem.F.plainAttrs_list PySem.F.slot_list_append PySem.F.type_list_append mt_append (pv 4) (pa_cons (pe_callB (lenQ (K := K) rfl) (by rfl) T.b_len PySem.boot_len (pa_cons (pv 2) pa_nil)) pa_nil)))) pss_nil)
      (pss_one (ps_ret (pv 4))))))), ?_⟩
    have k1 := O.k1
    have k2 := O.k2
    have h2 := O.h2
    have hk0 : SqL K H x.k (x.as.map V.ref) := by
      have z := hD.ks
      rw [xk] at z
      exact z
    refine ⟨_, rfl, d, _, rfl, hD.at_, rfl, _, _, rfl, _, _, rfl, _, _, rfl, rfl, ?_⟩
    refine ⟨rfl, fun f H1 s1 n1 h1 => ?_⟩
    have fp : f ≠ p := (ne_of_none hp n1).symm
    have hp1 := s1 _ _ hp
    refine ⟨_, rfl, x.k, _, x.pk, rfl, hD.ks.same s1, for_it (walk_enumB (K := K) (a := x.k) (xs := x.as.map V.ref) (p := x.pk)) (fun j σ H' => ∃ v5 v6 v7 v8 v9 : Option V, σ = [some (.ref d), some (.ref x.c), some (.ref x.k), some (.ref x.s), some (.ref f), v5, v6, v7, v8, v9] ∧ Fr f H1 H' ∧ H' f = some (.lst ((((List.range j).filter fun p => decide (mostD D < mostD (widerD D p))).map fun p : Nat => (p : Int)).map V.int)))
      ⟨_, _, _, _, _, rfl, .refl, h1⟩ (fun j σ H' _ ⟨_, _, _, _, _, _, F, _⟩ => hD.ks.same (same_frb s1 n1 F)) ?_ ?_⟩
    · rintro i v σ H4 H5 hi ⟨v5, v6, v7, v8, v9, rfl, F4, hf4⟩ ⟨T0, x0, y0, rfl, hT, rfl, e0, ex⟩
      rw [List.length_map, hD.len] at hi
      obtain rfl := Option.some.inj e0
      have S4 := same_frb s1 n1 F4
      have ex' : (x.as.map V.ref)[i]? = some y0 := ex
      obtain ⟨ka, t, b, gk, hk, ht⟩ := (hD.same S4).pot (j := i) hi
      rw [gk] at ex'
      obtain rfl := Option.some.inj ex'
      have sT : Same H4 (upd H4 T0 (.tup [.int (i : Nat), .ref ka])) := same_new hT
      have hT5 : (upd H4 T0 (.tup [.int (i : Nat), .ref ka])) T0 = some (.tup [.int (i : Nat), .ref ka]) := upd_same
      generalize upd H4 T0 (.tup [.int (i : Nat), .ref ka]) = H5 at sT hT5
      have S5 := S4.trans sT
      have hk5 : SqL K H5 x.k (x.as.map V.ref) := Same.seq S5 hk0
      have hf5 := sT _ _ hf4
      have hp5 := S5 _ _ hp
      have al : i < (x.as.map V.ref).length := by rw [List.length_map, hD.len]; exact hi
      refine ⟨T0, _, rfl, SqT.of hT5, rfl, _, _, rfl, _, _, rfl, ka, _, rfl, Same.tup sT hk, rfl, _, _, rfl, _, _, rfl, rfl, rfl, ?_⟩
      refine ⟨_, rfl, _, rfl, _, rfl, x.k, _, rfl, hk5, fun c1 H6 s6 n6 h6 => ?_⟩
      rw [cut_to' (Nat.le_of_lt al)] at h6
      refine ⟨_, rfl, _, _, rfl, rfl, ?_⟩
      refine inc_lc (i := 7) (n := 9) rfl (by show 9 < 10; decide) ((ht.same sT).same s6) (by rw [kt_len O hi]; exact h2) fun G H7 s7 n7 h7 => ⟨rfl, fun u H8 s8 n8 h8 => ⟨rfl, fun l1 H9 s9 n9 h9 => ?_⟩⟩
      refine ⟨c1, l1, _, _, rfl, rfl, (s7.trans (s8.trans s9)) _ _ h6, h9, ?_, fun c2 H10 s10 n10 h10 => ?_⟩
      · rw [List.length_take, List.length_map, hD.len, sizeLine_eq]
        show min i D.ks.length + 1 ≤ _
        omega
      have s610 := s7.trans (s8.trans (s9.trans s10))
      refine ⟨_, rfl, _, rfl, _, _, rfl, rfl, _, rfl, x.k, _, rfl, (Same.seq (s6.trans s610) hk5), fun c3 H11 s11 n11 h11 => ?_⟩
      rw [show (i : Int) + 1 = ((i + 1 : Nat) : Int) by omega, cut_from (by omega)] at h11
      refine ⟨c2, c3, _, _, rfl, rfl, s11 _ _ h10, h11, ?_, fun L H12 s12 n12 h12 => ?_⟩
      · rw [List.length_append, List.length_take, List.length_drop, List.length_map, hD.len, sizeLine_eq]
        show min i D.ks.length + 1 + _ ≤ _
        omega
      rw [set_cut al, show (x.as.map V.ref).set i (V.ref u) = (x.as.set i u).map V.ref from List.map_set.symm] at h12
      refine ⟨_, rfl, _, rfl, _, rfl, rfl, fun w H13 s13 n13 h13 => ?_⟩
      have s511 := s6.trans (s610.trans s11)
      have s813 := s9.trans (s10.trans (s11.trans (s12.trans s13)))
      have s513 := s511.trans (s12.trans s13)
      have sA := S5.trans s513
      have hW := wider_at hD sA hi h13 (s13 _ _ h12) (ne_of_none (s511 _ _ hp5) n12).symm (s813 _ _ h8) ((s8.trans s813) _ _ h7) (ne_of_none (s6 _ _ hp5) n7).symm
      refine ⟨p, w, _, widerD D i, rfl, hW, wider_ok O (by omega), fun H14 s14 => ?_⟩
      refine ⟨_, rfl, p, d, x, D, rfl, hD.same (sA.trans s14), O, fun H15 s15 => ?_⟩
      refine ⟨_, _, rfl, rfl, _, rfl, ?_⟩
      have s515 := s513.trans (s14.trans s15)
      have hf15 := s515 _ _ hf5
      have F15 : Fr f H1 H15 := F4.trans (.of (sT.trans s515))
      have fl : ((List.range i).filter fun p => decide (mostD D < mostD (widerD D p))).length ≤ i := by
        have := List.length_filter_le (fun p => decide (mostD D < mostD (widerD D p))) (List.range i)
        rw [List.length_range] at this
        exact this
      by_cases c : mostD D < mostD (widerD D i)
      · refine ite_bT (decide_eq_true c) ?_
        refine ⟨_, rfl, .inl ⟨rfl, _, SqL.of hf15⟩, _, rfl, f, _, _, rfl, rfl, hf15, by rw [List.length_map, List.length_map]; exact small' (by omega), ?_⟩
        refine ⟨_, _, _, _, _, rfl, F15.trans fr_upd, ?_⟩
        rw [upd_same, List.range_succ, List.filter_append, List.filter_cons, if_pos (decide_eq_true c), List.map_append, List.map_append] <;> rfl
      · refine ite_bF (decide_eq_false c) ?_
        refine ⟨_, _, _, _, _, rfl, F15, ?_⟩
        rw [hf15, List.range_succ, List.filter_append, List.filter_cons, if_neg (by rw [decide_eq_false c]; exact Bool.false_ne_true), List.filter_nil, List.append_nil]
    · rintro σ H4 ⟨v5, v6, v7, v8, v9, rfl, F4, hf4⟩
      rw [List.length_map, hD.len] at hf4
      have S4 := same_frb s1 n1 F4
      have hp4 := S4 _ _ hp
      refine ⟨_, rfl, _, rfl, ?_⟩
      refine inc_lc (i := 3) (n := 9) rfl (by show 9 < 10; decide) (hD.ss.same S4) (by rw [O.sl]; exact h2) fun G H5 s5 n5 h5 => ⟨rfl, fun w H6 s6 n6 h6 => ?_⟩
      have sA := S4.trans (s5.trans s6)
      refine ⟨p, w, _, widerD D D.ks.length, rfl, wider_atS hD sA h6 (s6 _ _ h5) (ne_of_none hp4 n5).symm, wider_ok O (Nat.le_refl _), fun H7 s7 => ?_⟩
      refine ⟨_, rfl, p, d, x, D, rfl, hD.same (sA.trans s7), O, fun H8 s8 => ?_⟩
      refine ⟨_, _, rfl, rfl, _, rfl, ?_⟩
      have s48 := (s5.trans s6).trans (s7.trans s8)
      have hf8 := s48 _ _ hf4
      have F8 : Fr f H1 H8 := F4.trans (.of s48)
      have fl : ((List.range D.ks.length).filter fun p => decide (mostD D < mostD (widerD D p))).length ≤ D.ks.length := by
        have := List.length_filter_le (fun p => decide (mostD D < mostD (widerD D p))) (List.range D.ks.length)
        rw [List.length_range] at this
        exact this
      by_cases c : mostD D < mostD (widerD D D.ks.length)
      · refine ite_bT (decide_eq_true c) ?_
        have hk8 : SqL K H8 x.k (x.as.map V.ref) := Same.seq (S4.trans s48) hk0
        refine ⟨_, rfl, .inl ⟨rfl, _, SqL.of hf8⟩, _, rfl, x.k, _, rfl, .inl hk8, ?_⟩
        rw [List.length_map, hD.len]
        refine ⟨f, _, _, rfl, rfl, hf8, by rw [List.length_map, List.length_map]; exact small' (by omega), ?_⟩
        refine ⟨_, rfl, q f _ (same_frb s1 n1 (F8.trans fr_upd)) n1 ?_⟩
        unfold bindI bindL
        rw [upd_same, List.range_succ, List.filter_append, List.filter_cons, if_pos (decide_eq_true c), List.map_append, List.map_append] <;> rfl
      · refine ite_bF (decide_eq_false c) ?_
        refine ⟨_, rfl, q f _ (same_frb s1 n1 F8) n1 ?_⟩
        unfold bindI bindL
        rw [hf8, List.range_succ, List.filter_append, List.filter_cons, if_neg (by rw [decide_eq_false c]; exact Bool.false_ne_true), List.filter_nil, List.append_nil]

end
end KR
namespace KR
open PySem PySem.Spec PyProof.Rows L2
section
variable {P : Program} {w : World} {K : PySem.W.Frag} {mg : Str → Option Value} {base : Heap}
def sp_p_places_in (K : PySem.W.Frag) : Sp := fun vs H Q _ => ∃ (p d : Addr) (x : DyP) (D : Dy), vs = [.ref d] ∧ DayAt K H p d x D ∧ Q (.int ((D.ks.length : Int) + 1)) H
theorem ok_p_places_in (T : All K mg) : FnOk P w K mg base CX0 1 T.f_p_places_in T.fd_p_places_in ["day"] (sp_p_places_in K) := by
  refine T.d_p_places_in.fn.ok sc_p_places_in (fun vs H Q E h => ?_) (fun cdv A outer s H vs Q E hr h => ?_)
  · obtain ⟨p, d, x, D, rfl, _⟩ := h
    rfl
  · obtain ⟨p, d, x, D, rfl, hD, q⟩ := h
    refine ⟨_, (pss_one (ps_ret (pe_op op_add (pe_callB (lenA (K := K) rfl) (by rfl) T.b_len PySem.boot_len (pa_cons (pe_ix (ixT (K := K) rfl) (pv 0) pe_int (fun _ _ => rfl)) pa_nil)) pe_int))), ?_⟩
    refine ⟨_, rfl, d, _, 1, _, rfl, rfl, hD.at_, at1, _, _, rfl, lenV_b hD.ks, _, _, rfl, rfl, ?_⟩
    rw [List.length_map, hD.len]
    exact q

end
end KR
namespace KR
open PySem PySem.Spec PyProof.Rows L2
section
variable {P : Program} {w : World} {K : PySem.W.Frag} {mg : Str → Option Value} {base : Heap}
def sp_p_hours_in (K : PySem.W.Frag) : Sp := fun vs H Q _ => ∃ (p d : Addr) (x : DyP) (D : Dy), vs = [.ref d] ∧ DayAt K H p d x D ∧ Q (.int (D.cs.length : Int)) H
theorem ok_p_hours_in (T : All K mg) : FnOk P w K mg base CX0 1 T.f_p_hours_in T.fd_p_hours_in ["day"] (sp_p_hours_in K) := by
  refine T.d_p_hours_in.fn.ok sc_p_hours_in (fun vs H Q E h => ?_) (fun cdv A outer s H vs Q E hr h => ?_)
  · obtain ⟨p, d, x, D, rfl, _⟩ := h
    rfl
  · obtain ⟨p, d, x, D, rfl, hD, q⟩ := h
    refine ⟨_, (pss_one (ps_ret (pe_callB (lenA (K := K) rfl) (by rfl) T.b_len PySem.boot_len (pa_cons (pe_ix (ixT (K := K) rfl) (pv 0) pe_int (fun _ _ => rfl)) pa_nil)))), ?_⟩
    refine ⟨_, rfl, d, _, 0, _, rfl, rfl, hD.at_, at0, _, _, rfl, lenV_b hD.cs.1, ?_⟩
    rw [List.length_map]
    exact q

end
end KR
namespace KR
open PySem PySem.Spec PyProof.Rows L2
section
variable {P : Program} {w : World} {K : PySem.W.Frag} {mg : Str → Option Value} {base : Heap}
def sp_p_end_of (K : PySem.W.Frag) : Sp := fun vs H Q _ => ∃ (p d : Addr) (x : DyP) (D : Dy), vs = [.ref d] ∧ DayAt K H p d x D ∧ ∀ t H', Same H H' → H t = none → H' t = some (.tup [.int (D.ks.length : Int), .int ((D.cs.length : Int) - 1)]) → Q (.ref t) H'
theorem ok_p_end_of (T : All K mg) : FnOk P w K mg base CX0 2 T.f_p_end_of T.fd_p_end_of ["day"] (sp_p_end_of K) := by
  refine T.d_p_end_of.fn.ok sc_p_end_of (fun vs H Q E h => ?_) (fun cdv A outer s H vs Q E hr h => ?_)
  · obtain ⟨p, d, x, D, rfl, _⟩ := h
    rfl
  · obtain ⟨p, d, x, D, rfl, hD, q⟩ := h
    refine ⟨_, (pss_one (ps_ret (pe_tupI (pa_cons (pe_op op_sub (pe_call (ok_p_places_in T) hr (by rfl) T.d_p_places_in.mg T.d_p_places_in.fn.kp T.d_p_places_in.b .nil pass0 (pa_cons (pv 0) pa_nil)) pe_int) (pa_cons (pe_op op_sub (pe_call (ok_p_hours_in T) hr (by rfl) T.d_p_hours_in.mg T.d_p_hours_in.fn.kp T.d_p_hours_in.b .nil pass0 (pa_cons (pv 0) pa_nil)) pe_int) pa_nil))))), ?_⟩
    refine ⟨_, rfl, p, d, x, D, rfl, hD, _, _, rfl, rfl, _, rfl, p, d, x, D, rfl, hD, _, _, rfl, rfl, rfl, fun t H1 s1 n1 h1 => ?_⟩
    have h1 : H1 t = some (.tup [.int ((D.ks.length : Int) + 1 - 1), .int ((D.cs.length : Int) - 1)]) := h1
    rw [show (D.ks.length : Int) + 1 - 1 = (D.ks.length : Int) by omega] at h1
    exact q t H1 s1 n1 h1

end
end KR
namespace KR
open PySem PySem.Spec PyProof.Rows L2
section
variable {P : Program} {w : World} {K : PySem.W.Frag} {mg : Str → Option Value} {base : Heap}
def sp_p_bounds_at (K : PySem.W.Frag) : Sp := fun vs H Q _ => ∃ (p d : Addr) (x : DyP) (D : Dy) (pl t : Nat) (h : Int), vs = [.ref d, .int (pl : Int), .int h] ∧ h = (t : Int) - 1 ∧ DayAt K H p d x D ∧ DyOk D ∧ pl ≤ D.ks.length ∧ t ≤ D.cs.length ∧
  ∀ (b : Addr) (kvs : List (Key × V)) (H' : Hp), Same H H' → H b = none → H' b = some (.dK kvs) → AllBd H' kvs (bnds D pl t) → Q (.ref b) H'
theorem ok_p_bounds_at (T : All K mg) : FnOk P w K mg base CX0 1 T.f_p_bounds_at T.fd_p_bounds_at ["day", "place", "hour"] (sp_p_bounds_at K) := by
  refine T.d_p_bounds_at.fn.ok sc_p_bounds_at (fun vs H Q E h => ?_) (fun cdv A outer s H vs Q E hr h => ?_)
  · obtain ⟨p, d, x, D, pl, t, h, rfl, _⟩ := h
    rfl
  · obtain ⟨p, d, x, D, pl, t, h, rfl, eh, hD, O, lp, lt, q⟩ := h
    refine ⟨_, (pss_cons (ps_if (pt_cmpR op_eq (pv 2) (pe_glob (v := .int (-1)) rfl T.c_AHEAD_OF_ALL ⟨_, rfl⟩) (nomark _)) (pss_one (ps_ret (pe_disp (pps_cons pe_str (pe_tupI (pa_cons pe_non (pa_cons pe_int pa_nil))) pps_nil) rfl rfl (by simp) (by decide)))) pss_nil)
      (pss_cons (ps_asg (pv 0) (pg_tupK (K := K) rfl rfl (pgs_cons (pg_name (i := 3) sc_p_bounds_at.nd rfl (by first | exact Or.inl rfl | exact Or.inr rfl)) (pgs_cons (pg_name (i := 4) sc_p_bounds_at.nd rfl (by first | exact Or.inl rfl | exact Or.inr rfl)) (pgs_cons (pg_name (i := 5) sc_p_bounds_at.nd rfl (by first | exact Or.inl rfl | exact Or.inr rfl)) pgs_nil)))))
      (pss_cons (ps_J (ps_if (pt_cmpR op_eq (pv 1) pe_int (nomark _)) (pss_one (ps_set (i := 6) sc_p_bounds_at.nd rfl (by first | exact Or.inl rfl | exact Or.inr rfl) (pe_disp (pps_cons pe_str (pe_tupI (pa_cons pe_non (pa_cons (pe_callB (sumBK (K := K) rfl rfl) (by rfl) T.b_sum (by decide +kernel) (pa_cons (pe_slice (slBK (K := K) rfl) (pv 3) po_none (po_some (pe_op op_add (pv 2) pe_int))) pa_nil)) pa_nil))) pps_nil) rfl rfl (by simp) (by decide)))) (pss_one (ps_set (i := 6) sc_p_bounds_at.nd rfl (by first | exact Or.inl rfl | exact Or.inr rfl) (pe_disp (pps_cons pe_str (pe_tupI (pa_cons (pe_tupI (pa_cons (pe_op op_sub (pv 1) pe_int) (pa_cons (pe_op op_sub (pv 2) pe_int) pa_nil))) (pa_cons pe_int pa_nil))) pps_nil) rfl rfl (by simp) (by decide))))))
      (pss_cons (ps_if (pt_cmpR op_eq (pv 1) (pe_callB (lenA (K := K) rfl) (by rfl) T.b_len PySem.boot_len (pa_cons (pv 4) pa_nil)) (nomark _)) (pss_one (ps_asg (pe_tupI (pa_cons (pe_tupI (pa_cons (pv 1) (pa_cons (pe_op op_sub (pv 2) pe_int) pa_nil))) (pa_cons (pe_ix (ixQ (K := K) rfl) (pv 5) (pv 2) (fun _ _ => rfl)) pa_nil))) (pg_sub (pv 6) pe_str (set_dict (hu_of hr))))) (pss_cons (ps_asg (pe_ix (ixQ (K := K) rfl) (pv 4) (pv 1) (fun _ _ => rfl)) (pg_tupK (K := K) rfl rfl (pgs_cons (pg_name (i := 7) sc_p_bounds_at.nd rfl (by first | exact Or.inl rfl | exact Or.inr rfl)) (pgs_cons (pg_name (i := 8) sc_p_bounds_at.nd rfl (by first | exact Or.inl rfl | exact Or.inr rfl)) pgs_nil))))
      (pss_cons (ps_asg (pe_tupI (pa_cons (pe_tupI (pa_cons (pv 1) (pa_cons (pe_op op_sub (pv 2) pe_int) pa_nil))) (pa_cons (pe_ix (ixQ (K := K) rfl) (pv 8) (pv 2) (fun _ _ => rfl)) pa_nil))) (pg_sub (pv 6) pe_str (set_dict (hu_of hr))))
      (pss_one (ps_asg (pe_tupI (pa_cons (pe_tupI (pa_cons (pe_op op_add (pv 1) pe_int) (pa_cons (pv 2) pa_nil))) (pa_cons (pv 7) pa_nil))) (pg_sub (pv 6) pe_str (set_dict (hu_of hr))))))))
      (pss_one (ps_ret (pv 6))))))), ?_⟩
    refine ⟨_, rfl, rfl, _, rfl, ?_⟩
    cases t with
    | zero =>
      refine ite_iT (by omega) ?_
      refine fun b nb => ?_
      refine ⟨rfl, fun tu H1 s1 n1 h1 => ?_⟩
      refine ⟨s1 _ _ upd_same, [(.inr "begin", .ref tu)], rfl, by show 1 ≤ 15; decide, ?_⟩
      have tb : tu ≠ b := fun e => by
        rw [e, upd_same] at n1
        cases n1
      exact q b _ _ (Same.put ((same_new nb).trans s1) nb) nb upd_same (.cons ⟨rfl, tu, .non, rfl, by rw [upd_ne tb]; exact h1, rfl⟩ .nil)
    | succ t =>
      obtain rfl : h = (t : Int) := by omega
      refine ite_iF (by omega) ?_
      refine ⟨_, rfl, d, _, rfl, hD.at_, rfl, _, _, rfl, _, _, rfl, _, _, rfl, rfl, ?_⟩
      refine ⟨fun σ' H' => ∃ (b tu : Addr) (l : V), σ' = [some (.ref d), some (.int (pl : Int)), some (.int (t : Int)), some (.ref x.c), some (.ref x.k), some (.ref x.s), some (.ref b), none, none] ∧ Same H H' ∧ H b = none ∧ H' b = some (.dK [(.inr (firstB D pl t).word, .ref tu)]) ∧ H' tu = some (.tup [l, .int (firstB D pl t).more]) ∧ leadV H' l (firstB D pl t).lead ∧ tu ≠ b ∧ (∀ q, l = .ref q → q ≠ b), ?_, ?_⟩
      · rintro σ' H1 ⟨b, tu, l, rfl, s1, nb, hb, htu, hl, tub, lb⟩
        have hD1 := hD.same s1
        have fb : (pl = 0 ∧ (firstB D pl t).word = "comes") ∨ (pl ≠ 0 ∧ (firstB D pl t).word = "ahead") := by
          unfold firstB
          by_cases c : pl = 0
          · rw [if_pos c]
            exact .inl ⟨c, rfl⟩
          · rw [if_neg c]
            exact .inr ⟨c, rfl⟩
        have nt : ∀ w : Str, (w = "takes" ∨ w = "room") → (firstB D pl t).word ≠ w := by
          intro w hw e
          rcases fb with ⟨_, f⟩ | ⟨_, f⟩ <;> rw [f] at e <;> rcases hw with rfl | rfl <;> exact absurd e (by decide)
        have leadK : ∀ {H' : Hp}, Same H1 H' → leadV (upd H' b (.dK [])) l (firstB D pl t).lead → True := fun _ _ => trivial
        have keep : ∀ {H' : Hp} {o : HO}, Same H1 H' → leadV (upd H' b o) l (firstB D pl t).lead := fun {H' o} s => by
          cases e : (firstB D pl t).lead with
          | none =>
            rw [e] at hl
            exact hl
          | some y =>
            rw [e] at hl
            obtain ⟨q0, e0, h0⟩ := hl
            exact ⟨q0, e0, by rw [upd_ne (lb q0 e0)]; exact s _ _ h0⟩
        refine ⟨_, rfl, _, rfl, _, _, rfl, lenV_b hD1.ks, rfl, _, rfl, ?_⟩
        rw [List.length_map, hD.len]
        by_cases c : pl = D.ks.length
        · refine ite_iT (by omega) ?_
          refine ⟨_, rfl, _, rfl, _, _, rfl, rfl, rfl, fun q1 H2 s2 n2 h2 => ?_⟩
          refine ⟨_, rfl, _, rfl, ix_b (i := t) (hD1.ss.1.same s2) rfl (ints_get (by rw [O.sl]; omega)) ?_⟩
          refine ⟨rfl, fun t2 H3 s3 n3 h3 => ?_⟩
          have s13 := s2.trans s3
          have hb3 := s13 _ _ hb
          refine ⟨_, rfl, b, _, rfl, .k (k := .inr "takes") hb3 (by show 1 < sizeLine; rw [sizeLine_eq]; decide), ?_⟩
          have pn : putK [((.inr (firstB D pl t).word : Key), V.ref tu)] (.inr "takes") (.ref t2) = [((.inr (firstB D pl t).word : Key), V.ref tu), (.inr "takes", .ref t2)] := putK_new _ (by rw [valV_neg (fun e => nt "takes" (.inl rfl) (Sum.inr.inj e))] <;> rfl)
          rw [pn]
          have q1b : q1 ≠ b := (ne_of_none hb n2).symm
          have t2b : t2 ≠ b := (ne_of_none (s2 _ _ hb) n3).symm
          refine ⟨_, rfl, q b _ _ (Same.put (s1.trans s13) nb) nb upd_same ?_⟩
          rw [show bnds D pl (t + 1) = [firstB D pl t, ⟨"takes", some ((pl : Int), (t : Int) - 1), D.ss.getD t 0⟩] from if_pos c]
          exact .cons ⟨rfl, tu, l, rfl, by rw [upd_ne tub]; exact s13 _ _ htu, keep s13⟩ (.cons ⟨rfl, t2, .ref q1, rfl, by rw [upd_ne t2b]; exact h3, q1, rfl, by rw [upd_ne q1b]; exact s3 _ _ h2⟩ .nil)
        · refine ite_iF (by omega) ?_
          obtain ⟨ka, ta, bb, gk, hk, ht⟩ := hD1.pot (j := pl) (by omega)
          refine ⟨_, rfl, _, rfl, ix_b (i := pl) hD1.ks rfl gk ?_⟩
          refine ⟨ka, _, rfl, hk, rfl, _, _, rfl, _, _, rfl, rfl, ?_⟩
          refine ⟨_, rfl, _, rfl, _, _, rfl, rfl, rfl, fun q1 H2 s2 n2 h2 => ?_⟩
          refine ⟨_, rfl, _, rfl, ix_b (i := t) (ht.1.same s2) rfl (ints_get (by rw [kt_len O (by omega)]; omega)) ?_⟩
          refine ⟨rfl, fun t2 H3 s3 n3 h3 => ?_⟩
          have s13 := s2.trans s3
          have hb3 := s13 _ _ hb
          refine ⟨_, rfl, b, _, rfl, .k (k := .inr "takes") hb3 (by show 1 < sizeLine; rw [sizeLine_eq]; decide), ?_⟩
          have pn : putK [((.inr (firstB D pl t).word : Key), V.ref tu)] (.inr "takes") (.ref t2) = [((.inr (firstB D pl t).word : Key), V.ref tu), (.inr "takes", .ref t2)] := putK_new _ (by rw [valV_neg (fun e => nt "takes" (.inl rfl) (Sum.inr.inj e))] <;> rfl)
          rw [pn]
          have q1b : q1 ≠ b := (ne_of_none hb n2).symm
          have t2b : t2 ≠ b := (ne_of_none (s2 _ _ hb) n3).symm
          have s4 : Same H (upd H3 b (.dK [((.inr (firstB D pl t).word : Key), V.ref tu), (.inr "takes", .ref t2)])) := Same.put (s1.trans s13) nb
          have hb4 : (upd H3 b (.dK [((.inr (firstB D pl t).word : Key), V.ref tu), (.inr "takes", .ref t2)])) b = some (.dK [((.inr (firstB D pl t).word : Key), V.ref tu), (.inr "takes", .ref t2)]) := upd_same
          have htu4 : (upd H3 b (.dK [((.inr (firstB D pl t).word : Key), V.ref tu), (.inr "takes", .ref t2)])) tu = some (.tup [l, .int (firstB D pl t).more]) := by rw [upd_ne tub]; exact s13 _ _ htu
          have ht24 : (upd H3 b (.dK [((.inr (firstB D pl t).word : Key), V.ref tu), (.inr "takes", .ref t2)])) t2 = some (.tup [.ref q1, .int ((kt D pl).2.getD t 0)]) := by rw [upd_ne t2b]; exact h3
          have hq14 : (upd H3 b (.dK [((.inr (firstB D pl t).word : Key), V.ref tu), (.inr "takes", .ref t2)])) q1 = some (.tup [.int (pl : Int), .int ((t : Int) - 1)]) := by rw [upd_ne q1b]; exact s3 _ _ h2
          have kp4 : leadV (upd H3 b (.dK [((.inr (firstB D pl t).word : Key), V.ref tu), (.inr "takes", .ref t2)])) l (firstB D pl t).lead := keep s13
          generalize upd H3 b (.dK [((.inr (firstB D pl t).word : Key), V.ref tu), (.inr "takes", .ref t2)]) = H4 at s4 hb4 htu4 ht24 hq14 kp4
          refine ⟨_, rfl, _, _, rfl, rfl, _, rfl, rfl, fun q2 H5 s5 n5 h5 => ?_⟩
          refine ⟨_, rfl, rfl, fun t3 H6 s6 n6 h6 => ?_⟩
          have s46 := s5.trans s6
          have hb6 := s46 _ _ hb4
          refine ⟨_, rfl, b, _, rfl, .k (k := .inr "room") hb6 (by show 2 < sizeLine; rw [sizeLine_eq]; decide), ?_⟩
          have pn2 : putK [((.inr (firstB D pl t).word : Key), V.ref tu), (.inr "takes", .ref t2)] (.inr "room") (.ref t3) = [((.inr (firstB D pl t).word : Key), V.ref tu), (.inr "takes", .ref t2), (.inr "room", .ref t3)] := putK_new _ (by rw [valV_neg (fun e => nt "room" (.inr rfl) (Sum.inr.inj e)), valV_neg (fun e => absurd (Sum.inr.inj e) (by decide))] <;> rfl)
          rw [pn2]
          have q2b : q2 ≠ b := (ne_of_none hb4 n5).symm
          have t3b : t3 ≠ b := (ne_of_none (s5 _ _ hb4) n6).symm
          refine ⟨_, rfl, q b _ _ (Same.put (s4.trans s46) nb) nb upd_same ?_⟩
          rw [show bnds D pl (t + 1) = [firstB D pl t, ⟨"takes", some ((pl : Int), (t : Int) - 1), (kt D pl).2.getD t 0⟩, ⟨"room", some ((pl : Int) + 1, (t : Int)), (kt D pl).1⟩] from if_neg c]
          have kp6 : leadV (upd H6 b (.dK [((.inr (firstB D pl t).word : Key), V.ref tu), (.inr "takes", .ref t2), (.inr "room", .ref t3)])) l (firstB D pl t).lead := by
            cases e : (firstB D pl t).lead with
            | none =>
              rw [e] at kp4
              exact kp4
            | some y =>
              rw [e] at kp4
              obtain ⟨q0, e0, h0⟩ := kp4
              exact ⟨q0, e0, by rw [upd_ne (lb q0 e0)]; exact s46 _ _ h0⟩
          exact .cons ⟨rfl, tu, l, rfl, by rw [upd_ne tub]; exact s46 _ _ htu4, kp6⟩ (.cons ⟨rfl, t2, .ref q1, rfl, by rw [upd_ne t2b]; exact s46 _ _ ht24, q1, rfl, by rw [upd_ne q1b]; exact s46 _ _ hq14⟩ (.cons ⟨rfl, t3, .ref q2, rfl, by rw [upd_ne t3b]; exact h6, q2, rfl, by rw [upd_ne q2b]; exact s6 _ _ h5⟩ .nil))
      · refine ⟨_, rfl, rfl, _, rfl, ?_⟩
        by_cases c : pl = 0
        · refine ite_iT (by omega) ?_
          refine fun b nb => ?_
          refine ⟨_, rfl, _, rfl, _, _, rfl, rfl, _, rfl, x.c, _, x.pc, rfl, hD.cs.1.same (same_new nb), fun cu H1 s1 hcu => ?_⟩
          rw [show (t : Int) + 1 = ((t + 1 : Nat) : Int) by omega, cut_to' (by rw [List.length_map]; omega), ← List.map_take] at hcu
          refine ⟨cu, _, x.pc, rfl, hcu, rfl, fun tu H2 s2 n2 h2 => ?_⟩
          have s12 := s1.trans s2
          refine ⟨s12 _ _ upd_same, [(.inr "comes", .ref tu)], rfl, by show 1 ≤ 15; decide, ?_⟩
          have tb : tu ≠ b := (ne_of_none (s1 _ _ upd_same) n2).symm
          have e1 : firstB D pl t = ⟨"comes", none, csum D (t + 1)⟩ := if_pos c
          rw [e1]
          exact ⟨b, tu, .non, rfl, Same.put ((same_new nb).trans s12) nb, nb, upd_same, by rw [upd_ne tb]; exact h2, rfl, tb, fun q e => by cases e⟩
        · refine ite_iF (by omega) ?_
          refine fun b nb => ?_
          refine ⟨_, rfl, _, _, rfl, rfl, _, rfl, _, _, rfl, rfl, rfl, fun q1 H1 s1 n1 h1 => ⟨rfl, fun tu H2 s2 n2 h2 => ?_⟩⟩
          have s12 := s1.trans s2
          refine ⟨s12 _ _ upd_same, [(.inr "ahead", .ref tu)], rfl, by show 1 ≤ 15; decide, ?_⟩
          have tb : tu ≠ b := (ne_of_none (s1 _ _ upd_same) n2).symm
          have qb : q1 ≠ b := fun e => by
            rw [e, upd_same] at n1
            cases n1
          have e1 : firstB D pl t = ⟨"ahead", some ((pl : Int) - 1, (t : Int) - 1), 0⟩ := if_neg c
          rw [e1]
          exact ⟨b, tu, .ref q1, rfl, Same.put ((same_new nb).trans s12) nb, nb, upd_same, by rw [upd_ne tb]; exact h2, ⟨q1, rfl, by rw [upd_ne qb]; exact s2 _ _ h1⟩, tb, fun q e => by cases e; exact qb⟩

end
end KR
namespace KR
open PySem PySem.Spec PyProof.Rows L2
section
variable {P : Program} {w : World} {K : PySem.W.Frag} {mg : Str → Option Value} {base : Heap}
def sp_p_reached (K : PySem.W.Frag) : Sp := fun vs H Q _ => ∃ (ta t : Addr) (l : V) (D : Dy) (b : Bd) (kvs : List (List Key × V)), vs = [.ref ta, .ref t] ∧ H t = some (.tup [l, .int b.more]) ∧ leadV H l b.lead ∧ H ta = some (.dT kvs) ∧ (∀ p h, b.lead = some (p, h) → valV kvs [.inl p, .inl h] = some (.int (tk D (h + 1).toNat p.toNat))) ∧ Q (.int (valB D b)) H
theorem ok_p_reached (T : All K mg) : FnOk P w K mg base CX0 1 T.f_p_reached T.fd_p_reached ["taken", "bound"] (sp_p_reached K) := by
  refine T.d_p_reached.fn.ok sc_p_reached (fun vs H Q E h => ?_) (fun cdv A outer s H vs Q E hr h => ?_)
  · obtain ⟨ta, t, l, D, b, kvs, rfl, _⟩ := h
    rfl
  · obtain ⟨ta, t, l, D, b, kvs, rfl, ht, hl, hta, val, q⟩ := h
    refine ⟨_, (pss_cons (ps_asg (pv 1) (pg_tupK (K := K) rfl rfl (pgs_cons (pg_name (i := 2) sc_p_reached.nd rfl (by first | exact Or.inl rfl | exact Or.inr rfl)) (pgs_cons (pg_name (i := 3) sc_p_reached.nd rfl (by first | exact Or.inl rfl | exact Or.inr rfl)) pgs_nil))))
      (pss_cons (ps_if (pt_cmpR op_isN (pv 2) pe_non (nomark _)) (pss_one (ps_ret (pv 3))) pss_nil)
      (pss_one (ps_ret (pe_op op_add (pe_dget (hu_of hr) (pv 0) (pv 2) (fun _ _ => rfl)) (pv 3)))))), ?_⟩
    obtain ⟨w, le, mo⟩ := b
    refine ⟨_, rfl, t, _, rfl, SqT.of ht, rfl, _, _, rfl, _, _, rfl, rfl, ?_⟩
    cases le with
    | none =>
      obtain rfl : l = .non := hl
      exact ⟨_, rfl, rfl, _, rfl, iteT ⟨_, rfl, q⟩⟩
    | some y =>
      obtain ⟨p, h⟩ := y
      obtain ⟨q0, rfl, hq⟩ := hl
      refine ⟨_, rfl, rfl, _, rfl, iteF ?_⟩
      have g : DGet H ta (.ref q0) (some (.int (tk D (h + 1).toNat p.toNat))) := by
        rw [← val p h rfl]
        exact .t (k := [.inl p, .inl h]) hta hq
      refine ⟨_, rfl, _, rfl, ta, _, rfl, g, ?_⟩
      exact ⟨_, rfl, _, _, rfl, rfl, q⟩
def sp_p_reachedX (K : PySem.W.Frag) : Sp := fun vs H Q _ => ∃ (ta t : Addr) (l : V) (b : Bd) (kvs : List (List Key × V)) (u : Int), vs = [.ref ta, .ref t] ∧ H t = some (.tup [l, .int b.more]) ∧ leadV H l b.lead ∧ Rd H ta (.dT kvs) ∧ (b.lead = none → u = 0) ∧ (∀ p h, b.lead = some (p, h) → valV kvs [.inl p, .inl h] = some (.int u)) ∧ Q (.int (u + b.more)) H
theorem ok_p_reachedX (T : All K mg) : FnOk P w K mg base CX0 1 T.f_p_reached T.fd_p_reached ["taken", "bound"] (sp_p_reachedX K) := by
  refine T.d_p_reached.fn.ok sc_p_reached (fun vs H Q E h => ?_) (fun cdv A outer s H vs Q E hr h => ?_)
  · obtain ⟨ta, t, l, b, kvs, u, rfl, _⟩ := h
    rfl
  · obtain ⟨ta, t, l, b, kvs, u, rfl, ht, hl, hta, z0, val, q⟩ := h
    refine ⟨_, (pss_cons (ps_asg (pv 1) (pg_tupK (K := K) rfl rfl (pgs_cons (pg_name (i := 2) sc_p_reached.nd rfl (by first | exact Or.inl rfl | exact Or.inr rfl)) (pgs_cons (pg_name (i := 3) sc_p_reached.nd rfl (by first | exact Or.inl rfl | exact Or.inr rfl)) pgs_nil))))
      (pss_cons (ps_if (pt_cmpR op_isN (pv 2) pe_non (nomark _)) (pss_one (ps_ret (pv 3))) pss_nil)
      (pss_one (ps_ret (pe_op op_add (pe_dget (hu_of hr) (pv 0) (pv 2) (fun _ _ => rfl)) (pv 3)))))), ?_⟩
    obtain ⟨w, le, mo⟩ := b
    refine ⟨_, rfl, t, _, rfl, SqT.of ht, rfl, _, _, rfl, _, _, rfl, rfl, ?_⟩
    cases le with
    | none =>
      obtain rfl : l = .non := hl
      obtain rfl := z0 rfl
      rw [Int.zero_add] at q
      exact ⟨_, rfl, rfl, _, rfl, iteT ⟨_, rfl, q⟩⟩
    | some y =>
      obtain ⟨p, h⟩ := y
      obtain ⟨q0, rfl, hq⟩ := hl
      refine ⟨_, rfl, rfl, _, rfl, iteF ?_⟩
      have g : DGet H ta (.ref q0) (some (.int u)) := .inr ⟨kvs, [.inl p, .inl h], q0, hta, rfl, hq, (val p h rfl).symm⟩
      refine ⟨_, rfl, _, rfl, ta, _, rfl, g, ?_⟩
      exact ⟨_, rfl, _, _, rfl, rfl, q⟩

end
end KR
namespace KR
open PySem PySem.Spec PyProof.Rows L2
section
variable {P : Program} {w : World} {K : PySem.W.Frag} {mg : Str → Option Value} {base : Heap}
def sp_p_is_number (K : PySem.W.Frag) : Sp := fun vs H Q _ => ∃ (Av : Addr → Prop) (B n : Nat) (v : V) (d : PyData), vs = [v] ∧ Tg K Av H B n v d ∧ Q (.bl (isI d)) H
theorem ok_p_is_number (T : All K mg) : FnOk P w K mg base CX0 1 T.f_p_is_number T.fd_p_is_number ["thing"] (sp_p_is_number K) := by
  refine T.d_p_is_number.fn.ok sc_p_is_number (fun vs H Q E h => ?_) (fun cdv A outer s H vs Q E hr h => ?_)
  · obtain ⟨Av, B, n, v, d, rfl, _⟩ := h
    rfl
  · obtain ⟨Av, B, n, v, d, rfl, h, q⟩ := h
    refine ⟨_, (pss_one (ps_ret (pe_and (pe_callB (isiK (K := K) rfl) (by rfl) T.b_isinstance (by decide +kernel) (pa_cons (pv 0) (pa_cons (pe_bltn (v := .ty "int") (by rfl) T.b_int (by decide +kernel) rfl) pa_nil))) (pe_one (pe_not (pe_callB (isiK (K := K) rfl) (by rfl) T.b_isinstance (by decide +kernel) (pa_cons (pv 0) (pa_cons (pe_bltn (v := .ty "bool") (by rfl) T.b_bool (by decide +kernel) rfl) pa_nil)))))))), ?_⟩
    obtain ⟨t, ty, _, _, ki, kb, _⟩ := h.ty
    cases e : isBo d with
    | true =>
      rw [boI e] at q
      rw [e, Bool.or_true] at ki
      rw [e] at kb
      refine ⟨_, rfl, _, _, _, _, _, rfl, .ty _, ty, kit_ty ki, _, rfl, ?_⟩
      refine iteT ?_
      refine ⟨_, rfl, _, _, _, _, _, rfl, .ty _, ty, kit_ty kb, _, rfl, ?_⟩
      exact q
    | false =>
      rw [e, Bool.or_false] at ki
      rw [e] at kb
      refine ⟨_, rfl, _, _, _, _, _, rfl, .ty _, ty, kit_ty ki, _, rfl, ?_⟩
      cases e2 : isI d with
      | true =>
        rw [e2] at q
        refine iteT ?_
        refine ⟨_, rfl, _, _, _, _, _, rfl, .ty _, ty, kit_ty kb, _, rfl, ?_⟩
        exact q
      | false =>
        rw [e2] at q
        refine iteF ?_
        exact q

end
end KR
namespace KR
open PySem PySem.Spec PyProof.Rows L2
section
variable {P : Program} {w : World} {K : PySem.W.Frag} {mg : Str → Option Value} {base : Heap}
def sp_p_is_number_within (K : PySem.W.Frag) : Sp := fun vs H Q _ => ∃ (Av : Addr → Prop) (B n : Nat) (v : V) (d : PyData) (l m : Int), vs = [v, .int l, .int m] ∧ Tg K Av H B n v d ∧ Q (.bl (numIn l m d)) H
theorem ok_p_is_number_within (T : All K mg) : FnOk P w K mg base CX0 2 T.f_p_is_number_within T.fd_p_is_number_within ["thing", "least", "most"] (sp_p_is_number_within K) := by
  refine T.d_p_is_number_within.fn.ok sc_p_is_number_within (fun vs H Q E h => ?_) (fun cdv A outer s H vs Q E hr h => ?_)
  · obtain ⟨Av, B, n, v, d, l, m, rfl, _⟩ := h
    rfl
  · obtain ⟨Av, B, n, v, d, l, m, rfl, h, q⟩ := h
    refine ⟨_, (pss_one (ps_ret (pe_and (pe_call (ok_p_is_number T) hr (by rfl) T.d_p_is_number.mg T.d_p_is_number.fn.kp T.d_p_is_number.b .nil pass0 (pa_cons (pv 0) pa_nil)) (pe_one (pe_chain op_le op_le (pv 1) (pv 0) (pv 2)))))), ?_⟩
    refine ⟨_, rfl, Av, B, n, v, d, rfl, h, _, rfl, ?_⟩
    cases e : isI d with
    | false =>
      rw [numIn_no e] at q
      exact iteF q
    | true =>
      obtain ⟨i, rfl, rfl, _⟩ := h.intI e
      refine iteT ?_
      refine ⟨_, rfl, _, rfl, _, _, rfl, rfl, _, rfl, ?_⟩
      have q2 : Q (.bl (decide (l ≤ i) && decide (i ≤ m))) H := q
      by_cases c : l ≤ i
      · refine ite_bT (decide_eq_true c) ?_
        refine ⟨_, rfl, _, _, rfl, rfl, ?_⟩
        rw [decide_eq_true c] at q2
        exact q2
      · refine ite_bF (decide_eq_false c) ?_
        rw [decide_eq_false c] at q2
        exact q2

end
end KR
namespace KR
open PySem PySem.Spec PyProof.Rows L2
section
variable {P : Program} {w : World} {K : PySem.W.Frag} {mg : Str → Option Value} {base : Heap}
def sp_p__are_ladles (K : PySem.W.Frag) (P : Addr) : Sp := fun vs H Q _ => ∃ (Av : Addr → Prop) (B n : Nat) (v : V) (d : PyData) (h : Int), vs = [v, .int h] ∧ Tg K Av H B n v d ∧ GxR.TabG H P ∧ ∀ H', Sm H H' → Q (.bl (ladB h d)) H'
theorem ok_p__are_ladles (T : All K mg) (B : Tabs T base) : FnOk P w K mg base CX0 4 T.f_p__are_ladles T.fd_p__are_ladles ["thing", "hours"] (sp_p__are_ladles K T.P_p__are_ladles) := by
  refine T.k_p__are_ladles.ok sc_p__are_ladles (fun vs H Q E h => ?_) (fun cdv A outer s H vs Q E hc hr h => ?_)
  · obtain ⟨Av, Bn, n, v, d, h, rfl, _⟩ := h
    rfl
  · obtain ⟨Av, Bn, n, v, d, h, rfl, hv, hT, q⟩ := h
    refine ⟨_, (pss_cons (ps_if (PW.pt (pw_or (pt_not (pt_val (pe_callB (isiK (K := K) rfl) (by rfl) T.b_isinstance (by decide +kernel) (pa_cons (pv 0) (pa_cons (pe_bltn (v := .ty "list") (by rfl) T.b_list (by decide +kernel) rfl) pa_nil))))) (pw_or1 (pt_cmpR op_ne (pe_callB (lenQ (K := K) rfl) (by rfl) T.b_len PySem.boot_len (pa_cons (pv 0) pa_nil)) (pv 1) (nomark _))))) (pss_one (ps_ret pe_bl)) pss_nil)
      (pss_one (ps_ret (pe_allG hr (by rfl) T.b_all (by decide +kernel) B.t_p__are_ladles hc ⟨rfl, rfl, by decide +kernel, by decide +kernel, rfl, rfl⟩ (pi_listK (K := K) rfl (pv 0)) (fun _ _ _ _ _ _ => (pe_call (ok_p_is_number_within T) (room_gen hr) (by rfl) T.d_p_is_number_within.mg T.d_p_is_number_within.fn.kp T.d_p_is_number_within.b .nil pass0 (pa_cons (pv 0) (pa_cons pe_int (pa_cons (pe_glob (v := .int 1000000) rfl T.c_MOST_LADLES ⟨_, rfl⟩) pa_nil))))) (by intro _; rfl))))), ?_⟩
    obtain ⟨ty, hty, kl, _, _, _, _⟩ := hv.ty
    refine ⟨_, rfl, _, _, _, _, _, rfl, .ty _, hty, kit_ty kl, ?_⟩
    cases el : isL d with
    | false =>
      rw [ladB_no el] at q
      exact ⟨_, rfl, iteT (q _ .refl)⟩
    | true =>
    obtain ⟨f, xs, ds, m, rfl, rfl, rfl, hf, tg⟩ := hv.lstI el
    refine ⟨_, rfl, iteF ?_⟩
    refine ⟨_, rfl, f, _, rfl, .inl (SqL.of hf), _, rfl, rfl, _, rfl, ?_⟩
    have q2 : ∀ H', Sm H H' → Q (.bl (decide ((ds.length : Int) = h) && ds.all (numIn 0 1000000))) H' := q
    by_cases cl : (xs.length : Int) = h
    rotate_left
    · rw [decide_eq_false (show ¬ (ds.length : Int) = h by rw [← tg.1]; exact cl)] at q2
      exact ite_nT cl (q2 _ .refl)
    rw [decide_eq_true (show (ds.length : Int) = h by rw [← tg.1]; exact cl)] at q2
    refine ite_nF cl ?_
    refine ⟨_, rfl, f, rfl, ⟨_, SqL.of hf⟩, hT, xs.length, fun i H' => Sm H H' ∧ i ≤ xs.length ∧ (ds.take i).all (numIn 0 1000000) = true, fun H2 tb => ⟨Sm.tabbed tb hT, Nat.zero_le _, rfl⟩, fun i H2 ⟨sm, le, al⟩ => ?_⟩
    by_cases c : i = xs.length
    · rw [List.take_of_length_le (by rw [← tg.1]; omega)] at al
      rw [al] at q2
      exact .inl ⟨⟨_, sm.seq (SqL.of hf), by omega⟩, q2 H2 sm⟩
    · obtain ⟨x, e, ex, ee, tx⟩ := tg.at_ (i := i) (by omega)
      refine .inr ⟨⟨_, _, sm.seq (SqL.of hf), ex⟩, by omega, fun y H3 ⟨e3, hy⟩ => ?_⟩
      subst e3
      obtain rfl := Option.some.inj ((hy _ (sm.seq (SqL.of hf))).symm.trans ex)
      refine ⟨_, rfl, Av, Bn, m, y, e, 0, 1000000, rfl, tx.sm sm, ?_⟩
      cases ck : numIn 0 1000000 e with
      | true => exact ⟨true, rfl, sm, by omega, all_up al ee ck⟩
      | false =>
        rw [all_at ee ck] at q2
        exact ⟨false, rfl, q2 H3 sm⟩

end
end KR
namespace KR
open PySem PySem.Spec PyProof.Rows L2
section
variable {P : Program} {w : World} {K : PySem.W.Frag} {mg : Str → Option Value} {base : Heap}
def sp_p__is_kettle (K : PySem.W.Frag) (P : Addr) : Sp := fun vs H Q _ => ∃ (Av : Addr → Prop) (B n : Nat) (v : V) (d : PyData) (h : Int), vs = [v, .int h] ∧ Tg K Av H B n v d ∧ GxR.TabG H P ∧ ∀ H', Sm H H' → Q (.bl (potB h d)) H'
theorem ok_p__is_kettle (T : All K mg) (B : Tabs T base) : FnOk P w K mg base CX0 5 T.f_p__is_kettle T.fd_p__is_kettle ["thing", "hours"] (sp_p__is_kettle K T.P_p__are_ladles) := by
  refine T.d_p__is_kettle.fn.ok sc_p__is_kettle (fun vs H Q E h => ?_) (fun cdv A outer s H vs Q E hr h => ?_)
  · obtain ⟨Av, Bn, n, v, d, h, rfl, _⟩ := h
    rfl
  · obtain ⟨Av, Bn, n, v, d, h, rfl, hv, hT, q⟩ := h
    refine ⟨_, (pss_cons (ps_if (PW.pt (pw_or (pt_not (pt_val (pe_callB (isiK (K := K) rfl) (by rfl) T.b_isinstance (by decide +kernel) (pa_cons (pv 0) (pa_cons (pe_bltn (v := .ty "tuple") (by rfl) T.b_tuple (by decide +kernel) rfl) pa_nil))))) (pw_or1 (pt_cmpR op_ne (pe_callB (lenQ (K := K) rfl) (by rfl) T.b_len PySem.boot_len (pa_cons (pv 0) pa_nil)) pe_int (nomark _))))) (pss_one (ps_ret pe_bl)) pss_nil)
      (pss_cons (ps_asg (pv 0) (pg_tupK (K := K) rfl rfl (pgs_cons (pg_name (i := 2) sc_p__is_kettle.nd rfl (by first | exact Or.inl rfl | exact Or.inr rfl)) (pgs_cons (pg_name (i := 3) sc_p__is_kettle.nd rfl (by first | exact Or.inl rfl | exact Or.inr rfl)) pgs_nil))))
      (pss_one (ps_ret (pe_and (pe_call (ok_p_is_number_within T) (hr.mono (by decide)) (by rfl) T.d_p_is_number_within.mg T.d_p_is_number_within.fn.kp T.d_p_is_number_within.b .nil pass0 (pa_cons (pv 2) (pa_cons pe_int (pa_cons (pe_glob (v := .int 1000000) rfl T.c_MOST_LADLES ⟨_, rfl⟩) pa_nil)))) (pe_one (pe_call (ok_p__are_ladles T B) hr (by rfl) T.d_p__are_ladles.mg T.d_p__are_ladles.fn.kp T.d_p__are_ladles.b .nil pass0 (pa_cons (pv 3) (pa_cons (pv 1) pa_nil))))))))), ?_⟩
    obtain ⟨ty, hty, _, kty, _, _, _⟩ := hv.ty
    refine ⟨_, rfl, _, _, _, _, _, rfl, .ty _, hty, kit_ty kty, ?_⟩
    cases et : isT d with
    | false =>
      rw [potB_no et] at q
      exact ⟨_, rfl, iteT (q _ .refl)⟩
    | true =>
    obtain ⟨a, xs, ds, m, rfl, rfl, rfl, sq, tg⟩ := hv.tupI et
    refine ⟨_, rfl, iteF ?_⟩
    refine ⟨_, rfl, a, _, rfl, .inr sq, rfl, _, rfl, ?_⟩
    by_cases cl : xs.length = 2
    rotate_left
    · rw [potB_len (by rw [← tg.1]; exact cl)] at q
      exact ite_nT (by omega) (q _ .refl)
    refine ite_nF (by omega) ?_
    obtain ⟨x1, x2, d1, d2, rfl, rfl, t1, t2⟩ := two tg cl
    refine ⟨_, rfl, a, _, rfl, sq, rfl, _, _, rfl, _, _, rfl, rfl, ?_⟩
    refine ⟨_, rfl, Av, Bn, m, x1, d1, 1, 1000000, rfl, t1, _, rfl, ?_⟩
    have q2 : ∀ H', Sm H H' → Q (.bl (numIn 1 1000000 d1 && ladB h d2)) H' := q
    cases c : numIn 1 1000000 d1 with
    | false =>
      rw [c] at q2
      exact iteF (q2 _ .refl)
    | true =>
      rw [c] at q2
      refine iteT ?_
      exact ⟨_, rfl, _, rfl, Av, Bn, m, x2, d2, h, rfl, t2, hT, q2⟩

end
end KR
namespace KR
open PySem PySem.Spec PyProof.Rows L2
section
variable {P : Program} {w : World} {K : PySem.W.Frag} {mg : Str → Option Value} {base : Heap}
def sp_p_is_day (K : PySem.W.Frag) (Ps : List Addr) : Sp := fun vs H Q _ => ∃ (Av : Addr → Prop) (B n : Nat) (v : V) (d : PyData), vs = [v] ∧ Tg K Av H B n v d ∧ Tbs Ps H ∧ ∀ H', Sm H H' → Q (.bl (isDayD d)) H'
theorem ok_p_is_day (T : All K mg) (B : Tabs T base) : FnOk P w K mg base CX0 7 T.f_p_is_day T.fd_p_is_day ["thing"] (sp_p_is_day K T.Ps) := by
  refine T.k_p_is_day.ok sc_p_is_day (fun vs H Q E h => ?_) (fun cdv A outer s H vs Q E hc hr h => ?_)
  · obtain ⟨Av, Bn, n, v, d, rfl, _⟩ := h
    rfl
  · obtain ⟨Av, Bn, n, v, d, rfl, hv, hT, q⟩ := h
    have t1 : GxR.TabG H T.P_p_is_day := hT _ (by simp [All.Ps])
    have t2 : GxR.TabG H T.P_p__are_ladles := hT _ (by simp [All.Ps])
    refine ⟨_, (pss_cons (ps_if (PW.pt (pw_or (pt_not (pt_val (pe_callB (isiK (K := K) rfl) (by rfl) T.b_isinstance (by decide +kernel) (pa_cons (pv 0) (pa_cons (pe_bltn (v := .ty "tuple") (by rfl) T.b_tuple (by decide +kernel) rfl) pa_nil))))) (pw_or1 (pt_cmpR op_ne (pe_callB (lenQ (K := K) rfl) (by rfl) T.b_len PySem.boot_len (pa_cons (pv 0) pa_nil)) pe_int (nomark _))))) (pss_one (ps_ret pe_bl)) pss_nil)
      (pss_cons (ps_asg (pv 0) (pg_tupK (K := K) rfl rfl (pgs_cons (pg_name (i := 1) sc_p_is_day.nd rfl (by first | exact Or.inl rfl | exact Or.inr rfl)) (pgs_cons (pg_name (i := 2) sc_p_is_day.nd rfl (by first | exact Or.inl rfl | exact Or.inr rfl)) (pgs_cons (pg_name (i := 3) sc_p_is_day.nd rfl (by first | exact Or.inl rfl | exact Or.inr rfl)) pgs_nil)))))
      (pss_cons (ps_if (PW.pt (pw_or (pt_not (pt_val (pe_callB (isiK (K := K) rfl) (by rfl) T.b_isinstance (by decide +kernel) (pa_cons (pv 1) (pa_cons (pe_bltn (v := .ty "list") (by rfl) T.b_list (by decide +kernel) rfl) pa_nil))))) (pw_or1 (pt_not (pt_chain op_le op_le pe_int (pe_callB (lenQ (K := K) rfl) (by rfl) T.b_len PySem.boot_len (pa_cons (pv 1) pa_nil)) (pe_glob (v := .int 48) rfl T.c_MOST_HOURS ⟨_, rfl⟩)))))) (pss_one (ps_ret pe_bl)) pss_nil)
      (pss_cons (ps_if (PW.pt (pw_or (pt_not (pt_val (pe_callB (isiK (K := K) rfl) (by rfl) T.b_isinstance (by decide +kernel) (pa_cons (pv 2) (pa_cons (pe_bltn (v := .ty "list") (by rfl) T.b_list (by decide +kernel) rfl) pa_nil))))) (pw_or1 (pt_not (pt_chain op_le op_le pe_int (pe_callB (lenQ (K := K) rfl) (by rfl) T.b_len PySem.boot_len (pa_cons (pv 2) pa_nil)) (pe_glob (v := .int 8) rfl T.c_MOST_KETTLES ⟨_, rfl⟩)))))) (pss_one (ps_ret pe_bl)) pss_nil)
      (pss_cons (ps_set (i := 4) sc_p_is_day.nd rfl (by first | exact Or.inl rfl | exact Or.inr rfl) (pe_callB (lenQ (K := K) rfl) (by rfl) T.b_len PySem.boot_len (pa_cons (pv 1) pa_nil)))
      (pss_cons (ps_if (PW.pt (pw_or (pt_not (pt_val (pe_call (ok_p__are_ladles T B) (hr.mono (by decide)) (by rfl) T.d_p__are_ladles.mg T.d_p__are_ladles.fn.kp T.d_p__are_ladles.b .nil pass0 (pa_cons (pv 1) (pa_cons (pv 4) pa_nil))))) (pw_or1 (pt_not (pt_val (pe_call (ok_p__are_ladles T B) (hr.mono (by decide)) (by rfl) T.d_p__are_ladles.mg T.d_p__are_ladles.fn.kp T.d_p__are_ladles.b .nil pass0 (pa_cons (pv 3) (pa_cons (pv 4) pa_nil)))))))) (pss_one (ps_ret pe_bl)) pss_nil)
      (pss_one (ps_ret (pe_allF (jy := 4) hr (by rfl) T.b_all (by decide +kernel) B.t_p_is_day hc ⟨rfl, rfl, by decide +kernel, by decide +kernel, fun _ => rfl, rfl, rfl, rfl⟩ rfl rfl (pi_listK (K := K) rfl (pv 2)) (fun _ _ _ _ _ _ _ => (pe_call (ok_p__is_kettle T B) (room_gen hr) (by rfl) T.d_p__is_kettle.mg T.d_p__is_kettle.fn.kp T.d_p__is_kettle.b .nil pass0 (pa_cons (pv 0) (pa_cons (pv 1) pa_nil)))) (by intro _; rfl)))))))))), ?_⟩
    obtain ⟨ty, hty, _, kty, _, _, _⟩ := hv.ty
    refine ⟨_, rfl, _, _, _, _, _, rfl, .ty _, hty, kit_ty kty, ?_⟩
    cases et : isT d with
    | false =>
      rw [isDayD_no et] at q
      exact ⟨_, rfl, iteT (q _ .refl)⟩
    | true =>
    obtain ⟨a, xs, ds, m, rfl, rfl, rfl, sq, tg⟩ := hv.tupI et
    refine ⟨_, rfl, iteF ?_⟩
    refine ⟨_, rfl, a, _, rfl, .inr sq, rfl, _, rfl, ?_⟩
    by_cases cl : xs.length = 3
    rotate_left
    · rw [isDayD_len (by rw [← tg.1]; exact cl)] at q
      exact ite_nT (by omega) (q _ .refl)
    refine ite_nF (by omega) ?_
    obtain ⟨x1, x2, x3, d1, d2, d3, rfl, rfl, g1, g2, g3⟩ := threeT tg cl
    refine ⟨_, rfl, a, _, rfl, sq, rfl, _, _, rfl, _, _, rfl, _, _, rfl, rfl, ?_⟩
    obtain ⟨ty1, hty1, kl1, _, _, _, _⟩ := g1.ty
    refine ⟨_, rfl, _, _, _, _, _, rfl, .ty _, hty1, kit_ty kl1, ?_⟩
    cases e1 : isL d1 with
    | false =>
      rw [isDayD_c (.inl e1)] at q
      exact ⟨_, rfl, iteT (q _ .refl)⟩
    | true =>
    obtain ⟨f1, cs, dc, m1, rfl, rfl, rfl, hf1, tg1⟩ := g1.lstI e1
    refine ⟨_, rfl, iteF ?_⟩
    have lc : cs.length = dc.length := tg1.1
    refine ⟨_, rfl, f1, _, rfl, .inl (SqL.of hf1), _, _, rfl, rfl, _, rfl, ?_⟩
    by_cases c1 : 1 ≤ dc.length
    rotate_left
    · have z : isDayD (.tuple [.list dc, d2, d3]) = false := by
        cases d2 <;> first | rfl | (show ((decide (1 ≤ dc.length) && _) && _ && _ && _) = false; rw [decide_eq_false c1] <;> rfl)
      rw [z] at q
      exact ite_bF (decide_eq_false (by omega)) ⟨_, rfl, iteT (q H .refl)⟩
    refine ite_bT (decide_eq_true (by omega)) ?_
    refine ⟨_, _, rfl, rfl, _, rfl, ?_⟩
    by_cases c48 : dc.length ≤ 48
    rotate_left
    · have z : isDayD (.tuple [.list dc, d2, d3]) = false := by
        cases d2 <;> first | rfl | (show ((decide (1 ≤ dc.length) && decide (dc.length ≤ 48)) && _ && _ && _) = false; rw [decide_eq_false c48, Bool.and_false] <;> rfl)
      rw [z] at q
      rw [decide_eq_false (show ¬ ((cs.length : Nat) : Int) ≤ 48 by omega)]
      exact iteT (q H .refl)
    rw [decide_eq_true (show ((cs.length : Nat) : Int) ≤ 48 by omega)]
    refine iteF ?_
    obtain ⟨ty2, hty2, kl2, _, _, _, _⟩ := g2.ty
    refine ⟨_, rfl, _, _, _, _, _, rfl, .ty _, hty2, kit_ty kl2, ?_⟩
    cases e2 : isL d2 with
    | false =>
      rw [isDayD_c (.inr e2)] at q
      exact ⟨_, rfl, iteT (q _ .refl)⟩
    | true =>
    obtain ⟨f2, ks, dk, m2, rfl, rfl, em2, hf2, tg2⟩ := g2.lstI e2
    have lk : ks.length = dk.length := tg2.1
    refine ⟨_, rfl, iteF ?_⟩
    have q2 : ∀ H', Sm H H' → Q (.bl ((decide (1 ≤ dc.length) && decide (dc.length ≤ 48)) && (decide (1 ≤ dk.length) && decide (dk.length ≤ 8)) && (ladB (dc.length : Int) (.list dc) && ladB (dc.length : Int) d3) && dk.all (potB (dc.length : Int)))) H' := q
    rw [decide_eq_true c1, decide_eq_true c48] at q2
    refine ⟨_, rfl, f2, _, rfl, .inl (SqL.of hf2), _, _, rfl, rfl, _, rfl, ?_⟩
    by_cases k1 : 1 ≤ dk.length
    rotate_left
    · rw [decide_eq_false k1] at q2
      exact ite_bF (decide_eq_false (by omega)) ⟨_, rfl, iteT (q2 H .refl)⟩
    rw [decide_eq_true k1] at q2
    refine ite_bT (decide_eq_true (by omega)) ?_
    refine ⟨_, _, rfl, rfl, _, rfl, ?_⟩
    by_cases k8 : dk.length ≤ 8
    rotate_left
    · rw [decide_eq_false k8] at q2
      rw [decide_eq_false (show ¬ ((ks.length : Nat) : Int) ≤ 8 by omega)]
      exact iteT (q2 H .refl)
    rw [decide_eq_true k8] at q2
    rw [decide_eq_true (show ((ks.length : Nat) : Int) ≤ 8 by omega)]
    refine iteF ?_
    refine ⟨_, rfl, f1, _, rfl, .inl (SqL.of hf1), ?_⟩
    rw [lc]
    refine ⟨_, rfl, _, rfl, Av, Bn, _, _, _, (dc.length : Int), rfl, g1, t2, fun H1 s1 => ⟨_, rfl, ?_⟩⟩
    cases l1 : ladB (dc.length : Int) (.list dc) with
    | false =>
      rw [l1] at q2
      exact iteT (q2 H1 s1)
    | true =>
    rw [l1] at q2
    refine iteF ?_
    refine ⟨_, rfl, _, rfl, Av, Bn, _, _, _, (dc.length : Int), rfl, g3.sm s1, s1.tab _ t2, fun H2 s2 => ⟨_, rfl, ?_⟩⟩
    have s02 := s1.trans s2
    cases l2 : ladB (dc.length : Int) d3 with
    | false =>
      rw [l2] at q2
      exact iteT (q2 H2 s02)
    | true =>
    rw [l2] at q2
    refine iteF ?_
    have q3 : ∀ H', Sm H H' → Q (.bl (dk.all (potB (dc.length : Int)))) H' := q2
    have t12 := s02.tab _ t1
    refine ⟨_, rfl, f2, rfl, ⟨_, s02.seq (SqL.of hf2)⟩, t12, .int (dc.length : Int), ks.length, fun i H' => Sm H H' ∧ i ≤ ks.length ∧ (dk.take i).all (potB (dc.length : Int)) = true, rfl, fun H3 tb => ⟨s02.trans (Sm.tabbed tb t12), Nat.zero_le _, rfl⟩, fun i H3 ⟨sm, le, al⟩ => ?_⟩
    by_cases c : i = ks.length
    · rw [List.take_of_length_le (by omega)] at al
      rw [al] at q3
      exact .inl ⟨⟨_, sm.seq (SqL.of hf2), by omega⟩, q3 H3 sm⟩
    · obtain ⟨x, e, ex, ee, tx⟩ := tg2.at_ (i := i) (by omega)
      refine .inr ⟨⟨_, _, sm.seq (SqL.of hf2), ex⟩, by omega, fun y H4 ⟨e3, hy⟩ => ?_⟩
      subst e3
      obtain rfl := Option.some.inj ((hy _ (sm.seq (SqL.of hf2))).symm.trans ex)
      refine ⟨_, rfl, _, rfl, Av, Bn, m2, y, e, (dc.length : Int), rfl, tx.sm sm, sm.tab _ t2, fun H5 s5 => ?_⟩
      cases ck : potB (dc.length : Int) e with
      | true => exact ⟨true, rfl, sm.trans s5, by omega, all_up al ee ck⟩
      | false =>
        rw [all_at ee ck] at q3
        exact ⟨false, rfl, q3 H5 (sm.trans s5)⟩

end
end KR
namespace KR
open PySem PySem.Spec PyProof.Rows L2
section
variable {P : Program} {w : World} {K : PySem.W.Frag} {mg : Str → Option Value} {base : Heap}
def sp_p__is_place_of_plan (K : PySem.W.Frag) (P : Addr) : Sp := fun vs H Q _ => ∃ (Av : Addr → Prop) (B n : Nat) (v : V) (d : PyData) (h : Int), vs = [v, .int h] ∧ Tg K Av H B n v d ∧ GxR.TabG H P ∧ ∀ H', Sm H H' → Q (.bl (placeB h d)) H'
theorem ok_p__is_place_of_plan (T : All K mg) (B : Tabs T base) : FnOk P w K mg base CX0 3 T.f_p__is_place_of_plan T.fd_p__is_place_of_plan ["thing", "hours"] (sp_p__is_place_of_plan K T.P_p__is_place_of_plan) := by
  refine T.k_p__is_place_of_plan.ok sc_p__is_place_of_plan (fun vs H Q E h => ?_) (fun cdv A outer s H vs Q E hc hr h => ?_)
  · obtain ⟨Av, Bn, n, v, d, h, rfl, _⟩ := h
    rfl
  · obtain ⟨Av, Bn, n, v, d, h, rfl, hv, hT, q⟩ := h
    refine ⟨_, (pss_cons (ps_if (PW.pt (pw_or (pt_not (pt_val (pe_callB (isiK (K := K) rfl) (by rfl) T.b_isinstance (by decide +kernel) (pa_cons (pv 0) (pa_cons (pe_bltn (v := .ty "list") (by rfl) T.b_list (by decide +kernel) rfl) pa_nil))))) (pw_or1 (pt_cmpR op_ne (pe_callB (lenQ (K := K) rfl) (by rfl) T.b_len PySem.boot_len (pa_cons (pv 0) pa_nil)) (pv 1) (nomark _))))) (pss_one (ps_ret pe_bl)) pss_nil)
      (pss_one (ps_ret (pe_allG hr (by rfl) T.b_all (by decide +kernel) B.t_p__is_place_of_plan hc ⟨rfl, rfl, by decide +kernel, by decide +kernel, rfl, rfl⟩ (pi_listK (K := K) rfl (pv 0)) (fun _ _ _ _ _ _ => (pe_and (pe_call (ok_p_is_number T) (room_gen hr) (by rfl) T.d_p_is_number.mg T.d_p_is_number.fn.kp T.d_p_is_number.b .nil pass0 (pa_cons (pv 0) pa_nil)) (pe_one (pe_cmpR op_ge (pv 0) pe_int (nomark _))))) (by intro _; rfl))))), ?_⟩
    obtain ⟨ty, hty, kl, _, _, _, _⟩ := hv.ty
    refine ⟨_, rfl, _, _, _, _, _, rfl, .ty _, hty, kit_ty kl, ?_⟩
    cases el : isL d with
    | false =>
      rw [placeB_no el] at q
      exact ⟨_, rfl, iteT (q _ .refl)⟩
    | true =>
    obtain ⟨f, xs, ds, m, rfl, rfl, rfl, hf, tg⟩ := hv.lstI el
    refine ⟨_, rfl, iteF ?_⟩
    refine ⟨_, rfl, f, _, rfl, .inl (SqL.of hf), _, rfl, rfl, _, rfl, ?_⟩
    have q2 : ∀ H', Sm H H' → Q (.bl (decide ((ds.length : Int) = h) && ds.all nnB)) H' := q
    by_cases cl : (xs.length : Int) = h
    rotate_left
    · rw [decide_eq_false (show ¬ (ds.length : Int) = h by rw [← tg.1]; exact cl)] at q2
      exact ite_nT cl (q2 _ .refl)
    rw [decide_eq_true (show (ds.length : Int) = h by rw [← tg.1]; exact cl)] at q2
    refine ite_nF cl ?_
    refine ⟨_, rfl, f, rfl, ⟨_, SqL.of hf⟩, hT, xs.length, fun i H' => Sm H H' ∧ i ≤ xs.length ∧ (ds.take i).all nnB = true, fun H2 tb => ⟨Sm.tabbed tb hT, Nat.zero_le _, rfl⟩, fun i H2 ⟨sm, le, al⟩ => ?_⟩
    by_cases c : i = xs.length
    · rw [List.take_of_length_le (by rw [← tg.1]; omega)] at al
      rw [al] at q2
      exact .inl ⟨⟨_, sm.seq (SqL.of hf), by omega⟩, q2 H2 sm⟩
    · obtain ⟨x, e, ex, ee, tx⟩ := tg.at_ (i := i) (by omega)
      refine .inr ⟨⟨_, _, sm.seq (SqL.of hf), ex⟩, by omega, fun y H3 ⟨e3, hy⟩ => ?_⟩
      subst e3
      obtain rfl := Option.some.inj ((hy _ (sm.seq (SqL.of hf))).symm.trans ex)
      have no : nnB e = false → Q (.bl false) H3 := fun z => by
        rw [all_at ee z] at q2
        exact q2 H3 sm
      refine ⟨_, rfl, Av, Bn, m, y, e, rfl, tx.sm sm, _, rfl, ?_⟩
      cases ei : isI e with
      | false => exact iteF ⟨false, rfl, no (nnB_no ei)⟩
      | true =>
        obtain ⟨z, rfl, rfl, _⟩ := tx.intI ei
        refine iteT ?_
        refine ⟨_, rfl, _, _, rfl, rfl, _, rfl, ?_⟩
        by_cases c0 : 0 ≤ z
        · exact ite_bT (decide_eq_true c0) ⟨sm, by omega, all_up al ee (decide_eq_true c0)⟩
        · exact ite_bF (decide_eq_false c0) (no (decide_eq_false c0))

end
end KR
namespace KR
open PySem PySem.Spec PyProof.Rows L2
section
variable {P : Program} {w : World} {K : PySem.W.Frag} {mg : Str → Option Value} {base : Heap}
def sp_p__taken_by (K : PySem.W.Frag) : Sp := fun vs H Q _ => ∃ (Av : Addr → Prop) (f : Addr) (rs : List Addr) (Xs : List (List Int)) (h : Nat), vs = [.ref f] ∧ H f = some (.lst (rs.map V.ref)) ∧ RowsP H Av rs Xs ∧ Xs.length ≤ 9 ∧ h ≤ 48 ∧ (∀ r ∈ Xs, r.length = h) ∧ ∀ (ta : Addr) (kvs : List (List Key × V)) (H' : Hp), Same H H' → H ta = none → H' ta = some (.dT kvs) → TakenX (rowF Xs) kvs (fun p t => p < Xs.length ∧ t ≤ h) → Q (.ref ta) H'
theorem ok_p__taken_by (T : All K mg) : FnOk P w K mg base CX0 1 T.f_p__taken_by T.fd_p__taken_by ["plan"] (sp_p__taken_by K) := by
  refine T.d_p__taken_by.fn.ok sc_p__taken_by (fun vs H Q E h => ?_) (fun cdv A outer s H vs Q E hr h => ?_)
  · obtain ⟨Av, f, rs, Xs, h, rfl, _⟩ := h
    rfl
  · obtain ⟨Av, f, rs, Xs, h, rfl, hf, R, x9, h48, lens, q⟩ := h
    refine ⟨_, (pss_cons (ps_set (i := 1) sc_p__taken_by.nd rfl (by first | exact Or.inl rfl | exact Or.inr rfl) pe_dnewT)
      (pss_cons (ps_for PassesOwn.never rfl (pi_enumB (K := K) rfl (by rfl) T.b_enumerate (pa_cons (pv 0) pa_nil)) (pg_tupK (K := K) rfl rfl (pgs_cons (pg_name (i := 2) sc_p__taken_by.nd rfl (by first | exact Or.inl rfl | exact Or.inr rfl)) (pgs_cons (pg_name (i := 3) sc_p__taken_by.nd rfl (by first | exact Or.inl rfl | exact Or.inr rfl)) pgs_nil))) (pss_cons (ps_asg pe_int (pg_sub (pv 1) (pe_tupI (pa_cons (pv 2) (pa_cons (pe_glob (v := .int (-1)) rfl T.c_AHEAD_OF_ALL ⟨_, rfl⟩) pa_nil))) (set_dict (hu_of hr))))
      (pss_one (ps_for PassesOwn.never rfl (pi_enumB (K := K) rfl (by rfl) T.b_enumerate (pa_cons (pv 3) pa_nil)) (pg_tupK (K := K) rfl rfl (pgs_cons (pg_name (i := 4) sc_p__taken_by.nd rfl (by first | exact Or.inl rfl | exact Or.inr rfl)) (pgs_cons (pg_name (i := 5) sc_p__taken_by.nd rfl (by first | exact Or.inl rfl | exact Or.inr rfl)) pgs_nil))) (pss_one (ps_asg (pe_op op_add (pe_dget (hu_of hr) (pv 1) (pe_tupI (pa_cons (pv 2) (pa_cons (pe_op op_sub (pv 4) pe_int) pa_nil))) (fun _ _ => rfl)) (pv 5)) (pg_sub (pv 1) (pe_tupI (pa_cons (pv 2) (pa_cons (pv 4) pa_nil))) (set_dict (hu_of hr)))))))))
      (pss_one (ps_ret (pv 1))))), ?_⟩
    refine fun ta nta => ?_
    have fta : f ≠ ta := ne_of_none hf nta
    have lr : rs.length = Xs.length := R.1
    have s0 : Same H (upd H ta (.dT [])) := same_new nta
    have h0 : (upd H ta (.dT [])) ta = some (.dT []) := upd_same
    generalize upd H ta (.dT []) = H1 at s0 h0
    refine ⟨_, rfl, f, _, true, rfl, SqL.of (s0 _ _ hf), for_it (walk_enumB (K := K) (a := f) (xs := rs.map V.ref) (p := true)) (fun i σ H' => ∃ (kvs : List (List Key × V)) (v2 v3 v4 v5 : Option V), σ = [some (.ref f), some (.ref ta), v2, v3, v4, v5] ∧ Same H H' ∧ H' ta = some (.dT kvs) ∧ kvs.length ≤ 49 * i ∧ TakenX (rowF Xs) kvs fun p t => p < i ∧ t ≤ h)
      ⟨[], none, none, none, none, rfl, s0, h0, Nat.zero_le _, ⟨fun kv m => absurd m List.not_mem_nil, fun p t d => absurd d.1 (Nat.not_lt_zero _)⟩⟩ (fun i σ H' _ ⟨_, _, _, _, _, _, s, _⟩ => SqL.of (s _ _ hf)) ?_ ?_⟩
    · rintro i v σ H2 H3 hi ⟨kvs, v2, v3, v4, v5, rfl, s2, hta, kl, tx⟩ ⟨T0, x0, y0, rfl, hT, rfl, e0, ex⟩
      rw [List.length_map] at hi
      obtain rfl := Option.some.inj e0
      have ex' : (rs.map V.ref)[i]? = some y0 := ex
      rw [List.getElem?_map] at ex'
      obtain ⟨r, er, rfl⟩ := Option.map_eq_some_iff.mp ex'
      have hi' : i < Xs.length := by omega
      obtain ⟨xs, exs⟩ : ∃ xs, Xs[i]? = some xs := ⟨_, List.getElem?_eq_getElem hi'⟩
      have lx := lens xs (List.mem_of_getElem? exs)
      have eF := rowF_at exs
      have hr0 := (R.2 i r xs er exs).1
      have sT : Same H2 (upd H2 T0 (.tup [.int (i : Nat), .ref r])) := same_new hT
      have hT5 : (upd H2 T0 (.tup [.int (i : Nat), .ref r])) T0 = some (.tup [.int (i : Nat), .ref r]) := upd_same
      generalize upd H2 T0 (.tup [.int (i : Nat), .ref r]) = H3 at sT hT5
      refine ⟨T0, _, rfl, SqT.of hT5, rfl, _, _, rfl, _, _, rfl, rfl, ?_⟩
      refine ⟨_, rfl, _, rfl, rfl, fun k0 H4 s4 n4 h4 => ?_⟩
      have s24 := sT.trans s4
      have hta4 := s24 _ _ hta
      refine ⟨ta, _, rfl, .t (k := kk i 0) hta4 h4 (small' (by omega)), ?_⟩
      have sU : Same H (upd H4 ta (.dT (putK kvs (kk i 0) (.int 0)))) := Same.put (s2.trans s24) nta
      have hU : (upd H4 ta (.dT (putK kvs (kk i 0) (.int 0)))) ta = some (.dT (putK kvs (kk i 0) (.int 0))) := upd_same
      generalize upd H4 ta (.dT (putK kvs (kk i 0) (.int 0))) = H5 at sU hU
      have tx0 : TakenX (rowF Xs) (putK kvs (kk i 0) (.int 0)) (fun p t => (p < i ∧ t ≤ h) ∨ (p = i ∧ t ≤ 0)) := by
        have z := tx.put (d' := fun p t => (p < i ∧ t ≤ h) ∨ (p = i ∧ t ≤ 0)) i 0 (fun z => absurd z.1 (Nat.lt_irrefl _)) fun p' t' => by omega
        rw [PS_zero] at z
        exact z
      have kl0 := length_putK kvs (kk i 0) (.int 0)
      refine ⟨_, rfl, r, _, true, rfl, SqL.of (sU _ _ hr0), for_it (walk_enumB (K := K) (a := r) (xs := xs.map V.int) (p := true)) (fun t σ H' => ∃ (kvs : List (List Key × V)) (v4 v5 : Option V), σ = [some (.ref f), some (.ref ta), some (.int (i : Nat)), some (.ref r), v4, v5] ∧ Same H H' ∧ H' ta = some (.dT kvs) ∧ kvs.length ≤ 49 * i + 1 + t ∧ TakenX (rowF Xs) kvs fun p t' => (p < i ∧ t' ≤ h) ∨ (p = i ∧ t' ≤ t))
        ⟨_, _, _, rfl, sU, hU, by omega, tx0⟩ (fun i σ H' _ ⟨_, _, _, _, s, _⟩ => SqL.of (s _ _ hr0)) ?_ ?_⟩
      · rintro t v σ H6 H7 ht ⟨kvs, v4, v5, rfl, s6, hta6, kl6, tx6⟩ ⟨T1, x1, y1, rfl, hT1, rfl, e1, ex1⟩
        rw [List.length_map] at ht
        obtain rfl := Option.some.inj e1
        have ex2 : (xs.map V.int)[t]? = some y1 := ex1
        rw [ints_get ht] at ex2
        obtain rfl := Option.some.inj ex2
        have sT1 : Same H6 (upd H6 T1 (.tup [.int (t : Nat), .int (xs.getD t 0)])) := same_new hT1
        have hT6 : (upd H6 T1 (.tup [.int (t : Nat), .int (xs.getD t 0)])) T1 = some (.tup [.int (t : Nat), .int (xs.getD t 0)]) := upd_same
        generalize upd H6 T1 (.tup [.int (t : Nat), .int (xs.getD t 0)]) = H7 at sT1 hT6
        refine ⟨T1, _, rfl, SqT.of hT6, rfl, _, _, rfl, _, _, rfl, rfl, ?_⟩
        refine ⟨_, rfl, _, rfl, _, rfl, _, _, rfl, rfl, rfl, fun k1 H8 s8 n8 h8 => ?_⟩
        have s68 := sT1.trans s8
        have hta8 := s68 _ _ hta6
        have g : DGet H8 ta (.ref k1) (some (.int (PS (rowF Xs) i t))) := by
          rw [← tx6.at_ i t (.inr ⟨rfl, Nat.le_refl _⟩)]
          exact .t (k := kk i t) hta8 h8
        refine ⟨ta, _, rfl, g, ?_⟩
        refine ⟨_, rfl, _, _, rfl, rfl, ?_⟩
        refine ⟨_, rfl, _, rfl, _, rfl, rfl, fun k2 H9 s9 n9 h9 => ?_⟩
        have h9' : H9 k2 = some (.tup [.int (i : Int), .int (((t + 1 : Nat) : Int) - 1)]) := by
          rw [show ((t + 1 : Nat) : Int) - 1 = (t : Int) by omega]
          exact h9
        have s69 := s68.trans s9
        have hta9 := s69 _ _ hta6
        have ev : PS (rowF Xs) i t + xs.getD t 0 = PS (rowF Xs) i (t + 1) := by
          rw [PS_succ (by rw [eF]; exact ht)]
          unfold PX
          rw [eF]
        show rSetD (V.ref ta) _ (V.int (PS (rowF Xs) i t + xs.getD t 0)) H9 _
        rw [ev]
        refine ⟨ta, _, rfl, .t (k := kk i (t + 1)) hta9 h9' (small' (by omega)), ?_⟩
        have kl9 := length_putK kvs (kk i (t + 1)) (.int (PS (rowF Xs) i (t + 1)))
        exact ⟨_, _, _, rfl, Same.put (s6.trans s69) nta, upd_same, by omega, tx6.put i (t + 1) (fun z => by omega) fun p' t' => by omega⟩
      · rintro σ H6 ⟨kvs, v4, v5, rfl, s6, hta6, kl6, tx6⟩
        rw [List.length_map] at kl6 tx6
        exact ⟨kvs, _, _, _, _, rfl, s6, hta6, by omega, ⟨fun kv m => by
          obtain ⟨p, t, a1, a2, a3⟩ := tx6.all kv m
          exact ⟨p, t, a1, by omega, a3⟩, fun p t d => tx6.at_ p t (by omega)⟩⟩
    · rintro σ H2 ⟨kvs, v2, v3, v4, v5, rfl, s2, hta, kl, tx⟩
      rw [List.length_map, lr] at tx
      exact ⟨_, rfl, q ta kvs H2 s2 nta hta tx⟩

end
end KR
namespace KR
open PySem PySem.Spec PyProof.Rows L2
section
variable {P : Program} {w : World} {K : PySem.W.Frag} {mg : Str → Option Value} {base : Heap}
def sp_p_shows_plan (K : PySem.W.Frag) (Ps : List Addr) : Sp := fun vs H Q _ => ∃ (p d : Addr) (x : DyP) (D : Dy) (Av : Addr → Prop) (B n : Nat) (v : V) (e : PyData), vs = [.ref d, v] ∧ DayAt K H p d x D ∧ DyOk D ∧ Tg K Av H B n v e ∧ Tbs Ps H ∧ ∀ (b : Bool) (H' : Hp), (b = true ↔ IsPlan D e) → Sm H H' → Q (.bl b) H'
theorem DayAt.sm {K : PySem.W.Frag} {H H' : Hp} {p a : Addr} {x : DyP} {D : Dy} (h : DayAt K H p a x D) (s : Sm H H') : DayAt K H' p a x D := by
  have sb : ∀ {a : Addr} {xs : List V} {b : Bool}, SqB K H a xs b → SqB K H' a xs b := fun {a xs b} h => by
    cases b with
    | true => exact s.seq h
    | false => exact s.tup h
  exact ⟨s.tup h.at_, ⟨sb h.cs.1, h.cs.2⟩, sb h.ks, h.kp, ⟨sb h.ss.1, h.ss.2⟩, h.len, fun j a k e1 e2 => by
    obtain ⟨t, b, h1, h2⟩ := (h.kt j a k e1 e2).ex
    exact ⟨t, b, s.tup h1, ⟨sb h2.1, h2.2⟩⟩⟩
theorem ok_p_shows_plan (T : All K mg) (B : Tabs T base) : FnOk P w K mg base CX0 5 T.f_p_shows_plan T.fd_p_shows_plan ["day", "thing"] (sp_p_shows_plan K T.Ps) := by
  refine T.k_p_shows_plan.ok sc_p_shows_plan (fun vs H Q E h => ?_) (fun cdv A outer s H vs Q E hc hr h => ?_)
  · obtain ⟨p, d, x, D, Av, Bn, n, v, e, rfl, _⟩ := h
    rfl
  · obtain ⟨p, d, x, D, Av, Bn, n, v, e, rfl, hD, O, hv, hT, q⟩ := h
    have t1 : GxR.TabG H T.P_p_shows_plan := hT _ (by simp [All.Ps])
    have t2 : GxR.TabG H T.P_p__is_place_of_plan := hT _ (by simp [All.Ps])
    refine ⟨_, (pss_cons (ps_if (PW.pt (pw_or (pt_not (pt_val (pe_callB (isiK (K := K) rfl) (by rfl) T.b_isinstance (by decide +kernel) (pa_cons (pv 1) (pa_cons (pe_bltn (v := .ty "list") (by rfl) T.b_list (by decide +kernel) rfl) pa_nil))))) (pw_or1 (pt_cmpR op_ne (pe_callB (lenQ (K := K) rfl) (by rfl) T.b_len PySem.boot_len (pa_cons (pv 1) pa_nil)) (pe_call (ok_p_places_in T) (hr.mono (by decide)) (by rfl) T.d_p_places_in.mg T.d_p_places_in.fn.kp T.d_p_places_in.b .nil pass0 (pa_cons (pv 0) pa_nil)) (nomark _))))) (pss_one (ps_ret pe_bl)) pss_nil)
      (pss_cons (ps_if (pt_not (pt_val (pe_allF (jy := 0) hr (by rfl) T.b_all (by decide +kernel) B.t_p_shows_plan hc ⟨rfl, rfl, by decide +kernel, by decide +kernel, fun _ => rfl, rfl, rfl, rfl⟩ rfl rfl (pi_listK (K := K) rfl (pv 1)) (fun _ _ _ _ _ _ _ => (pe_call (ok_p__is_place_of_plan T B) (room_gen hr) (by rfl) T.d_p__is_place_of_plan.mg T.d_p__is_place_of_plan.fn.kp T.d_p__is_place_of_plan.b .nil pass0 (pa_cons (pv 0) (pa_cons (pe_call (ok_p_hours_in T) ((room_gen hr).mono (by decide)) (by rfl) T.d_p_hours_in.mg T.d_p_hours_in.fn.kp T.d_p_hours_in.b .nil pass0 (pa_cons (pv 1) pa_nil)) pa_nil)))) (by intro _; rfl)))) (pss_one (ps_ret pe_bl)) pss_nil)
      (pss_cons (ps_set (i := 3) sc_p_shows_plan.nd rfl (by first | exact Or.inl rfl | exact Or.inr rfl) (pe_call (ok_p__taken_by T) (hr.mono (by decide)) (by rfl) T.d_p__taken_by.mg T.d_p__taken_by.fn.kp T.d_p__taken_by.b .nil pass0 (pa_cons (pv 1) pa_nil)))
      (pss_cons (ps_lock (ps_for PassesOwn.never rfl (pi_keys (pv 3)) (pg_tupK (K := K) rfl rfl (pgs_cons (pg_name (i := 4) sc_p_shows_plan.nd rfl (by first | exact Or.inl rfl | exact Or.inr rfl)) (pgs_cons (pg_name (i := 5) sc_p_shows_plan.nd rfl (by first | exact Or.inl rfl | exact Or.inr rfl)) pgs_nil))) (pss_one (ps_for PassesOwn.never rfl (pi_values (pe_frz (pe_call (ok_p_bounds_at T) (hr.mono (by decide)) (by rfl) T.d_p_bounds_at.mg T.d_p_bounds_at.fn.kp T.d_p_bounds_at.b .nil pass0 (pa_cons (pv 0) (pa_cons (pv 4) (pa_cons (pv 5) pa_nil)))))) (pg_name (i := 6) sc_p_shows_plan.nd rfl (by first | exact Or.inl rfl | exact Or.inr rfl)) (pss_one (ps_if (pt_cmpR op_gt (pe_dget (hu_of hr) (pv 3) (pe_tupI (pa_cons (pv 4) (pa_cons (pv 5) pa_nil))) (fun _ _ => rfl)) (pe_call (ok_p_reachedX T) (hr.mono (by decide)) (by rfl) T.d_p_reached.mg T.d_p_reached.fn.kp T.d_p_reached.b .nil pass0 (pa_cons (pv 3) (pa_cons (pv 6) pa_nil))) (nomark _)) (pss_one (ps_ret pe_bl)) pss_nil))))))
      (pss_one (ps_ret pe_bl)))))), ?_⟩
    have k1 := O.k1
    have k2 := O.k2
    have h2 := O.h2
    obtain ⟨ty, hty, kl, _, _, _, _⟩ := hv.ty
    refine ⟨_, rfl, _, _, _, _, _, rfl, .ty _, hty, kit_ty kl, ?_⟩
    cases el : isL e with
    | false => exact ⟨_, rfl, iteT (q false _ ⟨(fun z => nomatch z), fun z => absurd z (isPlan_L el)⟩ .refl)⟩
    | true =>
    obtain ⟨f, xs, ds, m, rfl, rfl, rfl, hf, tg⟩ := hv.lstI el
    have lx : xs.length = ds.length := tg.1
    refine ⟨_, rfl, iteF ?_⟩
    refine ⟨_, rfl, f, _, rfl, .inl (SqL.of hf), _, rfl, p, d, x, D, rfl, hD, rfl, _, rfl, ?_⟩
    by_cases cl : ds.length = D.ks.length + 1
    rotate_left
    · exact ite_nT (by omega) (q false _ ⟨(fun z => nomatch z), fun z => absurd (isPlan_rows z).1 cl⟩ .refl)
    refine ite_nF (by omega) ?_
    refine ⟨_, rfl, f, rfl, ⟨_, SqL.of hf⟩, t1, .ref d, xs.length, fun i H' => Sm H H' ∧ i ≤ xs.length ∧ (ds.take i).all (placeB (D.cs.length : Int)) = true, rfl, fun H3 tb => ⟨Sm.tabbed tb t1, Nat.zero_le _, rfl⟩, fun i H3 ⟨sm, le, al⟩ => ?_⟩
    by_cases c : i = xs.length
    rotate_left
    · obtain ⟨x0, e, ex, ee, tx⟩ := tg.at_ (i := i) (by omega)
      refine .inr ⟨⟨_, _, sm.seq (SqL.of hf), ex⟩, by omega, fun y H4 ⟨e3, hy⟩ => ?_⟩
      subst e3
      obtain rfl := Option.some.inj ((hy _ (sm.seq (SqL.of hf))).symm.trans ex)
      refine ⟨_, rfl, _, rfl, p, d, x, D, rfl, hD.sm sm, Av, Bn, m, y, e, (D.cs.length : Int), rfl, tx.sm sm, sm.tab _ t2, fun H5 s5 => ?_⟩
      cases ck : placeB (D.cs.length : Int) e with
      | true => exact ⟨true, rfl, sm.trans s5, by omega, all_up al ee ck⟩
      | false =>
        exact ⟨false, rfl, _, rfl, iteT (q false H5 ⟨(fun z => nomatch z), fun z => by
          have a := (isPlan_rows z).2
          rw [all_at ee ck] at a
          cases a⟩ (sm.trans s5))⟩
    rw [List.take_of_length_le (by omega)] at al
    refine .inl ⟨⟨_, sm.seq (SqL.of hf), by omega⟩, _, rfl, iteF ?_⟩
    obtain ⟨Xs, rfl, okr⟩ := rows_of al
    have PO : PlanOk D Xs := ⟨by rw [← cl, List.length_map], okr⟩
    have hv3 : Tg K Av H3 Bn (m + 1) (.ref f) (planX Xs) := hv.sm sm
    obtain ⟨f', rs, ef, hf3, nf, R⟩ := plan_tg hv3
    cases ef
    have hD3 := hD.sm sm
    refine ⟨_, rfl, Av, f, rs, Xs, D.cs.length, rfl, hf3, R, by rw [PO.len]; omega, h2, fun r hr => (okr r hr).1, fun ta kvs H4 s4 nta hta tx => ?_⟩
    refine ⟨ta, .dT kvs, hta, trivial, fun od => ?_⟩
    have sL : Same H3 (upd H4 ta (.frz od (.dT kvs))) := Same.put s4 nta
    have hL : (upd H4 ta (.frz od (.dT kvs))) ta = some (.frz od (.dT kvs)) := upd_same
    generalize upd H4 ta (.frz od (.dT kvs)) = H5 at sL hL
    have back : ∀ {H' : Hp}, Same H3 H' → Sm H (upd H' ta (.dT kvs)) := fun {H'} s => sm.trans (.of (Same.put s nta))
    refine ⟨_, rfl, ta, od, rfl, .inr ⟨kvs, hL, for_it (walk_keysT (d := ta) (o := od) (kvs := kvs)) (fun j σ H' => ∃ (v4 v5 v6 : Option V), σ = [some (.ref d), some (.ref f), none, some (.ref ta), v4, v5, v6] ∧ Same H3 H' ∧ H' ta = some (.frz od (.dT kvs)) ∧ ∀ (i : Nat) (pl t : Nat) (v : V), i < j → kvs[i]? = some (kk pl t, v) → ∀ b ∈ bnds D pl t, PS (rowF Xs) pl t ≤ valX (rowF Xs) b)
      ⟨none, none, none, rfl, sL, hL, fun i pl t v lt => absurd lt (Nat.not_lt_zero _)⟩ (fun j σ H' _ ⟨_, _, _, _, _, h, _⟩ => h) ?_ ?_⟩⟩
    · rintro j v σ H6 H7 hj ⟨v4, v5, v6, rfl, s6, hL6, done⟩ ⟨rfl, k, w, q0, ek, rfl, hq0⟩
      obtain ⟨pl, t, e1, ⟨hpl, ht⟩, e2⟩ := tx.all _ (List.mem_of_getElem? ek)
      have e1 : k = kk pl t := e1
      have e2 : w = .int (PS (rowF Xs) pl t) := e2
      subst e1
      subst e2
      have hpl' : pl ≤ D.ks.length := by rw [PO.len] at hpl; omega
      have hq0' : H7 q0 = some (.tup [.int (pl : Int), .int ((t : Int) - 1)]) := hq0
      refine ⟨q0, _, rfl, SqT.of hq0', rfl, _, _, rfl, _, _, rfl, rfl, ?_⟩
      refine ⟨_, rfl, _, rfl, _, rfl, p, d, x, D, pl, t, (t : Int) - 1, rfl, rfl, hD3.same s6, O, hpl', ht, fun bx kb H8 s8 nb hb ab => ?_⟩
      refine ⟨bx, .dK kb, rfl, hb, trivial, fun od2 => ?_⟩
      have s9 : Same H7 (upd H8 bx (.frz od2 (.dK kb))) := Same.put s8 nb
      have hb9 : (upd H8 bx (.frz od2 (.dK kb))) bx = some (.frz od2 (.dK kb)) := upd_same
      have tab9 : ∀ {a : Addr} {o : HO}, H8 a = some o → (∀ z, o ≠ .dK z) → (upd H8 bx (.frz od2 (.dK kb))) a = some o := fun {a o} e n => by
        rw [upd_ne (fun z => by rw [z, hb] at e; exact n _ (Option.some.inj e).symm)]
        exact e
      generalize upd H8 bx (.frz od2 (.dK kb)) = H9 at s9 hb9 tab9
      have klen := ab.len
      refine ⟨bx, od2, kb, rfl, hb9, for_it (walk_values (d := bx) (o := od2) (kvs := kb)) (fun a σ H' => ∃ (v6 : Option V), σ = [some (.ref d), some (.ref f), none, some (.ref ta), some (.int (pl : Int)), some (.int ((t : Int) - 1)), v6] ∧ Same H9 H' ∧ ∀ b ∈ (bnds D pl t).take a, PS (rowF Xs) pl t ≤ valX (rowF Xs) b)
        ⟨_, rfl, .refl _, fun b m => absurd m (by rw [List.take_zero]; exact List.not_mem_nil)⟩ (fun a σ H' _ ⟨_, _, s, _⟩ => s _ _ hb9) ?_ ?_⟩
      · rintro a v σ G1 G2 ha ⟨v6', rfl, sg, ok⟩ ⟨rfl, ky, hk⟩
        obtain ⟨bd, ebd, e1, tt, ll, e2, htt, hll⟩ := ab.get hk
        obtain rfl : v = .ref tt := e2
        have htt9 := sg _ _ (tab9 htt nofun)
        have hll9 : leadV G2 ll bd.lead := by
          cases el : bd.lead with
          | none =>
            rw [el] at hll
            exact hll
          | some y =>
            rw [el] at hll
            obtain ⟨qq, eq, hqq⟩ := hll
            exact ⟨qq, eq, sg _ _ (tab9 hqq nofun)⟩
        have hL9 : G2 ta = some (.frz od (.dT kvs)) := sg _ _ (s9 _ _ hL6)
        refine ⟨_, rfl, _, rfl, _, rfl, rfl, fun k1 G3 g3 o3 y3 => ?_⟩
        have hL10 := g3 _ _ hL9
        have g : DGet G3 ta (.ref k1) (some (.int (PS (rowF Xs) pl t))) := .inr ⟨kvs, kk pl t, k1, .inr ⟨od, hL10⟩, rfl, y3, (tx.at_ pl t ⟨hpl, ht⟩).symm⟩
        refine ⟨ta, _, rfl, g, ?_⟩
        obtain ⟨u, eu, uz, us⟩ : ∃ u : Int, valX (rowF Xs) bd = u + bd.more ∧ (bd.lead = none → u = 0) ∧ (∀ p' h', bd.lead = some (p', h') → valV kvs [.inl p', .inl h'] = some (.int u)) := by
          cases el : bd.lead with
          | none => exact ⟨0, by unfold valX; rw [el, Int.zero_add], fun _ => rfl, fun p' h' z => nomatch z⟩
          | some y =>
            obtain ⟨p', h'⟩ := y
            obtain ⟨pn, tn, rfl, rfl, pk, tt'⟩ := bnds_lead hpl' (List.mem_of_getElem? ebd) el
            refine ⟨PS (rowF Xs) pn tn, ?_, (fun z => nomatch z), fun p' h' z => ?_⟩
            · unfold valX
              rw [el]
              show PS (rowF Xs) ((pn : Int)).toNat ((tn : Int) - 1 + 1).toNat + bd.more = _
              rw [Int.toNat_natCast, show ((tn : Int) - 1 + 1).toNat = tn by omega]
            · obtain ⟨rfl, rfl⟩ := Prod.mk.inj (Option.some.inj z)
              exact tx.at_ pn tn ⟨by rw [PO.len]; omega, by omega⟩
        refine ⟨_, rfl, _, rfl, ta, tt, ll, bd, kvs, u, rfl, g3 _ _ htt9, hll9.same g3, .inr ⟨od, hL10⟩, uz, us, ?_⟩
        rw [← eu]
        refine ⟨_, _, rfl, rfl, _, rfl, ?_⟩
        have s3g : Same H3 G3 := s6.trans (s9.trans (sg.trans g3))
        by_cases cv : valX (rowF Xs) bd < PS (rowF Xs) pl t
        · refine ite_bT (decide_eq_true cv) ?_
          refine ⟨hL10, q false _ ⟨(fun z => nomatch z), fun z => ?_⟩ (back s3g)⟩
          have dd := (isPlan_iff PO).mp z
          cases t with
          | zero =>
            have eb : bd = ⟨"begin", none, 0⟩ := List.mem_singleton.mp (List.mem_of_getElem? ebd)
            rw [eb, PS_zero] at cv
            exact absurd cv (by show ¬ ((0 : Int) < 0); decide)
          | succ t =>
            have := (plAt_bnds hpl' (by rw [PO.lenF hpl']; omega)).mp (dd pl t hpl' (by omega)) bd (List.mem_of_getElem? ebd)
            omega
        · refine ite_bF (decide_eq_false cv) ?_
          refine ⟨_, rfl, sg.trans g3, fun b mb => ?_⟩
          rw [take_one ebd] at mb
          rcases List.mem_append.mp mb with z | z
          · exact ok b z
          · rw [List.mem_singleton.mp z]
            omega
      · rintro σ G1 ⟨v6', rfl, sg, ok⟩
        rw [klen, List.take_length] at ok
        refine ⟨_, _, _, rfl, s6.trans (s9.trans sg), sg _ _ (s9 _ _ hL6), fun i pl' t' v lt ei => ?_⟩
        by_cases c : i < j
        · exact done i pl' t' v c ei
        · obtain rfl : i = j := by omega
          rw [ek] at ei
          obtain ⟨e1, _⟩ := Prod.mk.inj (Option.some.inj ei)
          obtain ⟨rfl, rfl⟩ := kk_inj e1
          exact ok
    · rintro σ H6 ⟨v4, v5, v6, rfl, s6, hL6, done⟩
      refine ⟨hL6, q true _ ⟨fun _ => (isPlan_iff PO).mpr fun pl t hpl ht => ?_, fun _ => rfl⟩ (back s6)⟩
      obtain ⟨i, v, ei⟩ := tx.mem (p := pl) (t := t + 1) ⟨by rw [PO.len]; omega, by omega⟩
      exact (plAt_bnds hpl (by rw [PO.lenF hpl]; exact ht)).mpr (done i pl (t + 1) v (List.getElem?_eq_some_iff.mp ei).1 ei)

end
end KR
namespace KR
open PySem PySem.Spec PyProof.Rows L2
section
variable {P : Program} {w : World} {K : PySem.W.Frag} {mg : Str → Option Value} {base : Heap}
def sp_p__most_taken (K : PySem.W.Frag) : Sp := fun vs H Q _ => ∃ (p d : Addr) (x : DyP) (D : Dy), vs = [.ref d] ∧ DayAt K H p d x D ∧ DyOk D ∧ ∀ (ta : Addr) (kvs : List (List Key × V)) (H' : Hp), Same H H' → H ta = none → H' ta = some (.dT kvs) → Told D kvs (fun p t => p ≤ D.ks.length ∧ t ≤ D.cs.length) → Q (.ref ta) H'
theorem ok_p__most_taken (T : All K mg) : FnOk P w K mg base CX0 2 T.f_p__most_taken T.fd_p__most_taken ["day"] (sp_p__most_taken K) := by
  refine T.d_p__most_taken.fn.ok sc_p__most_taken (fun vs H Q E h => ?_) (fun cdv A outer s H vs Q E hr h => ?_)
  · obtain ⟨p, d, x, D, rfl, _⟩ := h
    rfl
  · obtain ⟨p, d, x, D, rfl, hD, O, q⟩ := h
    refine ⟨_, (pss_cons (ps_set (i := 1) sc_p__most_taken.nd rfl (by first | exact Or.inl rfl | exact Or.inr rfl) pe_dnewT)
      (pss_cons (ps_for PassesOwn.never rfl (pi_range2 (by rfl) T.b_range (pa_cons (pe_glob (v := .int (-1)) rfl T.c_AHEAD_OF_ALL ⟨_, rfl⟩) (pa_cons (pe_call (ok_p_hours_in T) hr (by rfl) T.d_p_hours_in.mg T.d_p_hours_in.fn.kp T.d_p_hours_in.b .nil pass0 (pa_cons (pv 0) pa_nil)) pa_nil))) (pg_name (i := 2) sc_p__most_taken.nd rfl (by first | exact Or.inl rfl | exact Or.inr rfl)) (pss_one (ps_for PassesOwn.never rfl (pi_revR (by rfl) T.b_reversed (prg_1 (by rfl) T.b_range (pe_call (ok_p_places_in T) hr (by rfl) T.d_p_places_in.mg T.d_p_places_in.fn.kp T.d_p_places_in.b .nil pass0 (pa_cons (pv 0) pa_nil)))) (pg_name (i := 3) sc_p__most_taken.nd rfl (by first | exact Or.inl rfl | exact Or.inr rfl)) (pss_cons (ps_set (i := 4) sc_p__most_taken.nd rfl (by first | exact Or.inl rfl | exact Or.inr rfl) (pe_call (ok_p_bounds_at T) hr (by rfl) T.d_p_bounds_at.mg T.d_p_bounds_at.fn.kp T.d_p_bounds_at.b .nil pass0 (pa_cons (pv 0) (pa_cons (pv 3) (pa_cons (pv 2) pa_nil)))))
      (pss_one (ps_asg (pe_callB (minLK (K := K) rfl rfl) (by rfl) T.b_min (by decide +kernel) (pa_cons (pe_lock (pe_lc (own := [("bound", 5)]) (g := gName 5) (tt := tYes) (by rfl) sc_p__most_taken.nd (pi_values (pv 4)) (blkOk_by (own := [("bound", 5)]) (N := ["day", "taken", "hour", "place", "bounds", "bound"]) (sc := defScope s_p__most_taken) (by decide +kernel)) (fun _ _ _ _ _ => (pg_name (i := 5) sc_p__most_taken.nd rfl (by first | exact Or.inl rfl | exact Or.inr rfl))) (fun _ _ _ _ _ => pts_nil) (fun _ _ _ _ _ => (pe_call (ok_p_reached T) hr (by rfl) T.d_p_reached.mg T.d_p_reached.fn.kp T.d_p_reached.b .nil pass0 (pa_cons (pv 1) (pa_cons (pv 5) pa_nil)))))) pa_nil)) (pg_sub (pv 1) (pe_tupI (pa_cons (pv 3) (pa_cons (pv 2) pa_nil))) (set_dict (hu_of hr)))))))))
      (pss_one (ps_ret (pv 1))))), ?_⟩
    have k1 := O.k1
    have k2 := O.k2
    have h2 := O.h2
    refine fun ta nta => ?_
    refine ⟨_, rfl, p, d, x, D, rfl, hD.same (same_new nta), ?_⟩
    have eN : ((D.cs.length : Int) - -1).toNat = D.cs.length + 1 := by omega
    refine ⟨-1, (D.cs.length : Int), rfl, ⟨by decide, by decide, by omega, by omega⟩, for_range (lo := -1) (n := ((D.cs.length : Int) - -1).toNat) (fun i σ H' => ∃ (kvs : List (List Key × V)) (v2 v3 v4 : Option V), σ = [some (.ref d), some (.ref ta), v2, v3, v4, none] ∧ Same H H' ∧ H' ta = some (.dT kvs) ∧ kvs.length ≤ 9 * i ∧ Told D kvs fun p' t' => p' ≤ D.ks.length ∧ t' < i)
      ⟨[], none, none, none, rfl, same_new nta, upd_same, Nat.zero_le _, fun p' t' h => absurd h.2 (Nat.not_lt_zero _)⟩ ?_ ?_⟩
    · rintro i σ H1 hi ⟨kvs, v2, v3, v4, rfl, s1, hta, kl, told⟩
      have i48 : i ≤ D.cs.length := by omega
      refine ⟨_, rfl, p, d, x, D, rfl, hD.same s1, ?_⟩
      have eM : ((D.ks.length : Int) + 1 - 0).toNat = D.ks.length + 1 := by omega
      refine ⟨(D.ks.length : Int) + 1, rfl, by decide, by decide, by omega, by omega, for_rangeC (lo := 0 + ((((D.ks.length : Int) + 1 - 0).toNat : Nat) : Int) - 1) (c := -1) (n := ((D.ks.length : Int) + 1 - 0).toNat) (fun j σ H' => ∃ (kvs : List (List Key × V)) (v3 v4 : Option V), σ = [some (.ref d), some (.ref ta), some (.int (-1 + (i : Int))), v3, v4, none] ∧ Same H H' ∧ H' ta = some (.dT kvs) ∧ kvs.length ≤ 9 * i + j ∧ Told D kvs fun p' t' => p' ≤ D.ks.length ∧ (t' < i ∨ (t' = i ∧ D.ks.length < p' + j)))
        ⟨kvs, v3, v4, rfl, s1, hta, by omega, fun p' t' h => told p' t' ⟨h.1, by omega⟩⟩ ?_ ?_⟩
      · rintro j σ H1 hj ⟨kvs, v3, v4, rfl, s1, hta, kl, told⟩
        obtain ⟨pl, epl, lpl⟩ : ∃ pl : Nat, 0 + ((((D.ks.length : Int) + 1 - 0).toNat : Nat) : Int) - 1 + (j : Int) * -1 = (pl : Int) ∧ pl + j = D.ks.length := ⟨D.ks.length - j, by omega, by omega⟩
        rw [epl]
        refine ⟨_, rfl, _, rfl, _, rfl, p, d, x, D, pl, i, -1 + (i : Int), rfl, by omega, hD.same s1, O, by omega, i48, fun b kb H2 s2 nb hb ab => ?_⟩
        have hta2 := s2 _ _ hta
        have tab : ta ≠ b := ne_of_none hta nb
        have klen := ab.len
        refine ⟨b, .dK kb, hb, trivial, fun od => ?_⟩
        refine ⟨_, rfl, b, od, kb, rfl, upd_same, fun Dl hDl => ?_⟩
        have Dlb : Dl ≠ b := fun e => by
          rw [e, upd_same] at hDl
          cases hDl
        have hDl' : H2 Dl = none := by
          rw [upd_ne Dlb] at hDl
          exact hDl
        refine lc_it (walk_values (d := b) (o := od) (kvs := kb)) (fun a H' => ∃ zs : List Int, Fr b H2 H' ∧ H' b = some (.frz od (.dK kb)) ∧ H' Dl = some (.lst (zs.map V.int)) ∧ zs = ((bnds D pl i).map (valB D)).take a)
          ⟨[], (Fr.put Fr.refl).new hDl, by rw [upd_ne Dlb.symm]; exact upd_same, upd_same, rfl⟩ (fun a H' _ ⟨_, _, h, _⟩ => h) ?_ ?_
        · rintro a v H4 H5 ha ⟨zs, F, hfb, hD4, ez⟩ ⟨rfl, k, hk⟩
          obtain ⟨bd, ebd, e1, tt, ll, e2, htt, hll⟩ := ab.get hk
          obtain rfl : v = .ref tt := e2
          have ttb : tt ≠ b := ne_of htt hb (by intro z; cases z)
          have len3 := bnds_len3 D pl i
          refine ⟨rfl, yesT ?_⟩
          refine ⟨_, rfl, _, rfl, ta, tt, ll, D, bd, kvs, rfl, F _ _ ttb htt, hll.frb hb F, F _ _ tab hta2, fun p' h' el => ?_, ?_⟩
          · obtain ⟨pn, tn, rfl, rfl, pk, tt'⟩ := bnds_lead (by omega) (List.mem_of_getElem? ebd) el
            have g := told pn tn ⟨pk, by omega⟩
            rw [show ((tn : Int) - 1 + 1).toNat = tn by omega, Int.toNat_natCast]
            exact g
          · have zl : zs.length ≤ 3 := by
              rw [ez, List.length_take, List.length_map]
              omega
            refine ⟨_, hD4, by rw [List.length_map]; exact small' (by omega), zs ++ [valB D bd], F.put' hDl', ?_, by rw [upd_same, List.map_append] <;> rfl, ?_⟩
            · rw [upd_ne Dlb.symm]
              exact hfb
            · rw [ez, take_one (show ((bnds D pl i).map (valB D))[a]? = some (valB D bd) by rw [List.getElem?_map, ebd] <;> rfl)]
        · rintro H4 ⟨zs, F, hfb, hD4, ez⟩
          have ez' : zs = (bnds D pl i).map (valB D) := by
            rw [ez, klen, ← List.length_map (as := bnds D pl i) (valB D), List.take_length]
          obtain ⟨mm, ml⟩ := bnds_min (D := D) (p := pl) (t := i) k1 (by omega)
          refine ⟨hfb, ?_⟩
          refine ⟨Dl, zs, rfl, SqL.of (by rw [upd_ne Dlb]; exact hD4), by rw [ez', List.length_map]; exact bnds_len D pl i, fun m hm hle => ?_⟩
          rw [ez'] at hm hle
          obtain rfl := min_mem hm hle mm ml
          have F6 : Fr b H2 (upd H4 b (.dK kb)) := Fr.put F
          have s16 : Same H1 (upd H4 b (.dK kb)) := same_frb s2 nb F6
          generalize upd H4 b (.dK kb) = H6 at F6 s16
          refine ⟨_, rfl, _, rfl, _, rfl, rfl, fun ky H7 s7 n7 h7 => ?_⟩
          rw [show (-1 + (i : Int)) = (i : Int) - 1 by omega] at h7
          have s17 := s16.trans s7
          have hta7 := s17 _ _ hta
          refine ⟨ta, _, rfl, .t (k := kk pl i) hta7 h7 (small' (by omega)), ?_⟩
          have lp := length_putK kvs (kk pl i) (.int (tk D i pl))
          exact ⟨putK kvs (kk pl i) (.int (tk D i pl)), _, _, rfl, Same.put (s1.trans s17) nta, upd_same, by omega, told.put pl i fun p' t' h => by omega⟩
      · rintro σ H1' ⟨kvs, v3, v4, rfl, s1, hta, kl, told⟩
        rw [eM] at kl told
        exact ⟨kvs, _, _, _, rfl, s1, hta, by omega, fun p' t' h => told p' t' ⟨h.1, by omega⟩⟩
    · rintro σ H1 ⟨kvs, v2, v3, v4, rfl, s1, hta, kl, told⟩
      rw [eN] at told
      exact ⟨_, rfl, q ta kvs H1 s1 nta hta fun p' t' h => told p' t' ⟨h.1, by omega⟩⟩

end
end KR
namespace KR
open PySem PySem.Spec PyProof.Rows L2
section
variable {P : Program} {w : World} {K : PySem.W.Frag} {mg : Str → Option Value} {base : Heap}
def sp_p_most_plan (K : PySem.W.Frag) : Sp := fun vs H Q _ => ∃ (p d : Addr) (x : DyP) (D : Dy), vs = [.ref d] ∧ DayAt K H p d x D ∧ DyOk D ∧ ∀ (f : Addr) (rs : List Addr) (H' : Hp), Same H H' → H f = none → H' f = some (.lst (rs.map V.ref)) → rs.length = D.ks.length + 1 → rs.Nodup → (∀ (j : Nat) (r : Addr), rs[j]? = some r → H' r = some (.lst ((rowI D j).map V.int)) ∧ H r = none ∧ r ≠ f) → Q (.ref f) H'
theorem ok_p_most_plan (T : All K mg) : FnOk P w K mg base CX0 3 T.f_p_most_plan T.fd_p_most_plan ["day"] (sp_p_most_plan K) := by
  refine T.d_p_most_plan.fn.ok sc_p_most_plan (fun vs H Q E h => ?_) (fun cdv A outer s H vs Q E hr h => ?_)
  · obtain ⟨p, d, x, D, rfl, _⟩ := h
    rfl
  · obtain ⟨p, d, x, D, rfl, hD, O, q⟩ := h
    refine ⟨_, (pss_cons (ps_set (i := 1) sc_p_most_plan.nd rfl (by first | exact Or.inl rfl | exact Or.inr rfl) (pe_call (ok_p__most_taken T) hr (by rfl) T.d_p__most_taken.mg T.d_p__most_taken.fn.kp T.d_p__most_taken.b .nil pass0 (pa_cons (pv 0) pa_nil)))
      (pss_cons (ps_set (i := 2) sc_p_most_plan.nd rfl (by first | exact Or.inl rfl | exact Or.inr rfl) (pe_rngV (by rfl) T.b_range (pe_call (ok_p_hours_in T) (hr.mono (by decide)) (by rfl) T.d_p_hours_in.mg T.d_p_hours_in.fn.kp T.d_p_hours_in.b .nil pass0 (pa_cons (pv 0) pa_nil))))
      (pss_one (ps_ret (pe_lc (own := [("place", 4)]) (g := gName 4) (tt := tYes) (by rfl) sc_p_most_plan.nd (pi_range1 (by rfl) T.b_range (pa_cons (pe_call (ok_p_places_in T) (hr.mono (by decide)) (by rfl) T.d_p_places_in.mg T.d_p_places_in.fn.kp T.d_p_places_in.b .nil pass0 (pa_cons (pv 0) pa_nil)) pa_nil)) (blkOk_by (own := [("place", 4)]) (N := ["day", "taken", "hours", "hour", "place"]) (sc := defScope s_p_most_plan) (by decide +kernel)) (fun _ _ _ _ _ => (pg_name (i := 4) sc_p_most_plan.nd rfl (by first | exact Or.inl rfl | exact Or.inr rfl))) (fun _ _ _ _ _ => pts_nil) (fun _ _ _ _ _ => (pe_lc (own := [("hour", 3)]) (g := gName 3) (tt := tYes) (by rfl) sc_p_most_plan.nd (pi_rngV (pv 2)) (blkOk_in (own := [("hour", 3)]) (N := ["day", "taken", "hours", "hour", "place"]) (sc := defScope s_p_most_plan) rfl (by decide +kernel)) (fun _ _ _ _ _ => (pg_name (i := 3) sc_p_most_plan.nd rfl (by first | exact Or.inl rfl | exact Or.inr rfl))) (fun _ _ _ _ _ => pts_nil) (fun _ _ _ _ _ => (pe_op op_sub (pe_dget (hu_of hr) (pv 1) (pe_tupI (pa_cons (pv 4) (pa_cons (pv 3) pa_nil))) (fun _ _ => rfl)) (pe_dget (hu_of hr) (pv 1) (pe_tupI (pa_cons (pv 4) (pa_cons (pe_op op_sub (pv 3) pe_int) pa_nil))) (fun _ _ => rfl))))))))))), ?_⟩
    have k1 := O.k1
    have k2 := O.k2
    have h2 := O.h2
    refine ⟨_, rfl, p, d, x, D, rfl, hD, O, fun ta kvs H1 s1 nt ht told => ?_⟩
    refine ⟨_, rfl, p, d, x, D, rfl, hD.same s1, _, rfl, fun ra nra => ?_⟩
    have sr : Same H1 (upd H1 ra (.rng 0 (D.cs.length : Int))) := same_new nra
    have hra : (upd H1 ra (.rng 0 (D.cs.length : Int))) ra = some (.rng 0 (D.cs.length : Int)) := upd_same
    generalize upd H1 ra (.rng 0 (D.cs.length : Int)) = H2 at sr hra
    have s12 := s1.trans sr
    have ht2 := sr _ _ ht
    refine ⟨_, rfl, p, d, x, D, rfl, hD.same s12, (D.ks.length : Int) + 1, rfl, by omega, by omega, fun F hF => ?_⟩
    have nF : H F = none := same_none' s12 hF
    have eM : ((D.ks.length : Int) + 1).toNat = D.ks.length + 1 := by omega
    refine lc_range (lo := 0) (n := ((D.ks.length : Int) + 1).toNat) (fun i H' => ∃ rs : List Addr, Same H2 H' ∧ H' F = some (.lst (rs.map V.ref)) ∧ rs.length = i ∧ rs.Nodup ∧ ∀ (j : Nat) (r : Addr), rs[j]? = some r → H' r = some (.lst ((rowI D j).map V.int)) ∧ H2 r = none ∧ r ≠ F)
      ⟨[], same_new hF, upd_same, rfl, List.nodup_nil, fun j r e => by simp at e⟩ (fun i H3 hi z => ?_) (fun H3 z => ?_)
    · obtain ⟨rs, s3, hF3, lr, nd, rows⟩ := z
      rw [eM] at hi
      rw [Int.zero_add]
      refine ⟨rfl, yesT ?_⟩
      refine ⟨_, rfl, ra, 0, (D.cs.length : Int), rfl, s3 _ _ hra, ⟨by decide, by decide, by omega, by omega⟩, fun G hG => ?_⟩
      have eN : ((D.cs.length : Int) - 0).toNat = D.cs.length := by omega
      have hF4 : (upd H3 G (.lst [])) F = some (.lst (rs.map V.ref)) := by
        rw [upd_ne (ne_of_none hF3 hG)]
        exact hF3
      refine lc_range (lo := 0) (n := ((D.cs.length : Int) - 0).toNat) (fun t H' => Same H3 H' ∧ H' G = some (.lst (((rowI D i).take t).map V.int)))
        ⟨same_new hG, upd_same⟩ (fun t H4 hj z => ?_) (fun H4 z => ?_)
      · obtain ⟨s4, hG4⟩ := z
        rw [eN] at hj
        rw [Int.zero_add]
        refine ⟨rfl, yesT ?_⟩
        refine ⟨_, rfl, _, rfl, _, rfl, rfl, fun ky H5 s5 n5 h5 => ?_⟩
        have ek : [V.int (i : Int), V.int (t : Int)] = (kk i (t + 1)).map kV := by
          show _ = [V.int (i : Int), V.int (((t + 1 : Nat) : Int) - 1)]
          rw [show ((t + 1 : Nat) : Int) - 1 = (t : Int) by omega]
        rw [ek] at h5
        have g5 : DGet H5 ta (.ref ky) (some (.int (tk D (t + 1) i))) := by
          rw [← told i (t + 1) ⟨by omega, by omega⟩]
          exact .t ((s3.trans (s4.trans s5)) _ _ ht2) h5
        refine ⟨ta, _, rfl, g5, ?_⟩
        refine ⟨_, rfl, _, rfl, _, rfl, _, _, rfl, rfl, rfl, fun ky2 H6 s6 n6 h6 => ?_⟩
        have h6' : H6 ky2 = some (.tup ((kk i t).map kV)) := h6
        have g6 : DGet H6 ta (.ref ky2) (some (.int (tk D t i))) := by
          rw [← told i t ⟨by omega, by omega⟩]
          exact .t ((s3.trans (s4.trans (s5.trans s6))) _ _ ht2) h6'
        refine ⟨ta, _, rfl, g6, _, _, rfl, rfl, ?_⟩
        have s46 := s5.trans s6
        refine ⟨_, s46 _ _ hG4, by rw [List.length_map, List.length_take, row_len]; exact small' (by omega), Same.put (s4.trans s46) hG, ?_⟩
        rw [upd_same, take_one (row_get hj), List.map_append] <;> rfl
      · obtain ⟨s4, hG4⟩ := z
        rw [eN, List.take_of_length_le (by rw [row_len]; exact Nat.le_refl _)] at hG4
        have nG : H2 G = none := same_none' s3 hG
        have GF : G ≠ F := fun e => by
          rw [e, hF3] at hG
          cases hG
        have hF5 := s4 _ _ hF3
        refine ⟨_, hF5, by rw [List.length_map]; exact small' (by omega), rs ++ [G], Same.put (s3.trans s4) hF, by rw [upd_same, List.map_append] <;> rfl, by rw [List.length_append, lr] <;> rfl, ?_, fun j r e => ?_⟩
        · refine List.nodup_append.mpr ⟨nd, by simp, fun u hu v hv => ?_⟩
          rw [List.mem_singleton.mp hv]
          obtain ⟨j, hj⟩ := List.getElem?_of_mem hu
          exact ne_of_none (rows j u hj).1 hG
        · by_cases c : j < rs.length
          · rw [List.getElem?_append_left c] at e
            obtain ⟨a1, a2, a3⟩ := rows j r e
            exact ⟨by rw [upd_ne a3]; exact s4 _ _ a1, a2, a3⟩
          · have jl : j = rs.length := by
              have := (List.getElem?_eq_some_iff.mp e).1
              rw [List.length_append, List.length_singleton] at this
              omega
            subst jl
            rw [List.getElem?_append_right (Nat.le_refl _), Nat.sub_self] at e
            cases e
            exact ⟨by rw [upd_ne GF, lr]; exact hG4, nG, GF⟩
    · obtain ⟨rs, s3, hF3, lr, nd, rows⟩ := z
      exact q F rs H3 (s12.trans s3) nF hF3 (lr.trans eM) nd fun j r e => ⟨(rows j r e).1, same_none' s12 (rows j r e).2.1, (rows j r e).2.2⟩

end
end KR
namespace KR
open PySem PySem.Spec PyProof.Rows L2
section
variable {P : Program} {w : World} {K : PySem.W.Frag} {mg : Str → Option Value} {base : Heap}
def sp_p_first_hour (K : PySem.W.Frag) : Sp := fun vs H Q _ => ∃ (p d : Addr) (x : DyP) (D : Dy) (m : Int), vs = [.ref d, .int m] ∧ DayAt K H p d x D ∧ DyOk D ∧ ∀ v H', Same H H' → FirstV D m v → Q v H'
theorem ok_p_first_hour (T : All K mg) : FnOk P w K mg base CX0 3 T.f_p_first_hour T.fd_p_first_hour ["day", "many"] (sp_p_first_hour K) := by
  refine T.d_p_first_hour.fn.ok sc_p_first_hour (fun vs H Q E h => ?_) (fun cdv A outer s H vs Q E hr h => ?_)
  · obtain ⟨p, d, x, D, m, rfl, _⟩ := h
    rfl
  · obtain ⟨p, d, x, D, m, rfl, hD, O, q⟩ := h
    refine ⟨_, (pss_cons (ps_set (i := 2) sc_p_first_hour.nd rfl (by first | exact Or.inl rfl | exact Or.inr rfl) (pe_call (ok_p__most_taken T) hr (by rfl) T.d_p__most_taken.mg T.d_p__most_taken.fn.kp T.d_p__most_taken.b .nil pass0 (pa_cons (pv 0) pa_nil)))
      (pss_cons (ps_asg (pe_call (ok_p_end_of T) hr (by rfl) T.d_p_end_of.mg T.d_p_end_of.fn.kp T.d_p_end_of.b .nil pass0 (pa_cons (pv 0) pa_nil)) (pg_tupK (K := K) rfl rfl (pgs_cons (pg_name (i := 3) sc_p_first_hour.nd rfl (by first | exact Or.inl rfl | exact Or.inr rfl)) (pgs_cons (pg_name (i := 4) sc_p_first_hour.nd rfl (by first | exact Or.inl rfl | exact Or.inr rfl)) pgs_nil))))
      (pss_cons (ps_for PassesOwn.never rfl (pi_range1 (by rfl) T.b_range (pa_cons (pe_call (ok_p_hours_in T) (hr.mono (by decide)) (by rfl) T.d_p_hours_in.mg T.d_p_hours_in.fn.kp T.d_p_hours_in.b .nil pass0 (pa_cons (pv 0) pa_nil)) pa_nil)) (pg_name (i := 5) sc_p_first_hour.nd rfl (by first | exact Or.inl rfl | exact Or.inr rfl)) (pss_one (ps_if (pt_cmpR op_ge (pe_dget (hu_of hr) (pv 2) (pe_tupI (pa_cons (pv 3) (pa_cons (pv 5) pa_nil))) (fun _ _ => rfl)) (pv 1) (nomark _)) (pss_one (ps_ret (pv 5))) pss_nil)))
      (pss_one (ps_ret pe_non))))), ?_⟩
    have h2 := O.h2
    refine ⟨_, rfl, p, d, x, D, rfl, hD, O, fun ta kvs H1 s1 n1 hta told => ?_⟩
    refine ⟨_, rfl, p, d, x, D, rfl, hD.same s1, fun te H2 s2 n2 h2' => ?_⟩
    refine ⟨te, _, rfl, SqT.of h2', rfl, _, _, rfl, _, _, rfl, rfl, ?_⟩
    have s12 := s1.trans s2
    refine ⟨_, rfl, p, d, x, D, rfl, hD.same s12, D.cs.length, rfl, by omega, by omega, for_range (lo := 0) (n := D.cs.length) (fun i σ H' => ∃ v5 : Option V, σ = [some (.ref d), some (.int m), some (.ref ta), some (.int (D.ks.length : Int)), some (.int ((D.cs.length : Int) - 1)), v5] ∧ Same H2 H' ∧ ∀ j, j < i → tk D (j + 1) D.ks.length < m)
      ⟨none, rfl, .refl _, fun j h => absurd h (Nat.not_lt_zero j)⟩ ?_ ?_⟩
    · rintro i σ H3 hi ⟨v5, rfl, s3, below⟩
      rw [Int.zero_add]
      refine ⟨_, rfl, _, rfl, _, rfl, rfl, fun ky H4 s4 n4 h4 => ?_⟩
      have s24 := s3.trans s4
      have ek : [V.int (D.ks.length : Int), V.int (i : Int)] = (kk D.ks.length (i + 1)).map kV := by
        show _ = [V.int (D.ks.length : Int), V.int (((i + 1 : Nat) : Int) - 1)]
        rw [show ((i + 1 : Nat) : Int) - 1 = (i : Int) by omega]
      rw [ek] at h4
      have g : DGet H4 ta (.ref ky) (some (.int (tk D (i + 1) D.ks.length))) := by
        rw [← told D.ks.length (i + 1) ⟨Nat.le_refl _, by omega⟩]
        exact .t ((s2.trans s24) _ _ hta) h4
      refine ⟨ta, _, rfl, g, _, rfl, _, _, rfl, rfl, _, rfl, ?_⟩
      by_cases c : m ≤ tk D (i + 1) D.ks.length
      · refine ite_bT (decide_eq_true c) ?_
        exact ⟨_, rfl, q _ _ (s12.trans s24) (.inl ⟨i, hi, below, c, rfl⟩)⟩
      · refine ite_bF (decide_eq_false c) ?_
        refine ⟨_, rfl, s24, fun j hj => ?_⟩
        rcases Nat.lt_or_ge j i with lt | ge
        · exact below j lt
        · rw [show j = i by omega]
          omega
    · rintro σ H3 ⟨v5, rfl, s3, below⟩
      exact q _ _ (s12.trans s3) (.inr ⟨below, rfl⟩)

end
end KR
namespace KR
open PySem PySem.Spec PyProof.Rows L2
section
variable {P : Program} {w : World} {K : PySem.W.Frag} {mg : Str → Option Value} {base : Heap}
def sp_p__tight_bound (K : PySem.W.Frag) : Sp := fun vs H Q _ => ∃ (p d ta le : Addr) (x : DyP) (D : Dy) (kvs : List (List Key × V)) (pl t : Nat), vs = [.ref d, .ref ta, .ref le] ∧ DayAt K H p d x D ∧ DyOk D ∧ H ta = some (.dT kvs) ∧ Told D kvs (fun p t => p ≤ D.ks.length ∧ t ≤ D.cs.length) ∧ H le = some (.tup [.int (pl : Int), .int ((t : Int) - 1)]) ∧ pl ≤ D.ks.length ∧ t ≤ D.cs.length ∧
  ∀ (tt : Addr) (b : Bd) (l : V) (H' : Hp), Same H H' → FirstT D pl t b → b ∈ bnds D pl t → valB D b = tk D t pl → H' tt = some (.tup [.str b.word, l]) → leadV H' l b.lead → Q (.ref tt) H'
theorem ok_p__tight_bound (T : All K mg) : FnOk P w K mg base CX0 2 T.f_p__tight_bound T.fd_p__tight_bound ["day", "taken", "lead"] (sp_p__tight_bound K) := by
  refine T.d_p__tight_bound.fn.ok sc_p__tight_bound (fun vs H Q E h => ?_) (fun cdv A outer s H vs Q E hr h => ?_)
  · obtain ⟨p, d, ta, le, x, D, kvs, pl, t, rfl, _⟩ := h
    rfl
  · obtain ⟨p, d, ta, le, x, D, kvs, pl, t, rfl, hD, O, hta, told, hle, hpl, ht, q⟩ := h
    refine ⟨_, (pss_cons (ps_asg (pv 2) (pg_tupK (K := K) rfl rfl (pgs_cons (pg_name (i := 3) sc_p__tight_bound.nd rfl (by first | exact Or.inl rfl | exact Or.inr rfl)) (pgs_cons (pg_name (i := 4) sc_p__tight_bound.nd rfl (by first | exact Or.inl rfl | exact Or.inr rfl)) pgs_nil))))
      (pss_cons (ps_set (i := 5) sc_p__tight_bound.nd rfl (by first | exact Or.inl rfl | exact Or.inr rfl) (pe_call (ok_p_bounds_at T) hr (by rfl) T.d_p_bounds_at.mg T.d_p_bounds_at.fn.kp T.d_p_bounds_at.b .nil pass0 (pa_cons (pv 0) (pa_cons (pv 3) (pa_cons (pv 4) pa_nil)))))
      (pss_cons (ps_lock (ps_setLc (i := 6) (own := [("word", 7)]) (g := gName 7) (by rfl) sc_p__tight_bound.nd rfl rfl (sw_true rfl rfl rfl (by decide +kernel)) (pi_keys (pv 5)) (blkOk_by (own := [("word", 7)]) (N := ["day", "taken", "lead", "place", "hour", "bounds", "tight", "word"]) (sc := defScope s_p__tight_bound) (by decide +kernel)) (fun _ _ _ _ _ => (pg_name (i := 7) sc_p__tight_bound.nd rfl (by first | exact Or.inl rfl | exact Or.inr rfl))) (fun _ _ _ _ _ => (pts_one (pt_cmpR op_eq (pe_call (ok_p_reached T) hr (by rfl) T.d_p_reached.mg T.d_p_reached.fn.kp T.d_p_reached.b .nil pass0 (pa_cons (pv 1) (pa_cons (pe_dget (hu_of hr) (pv 5) (pv 7) (fun _ _ => rfl)) pa_nil))) (pe_dget (hu_of hr) (pv 1) (pv 2) (fun _ _ => rfl)) (nomark _)))) (fun _ _ _ _ _ => (pv 7))))
      (pss_one (ps_ret (pe_tupI (pa_cons (pe_ix (ixL (K := K) rfl) (pv 6) pe_int (fun _ _ => rfl)) (pa_cons (pe_ix (ixT (K := K) rfl) (pe_dget (hu_of hr) (pv 5) (pe_ix (ixL (K := K) rfl) (pv 6) pe_int (fun _ _ => rfl)) (fun _ _ => rfl)) pe_int (fun _ _ => rfl)) pa_nil)))))))), ?_⟩
    have k1 := O.k1
    have k2 := O.k2
    have h2 := O.h2
    refine ⟨_, rfl, le, _, rfl, SqT.of hle, rfl, _, _, rfl, _, _, rfl, rfl, ?_⟩
    refine ⟨_, rfl, _, rfl, _, rfl, p, d, x, D, pl, t, (t : Int) - 1, rfl, rfl, hD, O, hpl, ht, fun b kb H1 s1 nb hb ab => ?_⟩
    have hta1 := s1 _ _ hta
    have hle1 := s1 _ _ hle
    have klen := ab.len
    have len3 := bnds_len3 D pl t
    have wnd := bnds_words D pl t
    have bta : ta ≠ b := ne_of_none hta nb
    have ble : le ≠ b := ne_of_none hle nb
    refine ⟨b, .dK kb, hb, trivial, fun od => ?_⟩
    refine ⟨_, rfl, b, od, rfl, .inl ⟨kb, upd_same, fun Dl hDl => ?_⟩⟩
    have Dlb : Dl ≠ b := fun e => by
      rw [e, upd_same] at hDl
      cases hDl
    have hDl' : H1 Dl = none := by
      rw [upd_ne Dlb] at hDl
      exact hDl
    refine lc_it (walk_keys (d := b) (o := od) (kvs := kb)) (fun a H' => Fr b H1 H' ∧ H' b = some (.frz od (.dK kb)) ∧ H' Dl = some (.lst (((((bnds D pl t).take a).filter fun b => decide (valB D b = tk D t pl)).map (·.word)).map V.str)))
      ⟨(Fr.put Fr.refl).new hDl, by rw [upd_ne Dlb.symm]; exact upd_same, upd_same⟩ (fun a H' _ ⟨_, h, _⟩ => h) ?_ ?_
    · rintro a v H4 H5 ha ⟨F, hfb, hD4⟩ ⟨rfl, k, vv, hk, rfl⟩
      obtain ⟨bd, ebd, e1, _⟩ := ab.get hk
      obtain rfl : k = .inr bd.word := e1
      have mb := List.mem_of_getElem? ebd
      obtain ⟨v', ev, _, tt, ll, e2, htt, hll⟩ := ab.at_ wnd bd mb
      obtain rfl : v' = .ref tt := e2
      have ttb : tt ≠ b := ne_of htt hb (by intro z; cases z)
      refine ⟨rfl, ?_⟩
      refine ⟨_, rfl, _, rfl, _, rfl, b, .ref tt, rfl, .inl ⟨kb, .inr bd.word, .inr ⟨od, hfb⟩, rfl, ev.symm⟩, ?_⟩
      refine ⟨ta, tt, ll, D, bd, kvs, rfl, F _ _ ttb htt, hll.frb hb F, F _ _ bta hta1, fun p' h' el => ?_, ?_⟩
      · obtain ⟨pn, tn, rfl, rfl, pk, tt'⟩ := bnds_lead hpl mb el
        have g := told pn tn ⟨pk, by omega⟩
        rw [show ((tn : Int) - 1 + 1).toNat = tn by omega, Int.toNat_natCast]
        exact g
      · have g2 : DGet H5 ta (.ref le) (some (.int (tk D t pl))) := by
          rw [← told pl t ⟨hpl, ht⟩]
          exact .t (k := kk pl t) (F _ _ bta hta1) (F _ _ ble hle1)
        refine ⟨_, rfl, _, rfl, ta, _, rfl, g2, rfl, _, rfl, ?_⟩
        have fl : ((((bnds D pl t).take a).filter fun b => decide (valB D b = tk D t pl)).map (·.word)).length ≤ 3 := by
          rw [List.length_map]
          have h1 := List.length_filter_le (fun b => decide (valB D b = tk D t pl)) ((bnds D pl t).take a)
          rw [List.length_take] at h1
          omega
        by_cases c : valB D bd = tk D t pl
        · refine ite_bT (decide_eq_true (congrArg V.int c)) ?_
          refine ⟨_, rfl, _, hD4, by rw [List.length_map]; exact small' (by omega), F.put' hDl', by rw [upd_ne Dlb.symm]; exact hfb, ?_⟩
          rw [upd_same, take_one ebd, List.filter_append, List.filter_cons, if_pos (decide_eq_true c), List.map_append, List.map_append] <;> rfl
        · refine ite_bF (decide_eq_false fun e => c (by injection e)) ?_
          refine ⟨F, hfb, ?_⟩
          rw [hD4, take_one ebd, List.filter_append, List.filter_cons, if_neg (by rw [decide_eq_false c]; exact Bool.false_ne_true), List.filter_nil, List.append_nil]
    · rintro H4 ⟨F, hfb, hD4⟩
      refine ⟨hfb, ?_⟩
      have F6 : Fr b H1 (upd H4 b (.dK kb)) := Fr.put F
      have s16 : Same H (upd H4 b (.dK kb)) := same_frb s1 nb F6
      have hb6 : (upd H4 b (.dK kb)) b = some (.dK kb) := upd_same
      have hD6 : (upd H4 b (.dK kb)) Dl = _ := (upd_ne Dlb).trans hD4
      generalize upd H4 b (.dK kb) = H6 at F6 s16 hb6 hD6
      obtain ⟨b0, rest, eF⟩ : ∃ b0 rest, (bnds D pl t).filter (fun b => decide (valB D b = tk D t pl)) = b0 :: rest := by
        obtain ⟨mm, _⟩ := bnds_min (D := D) (p := pl) (t := t) k1 hpl
        obtain ⟨b0, m0, e0⟩ := List.mem_map.mp mm
        have m1 := (List.mem_filter (p := fun b => decide (valB D b = tk D t pl))).mpr ⟨m0, decide_eq_true e0⟩
        cases h : (bnds D pl t).filter (fun b => decide (valB D b = tk D t pl)) with
        | nil => rw [h] at m1; exact absurd m1 List.not_mem_nil
        | cons b1 r => exact ⟨b1, r, rfl⟩
      have mb0 := List.mem_filter.mp (show b0 ∈ (bnds D pl t).filter (fun b => decide (valB D b = tk D t pl)) by rw [eF]; exact List.mem_cons_self)
      have vb0 := of_decide_eq_true mb0.2
      rw [klen, List.take_of_length_le (Nat.le_refl _), eF] at hD6
      obtain ⟨v', ev, _, tt, ll, e2, htt, hll⟩ := ab.at_ wnd b0 mb0.1
      obtain rfl : v' = .ref tt := e2
      have htt6 := F6 _ _ (ne_of htt hb (by intro z; cases z)) htt
      refine ⟨_, rfl, Dl, _, 0, _, rfl, rfl, SqL.of hD6, at0, _, rfl, _, rfl, Dl, _, 0, _, rfl, rfl, SqL.of hD6, at0, b, .ref tt, rfl, .inl ⟨kb, .inr b0.word, .inl hb6, rfl, ev.symm⟩, tt, _, 0, _, rfl, rfl, SqT.of htt6, at0, rfl, fun t1 H7 s7 n7 h7 => ?_⟩
      exact q t1 b0 ll H7 (s16.trans s7) ⟨rest, eF⟩ mb0.1 vb0 h7 ((hll.frb hb F6).same s7)

end
end KR
namespace KR
open PySem PySem.Spec PyProof.Rows L2
section
variable {P : Program} {w : World} {K : PySem.W.Frag} {mg : Str → Option Value} {base : Heap}
def WS (K : PySem.W.Frag) (D : Dy) (H1 : Hp) (d ta pa : Addr) (m : Nat) (σ : L2.St) (H' : Hp) : Prop := ∃ (lv : V) (v4 v5 : Option V) (rs : List Addr) (l : List (Str × Nat × Nat)), σ = [some (.ref d), some (.ref ta), some (.ref pa), some lv, v4, v5] ∧ Same H1 H' ∧ H' pa = some (.lst (rs.map V.ref)) ∧ PaperAt H' rs l ∧
  ((∃ (le : Addr) (pl t : Nat), lv = .ref le ∧ H' le = some (.tup [.int (pl : Int), .int ((t : Int) - 1)]) ∧ pl ≤ D.ks.length ∧ t ≤ D.cs.length ∧ m = t * 10 + (9 - pl) + 1 ∧ l.length + m ≤ 500 ∧ ∀ l', Chain D pl t l' (tk D t pl) → TChain D pl t l' → Chain D D.ks.length D.cs.length (l ++ l') (mostD D) ∧ TChain D D.ks.length D.cs.length (l ++ l')) ∨
  (lv = .non ∧ m = 0 ∧ l.length ≤ 500 ∧ Chain D D.ks.length D.cs.length l (mostD D) ∧ TChain D D.ks.length D.cs.length l))
def sp_p_most_struck (K : PySem.W.Frag) : Sp := fun vs H Q _ => ∃ (p d : Addr) (x : DyP) (D : Dy), vs = [.ref d] ∧ DayAt K H p d x D ∧ DyOk D ∧ ∀ (tt f : Addr) (rs : List Addr) (l : List (Str × Nat × Nat)) (H' : Hp), Same H H' → H f = none → H' tt = some (.tup [.int (mostD D), .ref f]) → H' f = some (.lst (rs.map V.ref)) → PaperAt H' rs l → Chain D D.ks.length D.cs.length l (mostD D) → TChain D D.ks.length D.cs.length l → l.length ≤ 500 → Q (.ref tt) H'
theorem ok_p_most_struck (T : All K mg) : FnOk P w K mg base CX0 3 T.f_p_most_struck T.fd_p_most_struck ["day"] (sp_p_most_struck K) := by
  refine T.d_p_most_struck.fn.ok sc_p_most_struck (fun vs H Q E h => ?_) (fun cdv A outer s H vs Q E hr h => ?_)
  · obtain ⟨p, d, x, D, rfl, _⟩ := h
    rfl
  · obtain ⟨p, d, x, D, rfl, hD, O, q⟩ := h
    refine ⟨_, (pss_cons (ps_set (i := 1) sc_p_most_struck.nd rfl (by first | exact Or.inl rfl | exact Or.inr rfl) (pe_call (ok_p__most_taken T) hr (by rfl) T.d_p__most_taken.mg T.d_p__most_taken.fn.kp T.d_p__most_taken.b .nil pass0 (pa_cons (pv 0) pa_nil)))
      (pss_cons (ps_set (i := 2) sc_p_most_struck.nd rfl (by first | exact Or.inl rfl | exact Or.inr rfl) (pe_lstI pa_nil))
      (pss_cons (ps_set (i := 3) sc_p_most_struck.nd rfl (by first | exact Or.inl rfl | exact Or.inr rfl) (pe_call (ok_p_end_of T) hr (by rfl) T.d_p_end_of.mg T.d_p_end_of.fn.kp T.d_p_end_of.b .nil pass0 (pa_cons (pv 0) pa_nil)))
      (pss_cons (ps_while PassesOwn.never (pt_cmpR op_notN (pv 3) pe_non (nomark _)) (pss_cons (ps_asg (pe_call (ok_p__tight_bound T) hr (by rfl) T.d_p__tight_bound.mg T.d_p__tight_bound.fn.kp T.d_p__tight_bound.b .nil pass0 (pa_cons (pv 0) (pa_cons (pv 1) (pa_cons (pv 3) pa_nil)))) (pg_tupK (K := K) rfl rfl (pgs_cons (pg_name (i := 4) sc_p_most_struck.nd rfl (by first | exact Or.inl rfl | exact Or.inr rfl)) (pgs_cons (pg_name (i := 5) sc_p_most_struck.nd rfl (by first | exact Or.inl rfl | exact Or.inr rfl)) pgs_nil))))
      (pss_cons (ps_expr (pe_bm PySem.F.plainAttrs_list PySem.F.slot_list_append PySem.F.type_list_append mt_append (pv 2) (pa_cons (pe_op (op_catTP (K := K) rfl) (pe_tupI (pa_cons (pv 4) pa_nil)) (pv 3)) pa_nil)))
      (pss_one (ps_set (i := 3) sc_p_most_struck.nd rfl (by first | exact Or.inl rfl | exact Or.inr rfl) (pv 5))))))
      (pss_one (ps_ret (pe_tupI (pa_cons (pe_dget (hu_of hr) (pv 1) (pe_call (ok_p_end_of T) hr (by rfl) T.d_p_end_of.mg T.d_p_end_of.fn.kp T.d_p_end_of.b .nil pass0 (pa_cons (pv 0) pa_nil)) (fun _ _ => rfl)) (pa_cons (pv 2) pa_nil))))))))), ?_⟩
    have k1 := O.k1
    have k2 := O.k2
    have h2 := O.h2
    refine ⟨_, rfl, p, d, x, D, rfl, hD, O, fun ta kvs H1 s1 n1 hta told => ?_⟩
    refine ⟨rfl, fun pa H2 s2 n2 hpa => ?_⟩
    refine ⟨_, rfl, p, d, x, D, rfl, (hD.same s1).same s2, fun le0 H3 s3 n3 hle0 => ?_⟩
    refine ⟨WS K D H1 d ta pa, ⟨D.cs.length * 10 + (9 - D.ks.length) + 1, .ref le0, none, none, [], [], rfl, s2.trans s3, s3 _ _ hpa, PaperAt.nil _, .inl ⟨le0, D.ks.length, D.cs.length, rfl, hle0, Nat.le_refl _, Nat.le_refl _, rfl, by show 0 + _ ≤ _; omega, fun l' h h' => ⟨h, h'⟩⟩⟩, ?_⟩
    rintro m σ H4 ⟨lv, v4, v5, rs, l, rfl, s4, hpa4, pap, alt⟩
    refine ⟨_, rfl, rfl, _, rfl, ?_⟩
    rcases alt with ⟨le, pl, t, rfl, hle, hpl, ht, em, lm, cont⟩ | ⟨rfl, em, ll, ch, tch⟩
    · refine iteT ?_
      refine ⟨fun σ' H' => ∃ m', m' < m ∧ WS K D H1 d ta pa m' σ' H', fun _ _ h => h, ?_⟩
      refine ⟨_, rfl, _, rfl, _, rfl, p, d, ta, le, x, D, kvs, pl, t, rfl, (hD.same s1).same s4, O, s4 _ _ hta, told, hle, hpl, ht, fun tt b lw H5 s5 fb mb vb htt hlw => ?_⟩
      refine ⟨tt, _, rfl, SqT.of htt, rfl, _, _, rfl, _, _, rfl, rfl, ?_⟩
      have hpa5 := s5 _ _ hpa4
      refine ⟨_, rfl, .inl ⟨rfl, _, SqL.of hpa5⟩, _, rfl, rfl, fun t1 H6 s6 n6 h6 => ?_⟩
      refine ⟨_, rfl, t1, le, _, _, rfl, rfl, SqT.of h6, SqT.of ((s5.trans s6) _ _ hle), by simp, by simp, by rw [sizeLine_eq]; show 1 + 2 ≤ 16777216; decide, fun r H7 s7 n7 h7 => ?_⟩
      have hpa7 := (s6.trans s7) _ _ hpa5
      refine ⟨pa, _, _, rfl, rfl, hpa7, by rw [List.length_map, pap.1]; exact small' (by omega), ?_⟩
      refine ⟨_, rfl, ?_⟩
      have s47 := s5.trans (s6.trans s7)
      have npa : H1 pa = none := n2
      have hr7 : H7 r = some (bdTup (b.word, pl, t)) := h7
      have pap7 := (pap.same s47).snoc hr7
      have pap8 : PaperAt (upd H7 pa (.lst (rs.map V.ref ++ [.ref r]))) (rs ++ [r]) (l ++ [(b.word, pl, t)]) := ⟨pap7.1, fun j r' e a c => by
        have h := pap7.2 j r' e a c
        rw [upd_ne (ne_of h hpa7 (by intro z; cases z))]
        exact h⟩
      have e8 : (upd H7 pa (.lst (rs.map V.ref ++ [.ref r]))) pa = some (.lst ((rs ++ [r]).map V.ref)) := by
        rw [upd_same, List.map_append] <;> rfl
      have s8 : Same H1 (upd H7 pa (.lst (rs.map V.ref ++ [.ref r]))) := Same.put (s4.trans s47) npa
      have lw7 := (hlw.same s6).same s7
      cases el : b.lead with
      | none =>
        rw [el] at lw7
        obtain rfl : lw = .non := lw7
        have ev : b.more = tk D t pl := by
          rw [← vb]
          unfold valB
          rw [el]
        refine ⟨0, by omega, .non, _, _, rs ++ [r], l ++ [(b.word, pl, t)], rfl, s8, e8, pap8, .inr ⟨rfl, rfl, by rw [List.length_append]; show l.length + 1 ≤ _; omega, cont _ ?_ (.last fb el)⟩⟩
        have c := Chain.last (D := D) mb el
        rw [ev] at c
        exact c
      | some y =>
        obtain ⟨p', h'⟩ := y
        obtain ⟨pn, tn, rfl, rfl, pk, tl⟩ := bnds_lead hpl mb el
        rw [el] at lw7
        obtain ⟨le', rfl, hle'⟩ := lw7
        have ev : tk D tn pn + b.more = tk D t pl := by
          rw [← vb]
          unfold valB
          rw [el]
          show _ = tk D ((tn : Int) - 1 + 1).toNat ((pn : Int)).toNat + b.more
          rw [show ((tn : Int) - 1 + 1).toNat = tn by omega, Int.toNat_natCast]
        refine ⟨tn * 10 + (9 - pn) + 1, by omega, .ref le', _, _, rs ++ [r], l ++ [(b.word, pl, t)], rfl, s8, e8, pap8, .inl ⟨le', pn, tn, rfl, by rw [upd_ne (ne_of hle' hpa7 (by intro z; cases z))]; exact hle', pk, by omega, rfl, by rw [List.length_append]; show l.length + 1 + _ ≤ _; omega, fun l' c ct => ?_⟩⟩
        have c1 := Chain.step mb el pk (by omega) c
        rw [ev] at c1
        have c2 := cont _ c1 (.step fb el ct)
        rw [List.append_assoc, List.singleton_append]
        exact c2
    · refine iteF ?_
      refine ⟨_, rfl, _, rfl, p, d, x, D, rfl, (hD.same s1).same s4, fun te H5 s5 n5 h5 => ?_⟩
      have g : DGet H5 ta (.ref te) (some (.int (mostD D))) := by
        unfold mostD
        rw [← told D.ks.length D.cs.length ⟨Nat.le_refl _, Nat.le_refl _⟩]
        exact .t (k := kk D.ks.length D.cs.length) ((s4.trans s5) _ _ hta) h5
      refine ⟨ta, _, rfl, g, _, rfl, rfl, fun tt H6 s6 n6 h6 => ?_⟩
      have s56 := s5.trans s6
      exact q tt pa rs l H6 (s1.trans (s4.trans s56)) (same_none' s1 n2) h6 (s56 _ _ hpa4) (pap.same s56) ch tch ll

end
end KR
namespace KR
open PySem PySem.Spec PyProof.Rows L2
section
variable {P : Program} {w : World} {K : PySem.W.Frag} {mg : Str → Option Value} {base : Heap}
def sp_p__most (K : PySem.W.Frag) : Sp := fun vs H Q _ => ∃ (p d : Addr) (x : DyP) (D : Dy), vs = [.ref d] ∧ DayAt K H p d x D ∧ DyOk D ∧ ∀ H', Same H H' → Q (.int (mostD D)) H'
theorem ok_p__most (T : All K mg) : FnOk P w K mg base CX0 3 T.f_p__most T.fd_p__most ["day"] (sp_p__most K) := by
  refine T.d_p__most.fn.ok sc_p__most (fun vs H Q E h => ?_) (fun cdv A outer s H vs Q E hr h => ?_)
  · obtain ⟨p, d, x, D, rfl, _⟩ := h
    rfl
  · obtain ⟨p, d, x, D, rfl, hD, O, q⟩ := h
    refine ⟨_, (pss_one (ps_ret (pe_dget (hu_of hr) (pe_call (ok_p__most_taken T) hr (by rfl) T.d_p__most_taken.mg T.d_p__most_taken.fn.kp T.d_p__most_taken.b .nil pass0 (pa_cons (pv 0) pa_nil)) (pe_call (ok_p_end_of T) hr (by rfl) T.d_p_end_of.mg T.d_p_end_of.fn.kp T.d_p_end_of.b .nil pass0 (pa_cons (pv 0) pa_nil)) (fun _ _ => rfl)))), ?_⟩
    refine ⟨_, rfl, p, d, x, D, rfl, hD, O, fun ta kvs H1 s1 nt ht told => ?_⟩
    refine ⟨_, rfl, p, d, x, D, rfl, hD.same s1, fun te H2 s2 n2 h2 => ?_⟩
    have h2' : H2 te = some (.tup ((kk D.ks.length D.cs.length).map kV)) := h2
    have g : DGet H2 ta (.ref te) (some (.int (tk D D.cs.length D.ks.length))) := by
      rw [← told D.ks.length D.cs.length ⟨Nat.le_refl _, Nat.le_refl _⟩]
      exact .t (s2 _ _ ht) h2'
    exact ⟨ta, _, rfl, g, q H2 (s1.trans s2)⟩

end
end KR
namespace KR
open PySem PySem.Spec PyProof.Rows L2
section
variable {P : Program} {w : World} {K : PySem.W.Frag} {mg : Str → Option Value} {base : Heap}
def sp_p__widened (K : PySem.W.Frag) : Sp := fun vs H Q _ => ∃ (p d : Addr) (x : DyP) (D : Dy) (i : Nat), vs = [.ref d, .int (i : Int)] ∧ DayAt K H p d x D ∧ (∃ o, H p = some o) ∧ DyOk D ∧ i ≤ D.ks.length ∧ ∀ (w : Addr) (x' : DyP) (H' : Hp), Same H H' → DayAt K H' p w x' (widerD D i) → Q (.ref w) H'
theorem ok_p__widened (T : All K mg) : FnOk P w K mg base CX0 1 T.f_p__widened T.fd_p__widened ["day", "place"] (sp_p__widened K) := by
  refine T.d_p__widened.fn.ok sc_p__widened (fun vs H Q E h => ?_) (fun cdv A outer s H vs Q E hr h => ?_)
  · obtain ⟨p, d, x, D, i, rfl, _⟩ := h
    rfl
  · obtain ⟨p, d, x, D, i, rfl, hD, ⟨op, hp⟩, O, hi, q⟩ := h
    refine ⟨_, (pss_cons (ps_asg (pv 0) (pg_tupK (K := K) rfl rfl (pgs_cons (pg_name (i := 2) sc_p__widened.nd rfl (by first | exact Or.inl rfl | exact Or.inr rfl)) (pgs_cons (pg_name (i := 3) sc_p__widened.nd rfl (by first | exact Or.inl rfl | exact Or.inr rfl)) (pgs_cons (pg_name (i := 4) sc_p__widened.nd rfl (by first | exact Or.inl rfl | exact Or.inr rfl)) pgs_nil)))))
      (pss_cons (ps_if (pt_cmpR op_eq (pv 1) (pe_callB (lenA (K := K) rfl) (by rfl) T.b_len PySem.boot_len (pa_cons (pv 3) pa_nil)) (nomark _)) (pss_one (ps_ret (pe_tupI (pa_cons (pv 2) (pa_cons (pv 3) (pa_cons (pe_lc (own := [("number", 5)]) (g := gName 5) (tt := tYes) (by rfl) sc_p__widened.nd (pi_seqB (K := K) rfl (pv 4)) (blkOk_by (own := [("number", 5)]) (N := ["day", "place", "comes", "kettles", "strikes", "number", "wider", "room", "takes"]) (sc := defScope s_p__widened) (by decide +kernel)) (fun _ _ _ _ _ => (pg_name (i := 5) sc_p__widened.nd rfl (by first | exact Or.inl rfl | exact Or.inr rfl))) (fun _ _ _ _ _ => pts_nil) (fun _ _ _ _ _ => (pe_op op_add (pv 5) pe_int))) pa_nil)))))) pss_nil)
      (pss_cons (ps_set (i := 6) sc_p__widened.nd rfl (by first | exact Or.inl rfl | exact Or.inr rfl) (pe_callTy (listI (K := K) rfl) (by rfl) T.b_list (by decide +kernel) (pa_cons (pv 3) pa_nil)))
      (pss_cons (ps_asg (pe_ix (ixQ (K := K) rfl) (pv 3) (pv 1) (fun _ _ => rfl)) (pg_tupK (K := K) rfl rfl (pgs_cons (pg_name (i := 7) sc_p__widened.nd rfl (by first | exact Or.inl rfl | exact Or.inr rfl)) (pgs_cons (pg_name (i := 8) sc_p__widened.nd rfl (by first | exact Or.inl rfl | exact Or.inr rfl)) pgs_nil))))
      (pss_cons (ps_asg (pe_tupI (pa_cons (pe_op op_add (pv 7) pe_int) (pa_cons (pe_lc (own := [("number", 5)]) (g := gName 5) (tt := tYes) (by rfl) sc_p__widened.nd (pi_seqB (K := K) rfl (pv 8)) (blkOk_by (own := [("number", 5)]) (N := ["day", "place", "comes", "kettles", "strikes", "number", "wider", "room", "takes"]) (sc := defScope s_p__widened) (by decide +kernel)) (fun _ _ _ _ _ => (pg_name (i := 5) sc_p__widened.nd rfl (by first | exact Or.inl rfl | exact Or.inr rfl))) (fun _ _ _ _ _ => pts_nil) (fun _ _ _ _ _ => (pe_op op_add (pv 5) pe_int))) pa_nil))) (pg_sub (pv 6) (pv 1) set_list))
      (pss_one (ps_ret (pe_tupI (pa_cons (pv 2) (pa_cons (pv 6) (pa_cons (pv 4) pa_nil))))))))))), ?_⟩
    have h2 := O.h2
    have k2 := O.k2
    refine ⟨_, rfl, d, _, rfl, hD.at_, rfl, _, _, rfl, _, _, rfl, _, _, rfl, rfl, ?_⟩
    refine ⟨_, rfl, _, rfl, _, _, rfl, lenV_b hD.ks, ?_⟩
    rw [List.length_map, hD.len]
    refine ⟨rfl, _, rfl, ?_⟩
    by_cases c : i = D.ks.length
    · subst c
      refine ite_bT (decide_eq_true rfl) ?_
      refine ⟨_, rfl, _, rfl, ?_⟩
      refine inc_lc (i := 4) (n := 5) rfl (by show 5 < 9; decide) hD.ss (by rw [O.sl]; exact h2) fun G H1 s1 n1 h1 => ⟨rfl, fun w H2 s2 n2 h2' => ?_⟩
      exact q w _ H2 (s1.trans s2) (wider_atS hD (s1.trans s2) h2' (s2 _ _ h1) (ne_of_none hp n1).symm)
    · refine ite_bF (decide_eq_false fun e => c (by injection e with e; omega)) ?_
      have lt : i < D.ks.length := by omega
      refine ⟨_, rfl, x.k, _, rfl, seqB_or hD.ks, fun wl H1 s1 n1 h1 => ?_⟩
      obtain ⟨ka, t, b, gk, hk, ht⟩ := (hD.same s1).pot (j := i) lt
      refine ⟨_, rfl, _, rfl, ix_b (hD.same s1).ks rfl gk ?_⟩
      refine ⟨ka, _, rfl, hk, rfl, _, _, rfl, _, _, rfl, rfl, ?_⟩
      refine ⟨_, rfl, _, _, rfl, rfl, ?_⟩
      refine inc_lc (i := 8) (n := 5) rfl (by show 5 < 9; decide) ht (by rw [kt_len O lt]; exact h2) fun G H2 s2 n2 h2' => ⟨rfl, fun u H3 s3 n3 h3 => ?_⟩
      have hwl := (s2.trans s3) _ _ h1
      refine ⟨_, rfl, _, rfl, wl, _, (i : Int), i, rfl, rfl, hwl, ixN_at (by rw [List.length_map, hD.len]; exact lt), ?_⟩
      rw [show (x.as.map V.ref).set i (V.ref u) = (x.as.set i u).map V.ref from List.map_set.symm]
      have s4 : Same H (upd H3 wl (.lst ((x.as.set i u).map V.ref))) := Same.put (s1.trans (s2.trans s3)) n1
      have hw4 : (upd H3 wl (.lst ((x.as.set i u).map V.ref))) wl = some (.lst ((x.as.set i u).map V.ref)) := upd_same
      have hu4 : (upd H3 wl (.lst ((x.as.set i u).map V.ref))) u = some (.tup [.int ((kt D i).1 + 1), .ref G]) := by
        rw [upd_ne (ne_of h3 hwl (by intro z; cases z))]
        exact h3
      have hG4 : (upd H3 wl (.lst ((x.as.set i u).map V.ref))) G = some (.lst (((kt D i).2.map (· + 1)).map V.int)) := by
        rw [upd_ne (ne_of_none h1 n2).symm]
        exact s3 _ _ h2'
      generalize upd H3 wl (.lst ((x.as.set i u).map V.ref)) = H4 at s4 hw4 hu4 hG4
      refine ⟨_, rfl, _, rfl, _, rfl, rfl, fun w H5 s5 n5 h5 => ?_⟩
      exact q w _ H5 (s4.trans s5) (wider_at hD (s4.trans s5) lt h5 (s5 _ _ hw4) (ne_of_none hp n1).symm (s5 _ _ hu4) (s5 _ _ hG4) (ne_of_none (s1 _ _ hp) n2).symm)

end
end KR
namespace KR
open PySem PySem.Spec PyProof.Rows L2
section
variable {P : Program} {w : World} {K : PySem.W.Frag} {mg : Str → Option Value} {base : Heap}
def sp_p_binding_places (K : PySem.W.Frag) : Sp := fun vs H Q _ => ∃ (p d : Addr) (x : DyP) (D : Dy), vs = [.ref d] ∧ DayAt K H p d x D ∧ (∃ o, H p = some o) ∧ DyOk D ∧ ∀ (f : Addr) (H' : Hp), Same H H' → H f = none → H' f = some (.lst ((bindI D).map V.int)) → Q (.ref f) H'
theorem ok_p_binding_places (T : All K mg) : FnOk P w K mg base CX0 4 T.f_p_binding_places T.fd_p_binding_places ["day"] (sp_p_binding_places K) := by
  refine T.d_p_binding_places.fn.ok sc_p_binding_places (fun vs H Q E h => ?_) (fun cdv A outer s H vs Q E hr h => ?_)
  · obtain ⟨p, d, x, D, rfl, _⟩ := h
    rfl
  · obtain ⟨p, d, x, D, rfl, hD, ⟨op, hp⟩, O, q⟩ := h
    refine ⟨_, (pss_cons (ps_set (i := 1) sc_p_binding_places.nd rfl (by first | exact Or.inl rfl | exact Or.inr rfl) (pe_call (ok_p__most T) hr (by rfl) T.d_p__most.mg T.d_p__most.fn.kp T.d_p__most.b .nil pass0 (pa_cons (pv 0) pa_nil)))
      (pss_one (ps_ret (pe_lc (own := [("place", 2)]) (g := gName 2) (by rfl) sc_p_binding_places.nd (pi_range1 (by rfl) T.b_range (pa_cons (pe_call (ok_p_places_in T) (hr.mono (by decide)) (by rfl) T.d_p_places_in.mg T.d_p_places_in.fn.kp T.d_p_places_in.b .nil pass0 (pa_cons (pv 0) pa_nil)) pa_nil)) (blkOk_by (own := [("place", 2)]) (N := ["day", "many", "place"]) (sc := defScope s_p_binding_places) (by decide +kernel)) (fun _ _ _ _ _ => (pg_name (i := 2) sc_p_binding_places.nd rfl (by first | exact Or.inl rfl | exact Or.inr rfl))) (fun _ _ _ _ _ => (pts_one (pt_cmpR op_gt (pe_call (ok_p__most T) hr (by rfl) T.d_p__most.mg T.d_p__most.fn.kp T.d_p__most.b .nil pass0 (pa_cons (pe_call (ok_p__widened T) (hr.mono (by decide)) (by rfl) T.d_p__widened.mg T.d_p__widened.fn.kp T.d_p__widened.b .nil pass0 (pa_cons (pv 0) (pa_cons (pv 2) pa_nil))) pa_nil)) (pv 1) (nomark _)))) (fun _ _ _ _ _ => (pv 2)))))), ?_⟩
    have k2 := O.k2
    refine ⟨_, rfl, p, d, x, D, rfl, hD, O, fun H1 s1 => ?_⟩
    refine ⟨_, rfl, p, d, x, D, rfl, hD.same s1, (D.ks.length : Int) + 1, rfl, by omega, by omega, fun F hF => ?_⟩
    have eM : ((D.ks.length : Int) + 1).toNat = D.ks.length + 1 := by omega
    refine lc_range (lo := 0) (n := ((D.ks.length : Int) + 1).toNat) (fun i H' => Same H1 H' ∧ H' F = some (.lst ((((List.range i).filter fun p => decide (mostD D < mostD (widerD D p))).map fun p : Nat => (p : Int)).map V.int)))
      ⟨same_new hF, upd_same⟩ (fun i H2 hi z => ?_) (fun H2 z => ?_)
    · obtain ⟨s2, hF2⟩ := z
      rw [eM] at hi
      rw [Int.zero_add]
      refine ⟨rfl, ?_⟩
      refine ⟨_, rfl, _, rfl, p, d, x, D, i, rfl, (hD.same s1).same s2, ⟨op, (s1.trans s2) _ _ hp⟩, O, by omega, fun w x' H3 s3 hW => ?_⟩
      refine ⟨p, w, x', widerD D i, rfl, hW, wider_ok O (by omega), fun H4 s4 => ?_⟩
      refine ⟨_, rfl, _, _, rfl, rfl, _, rfl, ?_⟩
      have s24 := s3.trans s4
      have fl : ((List.range i).filter fun p => decide (mostD D < mostD (widerD D p))).length ≤ i := by
        have := List.length_filter_le (fun p => decide (mostD D < mostD (widerD D p))) (List.range i)
        rw [List.length_range] at this
        exact this
      by_cases c : mostD D < mostD (widerD D i)
      · refine ite_bT (decide_eq_true c) ?_
        refine ⟨_, rfl, _, s24 _ _ hF2, by rw [List.length_map, List.length_map]; exact small' (by omega), Same.put (s2.trans s24) hF, ?_⟩
        rw [upd_same, List.range_succ, List.filter_append, List.filter_cons, if_pos (decide_eq_true c), List.map_append, List.map_append] <;> rfl
      · refine ite_bF (decide_eq_false c) ?_
        refine ⟨s2.trans s24, ?_⟩
        rw [s24 _ _ hF2, List.range_succ, List.filter_append, List.filter_cons, if_neg (by rw [decide_eq_false c]; exact Bool.false_ne_true), List.filter_nil, List.append_nil]
    · obtain ⟨s2, hF2⟩ := z
      rw [eM] at hF2
      exact q F H2 (s1.trans s2) (same_none' s1 hF) hF2

end
end KR
namespace KR
open PySem PySem.Spec PyProof.Rows L2
section
variable {P : Program} {w : World} {K : PySem.W.Frag} {mg : Str → Option Value} {base : Heap}
def sp_p__is_bound_of (K : PySem.W.Frag) : Sp := fun vs H Q _ => ∃ (Av : Addr → Prop) (B n : Nat) (v : V) (d : PyData) (le : Addr) (pl t : Int), vs = [v, .ref le] ∧ Tg K Av H B n v d ∧ H le = some (.tup [.int pl, .int t]) ∧ ∀ H', Same H H' → Q (.bl (bdW pl t d).isSome) H'
theorem ok_p__is_bound_of (T : All K mg) : FnOk P w K mg base CX0 2 T.f_p__is_bound_of T.fd_p__is_bound_of ["thing", "lead"] (sp_p__is_bound_of K) := by
  refine T.d_p__is_bound_of.fn.ok sc_p__is_bound_of (fun vs H Q E h => ?_) (fun cdv A outer s H vs Q E hr h => ?_)
  · obtain ⟨Av, B, n, v, d, le, pl, t, rfl, _⟩ := h
    rfl
  · obtain ⟨Av, B, n, v, d, le, pl, t, rfl, h, hle, q⟩ := h
    refine ⟨_, (pss_cons (ps_if (PW.pt (pw_or (pt_not (pt_val (pe_callB (isiK (K := K) rfl) (by rfl) T.b_isinstance (by decide +kernel) (pa_cons (pv 0) (pa_cons (pe_bltn (v := .ty "tuple") (by rfl) T.b_tuple (by decide +kernel) rfl) pa_nil))))) (pw_or1 (pt_cmpR op_ne (pe_callB (lenQ (K := K) rfl) (by rfl) T.b_len PySem.boot_len (pa_cons (pv 0) pa_nil)) pe_int (nomark _))))) (pss_one (ps_ret pe_bl)) pss_nil)
      (pss_cons (ps_asg (pv 0) (pg_tupK (K := K) rfl rfl (pgs_cons (pg_name (i := 2) sc_p__is_bound_of.nd rfl (by first | exact Or.inl rfl | exact Or.inr rfl)) (pgs_cons (pg_name (i := 3) sc_p__is_bound_of.nd rfl (by first | exact Or.inl rfl | exact Or.inr rfl)) (pgs_cons (pg_name (i := 4) sc_p__is_bound_of.nd rfl (by first | exact Or.inl rfl | exact Or.inr rfl)) pgs_nil)))))
      (pss_one (ps_ret (pe_and (pe_callB (isiK (K := K) rfl) (by rfl) T.b_isinstance (by decide +kernel) (pa_cons (pv 2) (pa_cons (pe_bltn (v := .ty "str") (by rfl) T.b_str (by decide +kernel) rfl) pa_nil))) (pe_and (pe_call (ok_p_is_number T) hr (by rfl) T.d_p_is_number.mg T.d_p_is_number.fn.kp T.d_p_is_number.b .nil pass0 (pa_cons (pv 3) pa_nil)) (pe_and (pe_call (ok_p_is_number T) hr (by rfl) T.d_p_is_number.mg T.d_p_is_number.fn.kp T.d_p_is_number.b .nil pass0 (pa_cons (pv 4) pa_nil)) (pe_one (pe_cmpR (eqDK (K := K) rfl hr.units) (pe_tupI (pa_cons (pv 3) (pa_cons (pv 4) pa_nil))) (pv 1) (nomark _)))))))))), ?_⟩
    obtain ⟨ty, hty, _, kt, _, _, _⟩ := h.ty
    refine ⟨_, rfl, _, _, _, _, _, rfl, .ty _, hty, kit_ty kt, ?_⟩
    cases e : isT d with
    | false =>
      rw [bdW_T e] at q
      exact ⟨_, rfl, iteT (q _ (.refl _))⟩
    | true =>
      obtain ⟨a, xs, ds, m, rfl, rfl, rfl, sq, tg⟩ := h.tupI e
      refine ⟨_, rfl, iteF ?_⟩
      refine ⟨_, rfl, a, _, rfl, .inr sq, rfl, _, rfl, ?_⟩
      by_cases c : xs.length = 3
      · rw [decide_eq_true (show V.int (xs.length : Int) = V.int 3 by rw [c] <;> rfl)]
        refine iteF ?_
        obtain ⟨x1, x2, x3, d1, d2, d3, rfl, rfl, t1, t2, t3⟩ := three tg c
        refine ⟨_, rfl, a, _, rfl, sq, rfl, _, _, rfl, _, _, rfl, _, _, rfl, rfl, ?_⟩
        obtain ⟨ty1, hty1, _, _, _, _, ks⟩ := t1.ty
        refine ⟨_, rfl, _, _, _, _, _, rfl, .ty _, hty1, kit_ty ks, _, rfl, ?_⟩
        cases e1 : isS d1 with
        | false =>
          rw [bdW_no (.inl e1)] at q
          exact iteF (q _ (.refl _))
        | true =>
          refine iteT ?_
          refine ⟨_, rfl, Av, B, m, x2, d2, rfl, t2, _, rfl, ?_⟩
          cases e2 : isI d2 with
          | false =>
            rw [bdW_no (.inr (.inl e2))] at q
            exact iteF (q _ (.refl _))
          | true =>
            refine iteT ?_
            refine ⟨_, rfl, Av, B, m, x3, d3, rfl, t3, _, rfl, ?_⟩
            cases e3 : isI d3 with
            | false =>
              rw [bdW_no (.inr (.inr e3))] at q
              exact iteF (q _ (.refl _))
            | true =>
              refine iteT ?_
              obtain ⟨w1, rfl, rfl⟩ := t1.strI e1
              obtain ⟨i2, rfl, rfl, _⟩ := t2.intI e2
              obtain ⟨i3, rfl, rfl, _⟩ := t3.intI e3
              refine ⟨_, rfl, _, rfl, rfl, fun u1 H1 s1 n1 h1 => ⟨_, rfl, .tuple [.int i2, .int i3], .tuple [.int pl, .int t], dp_pair h1, dp_pair (s1 _ _ hle), rfl, rfl, ?_⟩⟩
              rw [eqv_pair]
              have z := q H1 s1
              have ez : (bdW pl t (.tuple [.str w1, .int i2, .int i3])).isSome = decide (i2 = pl ∧ i3 = t) := by
                show (if i2 = pl ∧ i3 = t then some w1 else none).isSome = _
                split
                · rename_i y
                  rw [decide_eq_true y] <;> rfl
                · rename_i y
                  rw [decide_eq_false y] <;> rfl
              rw [ez] at z
              exact z
      · rw [decide_eq_false (show ¬ V.int (xs.length : Int) = V.int 3 from fun z => c (by injection z with z; omega))]
        rw [bdW_len (by rw [← tg.1]; exact c)] at q
        exact iteT (q _ (.refl _))

end
end KR
namespace KR
open PySem PySem.Spec PyProof.Rows L2
section
variable {P : Program} {w : World} {K : PySem.W.Frag} {mg : Str → Option Value} {base : Heap}
def sp_p_shows_most (K : PySem.W.Frag) : Sp := fun vs H Q _ => ∃ (p d : Addr) (x : DyP) (D : Dy) (m : Int) (Av : Addr → Prop) (B n : Nat) (v : V) (e : PyData), vs = [.ref d, .int m, v] ∧ DayAt K H p d x D ∧ DyOk D ∧ Tg K Av H B n v e ∧ ∀ H', Same H H' → Q (.bl (isPap D m e)) H'
def LeadW (D : Dy) (m : Int) (r : Bool) (ds : List PyData) (lv : V) (told : Int) (H' : Hp) : Prop :=
  (∃ (le : Addr) (pl t : Nat), lv = .ref le ∧ H' le = some (.tup [.int (pl : Int), .int ((t : Int) - 1)]) ∧ pl ≤ D.ks.length ∧ t ≤ D.cs.length ∧ walkP D m (some ((pl : Int), (t : Int) - 1)) told ds = r) ∨ (lv = .non ∧ walkP D m none told ds = r)
theorem ok_p_shows_most (T : All K mg) : FnOk P w K mg base CX0 3 T.f_p_shows_most T.fd_p_shows_most ["day", "many", "thing"] (sp_p_shows_most K) := by
  refine T.d_p_shows_most.fn.ok sc_p_shows_most (fun vs H Q E h => ?_) (fun cdv A outer s H vs Q E hr h => ?_)
  · obtain ⟨p, d, x, D, m, Av, B, n, v, e, rfl, _⟩ := h
    rfl
  · obtain ⟨p, d, x, D, m, Av, B, n, v, e, rfl, hD, O, hv, q⟩ := h
    refine ⟨_, (pss_cons (ps_if (pt_not (pt_val (pe_callB (isiK (K := K) rfl) (by rfl) T.b_isinstance (by decide +kernel) (pa_cons (pv 2) (pa_cons (pe_bltn (v := .ty "list") (by rfl) T.b_list (by decide +kernel) rfl) pa_nil))))) (pss_one (ps_ret pe_bl)) pss_nil)
      (pss_cons (ps_set (i := 3) sc_p_shows_most.nd rfl (by first | exact Or.inl rfl | exact Or.inr rfl) (pe_call (ok_p_end_of T) hr (by rfl) T.d_p_end_of.mg T.d_p_end_of.fn.kp T.d_p_end_of.b .nil pass0 (pa_cons (pv 0) pa_nil)))
      (pss_cons (ps_set (i := 4) sc_p_shows_most.nd rfl (by first | exact Or.inl rfl | exact Or.inr rfl) pe_int)
      (pss_cons (ps_for PassesOwn.never rfl (pi_listK (K := K) rfl (pv 2)) (pg_name (i := 5) sc_p_shows_most.nd rfl (by first | exact Or.inl rfl | exact Or.inr rfl)) (pss_cons (ps_if (PW.pt (pw_or (pt_cmpR op_isN (pv 3) pe_non (nomark _)) (pw_or1 (pt_not (pt_val (pe_call (ok_p__is_bound_of T) hr (by rfl) T.d_p__is_bound_of.mg T.d_p__is_bound_of.fn.kp T.d_p__is_bound_of.b .nil pass0 (pa_cons (pv 5) (pa_cons (pv 3) pa_nil)))))))) (pss_one (ps_ret pe_bl)) pss_nil)
      (pss_cons (ps_set (i := 6) sc_p_shows_most.nd rfl (by first | exact Or.inl rfl | exact Or.inr rfl) (pe_call (ok_p_bounds_at T) (hr.mono (by decide)) (by rfl) T.d_p_bounds_at.mg T.d_p_bounds_at.fn.kp T.d_p_bounds_at.b .nil pass0 (pa_cons (pv 0) (pa_cons (pe_ix (ixT (K := K) rfl) (pv 3) pe_int (fun _ _ => rfl)) (pa_cons (pe_ix (ixT (K := K) rfl) (pv 3) pe_int (fun _ _ => rfl)) pa_nil)))))
      (pss_cons (ps_if (pt_cmp (pc_dnotin (hu_of hr) (pe_ix (ixT (K := K) rfl) (pv 5) pe_int (fun _ _ => rfl)) (pv 6)) (by with_unfolding_all rfl)) (pss_one (ps_ret pe_bl)) pss_nil)
      (pss_cons (ps_asg (pe_dget (hu_of hr) (pv 6) (pe_ix (ixT (K := K) rfl) (pv 5) pe_int (fun _ _ => rfl)) (fun _ _ => rfl)) (pg_tupK (K := K) rfl rfl (pgs_cons (pg_name (i := 3) sc_p_shows_most.nd rfl (by first | exact Or.inl rfl | exact Or.inr rfl)) (pgs_cons (pg_name (i := 7) sc_p_shows_most.nd rfl (by first | exact Or.inl rfl | exact Or.inr rfl)) pgs_nil))))
      (pss_one (ps_aug (i := 4) sc_p_shows_most.nd rfl (by first | exact Or.inl rfl | exact Or.inr rfl) (pv 7) ip_add)))))))
      (pss_one (ps_ret (pe_and (pe_cmpR op_isN (pv 3) pe_non (nomark _)) (pe_one (pe_cmpR op_eq (pv 4) (pv 1) (nomark _)))))))))), ?_⟩
    obtain ⟨ty, hty, kl, _, _, _, _⟩ := hv.ty
    refine ⟨_, rfl, _, _, _, _, _, rfl, .ty _, hty, kit_ty kl, ?_⟩
    cases el : isL e with
    | false =>
      have z : isPap D m e = false := by cases e <;> first | rfl | exact nomatch el
      rw [z] at q
      exact ⟨_, rfl, iteT (q _ (.refl _))⟩
    | true =>
      obtain ⟨f, xs, ds, n', rfl, rfl, rfl, hf, tg⟩ := hv.lstI el
      refine ⟨_, rfl, iteF ?_⟩
      refine ⟨_, rfl, p, d, x, D, rfl, hD, fun le0 H1 s1 n1 h1 => ?_⟩
      generalize er : isPap D m (.list ds) = r at q
      have er' : walkP D m (some ((D.ks.length : Int), (D.cs.length : Int) - 1)) 0 ds = r := er
      refine ⟨_, rfl, f, rfl, ⟨_, SqL.of (s1 _ _ hf)⟩, for_it (walk_list (K := K) (a := f) (xs := xs)) (fun j σ H' => ∃ (lv : V) (td : Int) (v5 v6 v7 : Option V), σ = [some (.ref d), some (.int m), some (.ref f), some lv, some (.int td), v5, v6, v7] ∧ Same H H' ∧ LeadW D m r (ds.drop j) lv td H')
        ⟨.ref le0, 0, none, none, none, rfl, s1, .inl ⟨le0, D.ks.length, D.cs.length, rfl, h1, Nat.le_refl _, Nat.le_refl _, er'⟩⟩ (fun j σ H' _ ⟨_, _, _, _, _, _, s, _⟩ => SqL.of (s _ _ hf)) ?_ ?_⟩
      · rintro j v σ H2 H3 hj ⟨lv, td, v5, v6, v7, rfl, s2, ld⟩ ⟨rfl, hv'⟩
        have hj2 : j < ds.length := by rw [← tg.1]; exact hj
        obtain ⟨x0, e, ex, ee, tx⟩ := (tg.same s2).at_ hj
        obtain rfl : v = x0 := Option.some.inj (hv'.symm.trans ex)
        have dj : ds.drop j = e :: ds.drop (j + 1) := by
          rw [List.drop_eq_getElem_cons hj2]
          rw [List.getElem?_eq_getElem hj2] at ee
          rw [Option.some.inj ee]
        rw [dj] at ld
        rcases ld with ⟨le, pl, t, rfl, hle, hpl, ht, wk⟩ | ⟨rfl, wk⟩
        · refine ⟨_, rfl, rfl, _, rfl, iteF ?_⟩
          refine ⟨_, rfl, _, rfl, Av, B, n', v, e, le, (pl : Int), (t : Int) - 1, rfl, tx, hle, fun H4 s4 => ?_⟩
          rw [walkP_cons] at wk
          cases eb : bdW (pl : Int) ((t : Int) - 1) e with
          | none =>
            simp only [eb] at wk
            subst wk
            exact ⟨_, rfl, iteT (q _ (s2.trans s4))⟩
          | some w =>
            simp only [eb] at wk
            refine ⟨_, rfl, iteF ?_⟩
            obtain ⟨r0, ew, hr3⟩ : ∃ r0, v = .ref r0 ∧ SqT K H3 r0 [.str w, .int (pl : Int), .int ((t : Int) - 1)] := by
              cases et : isT e with
              | false => rw [bdW_T et] at eb; cases eb
              | true =>
                obtain ⟨a, ys, es, m', rfl, rfl, rfl, sq, tg'⟩ := tx.tupI et
                by_cases c : ys.length = 3
                · obtain ⟨x1, x2, x3, d1, d2, d3, rfl, rfl, t1, t2, t3⟩ := three tg' c
                  cases e1 : isS d1 with
                  | false => rw [bdW_no (.inl e1)] at eb; cases eb
                  | true =>
                    cases e2 : isI d2 with
                    | false => rw [bdW_no (.inr (.inl e2))] at eb; cases eb
                    | true =>
                      cases e3 : isI d3 with
                      | false => rw [bdW_no (.inr (.inr e3))] at eb; cases eb
                      | true =>
                        obtain ⟨w1, rfl, rfl⟩ := t1.strI e1
                        obtain ⟨i2, rfl, rfl, _⟩ := t2.intI e2
                        obtain ⟨i3, rfl, rfl, _⟩ := t3.intI e3
                        have eb : (if i2 = (pl : Int) ∧ i3 = (t : Int) - 1 then some w1 else none) = some w := eb
                        split at eb
                        · rename_i y
                          cases eb
                          rw [y.1, y.2] at sq
                          exact ⟨a, rfl, sq⟩
                        · cases eb
                · rw [bdW_len (by rw [← tg'.1]; exact c)] at eb
                  cases eb
            subst ew
            have hle4 := s4 _ _ hle
            have hr4 := Same.tup s4 hr3
            refine ⟨_, rfl, _, rfl, le, _, 0, _, rfl, rfl, SqT.of hle4, at0, _, rfl, le, _, 1, _, rfl, rfl, SqT.of hle4, at1, ?_⟩
            refine ⟨p, d, x, D, pl, t, (t : Int) - 1, rfl, rfl, (hD.same s2).same s4, O, hpl, ht, fun bx kb H5 s5 nb hb ab => ?_⟩
            have hr5 := Same.tup s5 hr4
            have s05 := s2.trans (s4.trans s5)
            rw [Int.toNat_natCast, show ((t : Int) - 1 + 1).toNat = t by omega] at wk
            cases es : stepP D pl t w with
            | none =>
              simp only [es] at wk
              subst wk
              have g : DGet H5 bx (.str w) none := .inl ⟨kb, .inr w, .inl hb, rfl, (ab.no (stepP_none es)).symm⟩
              refine ⟨_, rfl, r0, _, 0, _, rfl, rfl, hr5, at0, _, rfl, bx, _, rfl, g, _, rfl, iteT ?_⟩
              exact q _ s05
            | some b =>
              simp only [es] at wk
              obtain ⟨mb, rfl⟩ := stepP_some es
              obtain ⟨v', ev, _, tt, ll', e2, htt, hll⟩ := ab.at_ (bnds_words D pl t) b mb
              obtain rfl : v' = .ref tt := e2
              have g : DGet H5 bx (.str b.word) (some (.ref tt)) := .inl ⟨kb, .inr b.word, .inl hb, rfl, ev.symm⟩
              refine ⟨_, rfl, r0, _, 0, _, rfl, rfl, hr5, at0, _, rfl, bx, _, rfl, g, _, rfl, iteF ?_⟩
              refine ⟨_, rfl, _, rfl, r0, _, 0, _, rfl, rfl, hr5, at0, bx, _, rfl, g, ?_⟩
              refine ⟨tt, _, rfl, SqT.of htt, rfl, _, _, rfl, _, _, rfl, rfl, ?_⟩
              refine ⟨_, rfl, _, rfl, _, _, rfl, rfl, ?_⟩
              refine ⟨_, _, _, _, _, rfl, s05, ?_⟩
              cases el : b.lead with
              | none =>
                rw [el] at wk hll
                exact .inr ⟨hll, wk⟩
              | some y =>
                obtain ⟨p', t', rfl, hp', ht'⟩ := lead_in hpl mb el
                rw [el] at wk hll
                obtain ⟨le', rfl, hle'⟩ := hll
                exact .inl ⟨le', p', t', rfl, hle', hp', by omega, wk⟩
        · subst wk
          refine ⟨_, rfl, rfl, _, rfl, iteT ?_⟩
          exact q _ s2
      · rintro σ H2 ⟨lv, td, v5, v6, v7, rfl, s2, ld⟩
        rw [tg.1, List.drop_length] at ld
        rcases ld with ⟨le, pl, t, rfl, hle, hpl, ht, wk⟩ | ⟨rfl, wk⟩
        · refine ⟨_, rfl, rfl, _, rfl, iteF ?_⟩
          have wk : false = r := wk
          subst wk
          exact q _ s2
        · refine ⟨_, rfl, rfl, _, rfl, iteT ?_⟩
          refine ⟨_, rfl, _, rfl, rfl, ?_⟩
          have wk : (true && decide (td = m)) = r := wk
          subst wk
          have z := q _ s2
          by_cases c : td = m
          · rw [decide_eq_true c] at z
            rw [decide_eq_true (show V.int td = V.int m by rw [c])]
            exact z
          · rw [decide_eq_false c] at z
            rw [decide_eq_false (show ¬ V.int td = V.int m from fun e => c (by injection e))]
            exact z

end
end KR
namespace KR
open PySem PySem.Spec PyProof.Rows L2
section
variable {P : Program} {w : World} {K : PySem.W.Frag} {mg : Str → Option Value} {base : Heap}
theorem idx_uniqQ {rs : List Addr} {i j : Nat} {r : Addr} (nd : rs.Nodup) (h1 : rs[i]? = some r) (h2 : rs[j]? = some r) : i = j := (List.getElem?_inj (List.getElem?_eq_some_iff.mp h1).1 nd).mp (h1.trans h2.symm)
def sp_l_asked (K : PySem.W.Frag) (Ps : List Addr) : Sp := fun vs H Q _ => ∃ (p d : Addr) (x : DyP) (D : Dy) (w : Int), vs = [.int w, .ref d] ∧ 0 ≤ w ∧ w < 4 ∧ DayAt K H p d x D ∧ (∃ nb, BoxAt H p nb) ∧ x.pc = true ∧ x.pk = true ∧ DyOk D ∧ DyNn D ∧ Tg K (fun a => a = p) H 1000000 4 (.ref d) (dayE D) ∧ Tbs Ps H ∧
  ∀ (tt t : Addr) (xs : List V) (e : PyData) (H' : Hp), Sm H H' → H' tt = some (.tup [.ref t, .bl true]) → H' t = some (.lst xs) → xs.length ≤ 1000 → (¬ ∃ ys, H t = some (.lst ys)) → Tg K (fun a => ∃ ys, H a = some (.lst ys)) H' 1000000 2 (.ref t) e → PyData.weight e ≤ 30000 → Q (.ref tt) H'
theorem ok_l_asked (T : All K mg) (B : Tabs T base) : FnOk P w K mg base CX0 8 T.f_l_asked T.fd_l_asked ["_law_which", "_law_day_here"] (sp_l_asked K T.Ps) := by
  refine T.d_l_asked.fn.ok sc_l_asked (fun vs H Q E h => ?_) (fun cdv A outer s H vs Q E hr h => ?_)
  · obtain ⟨p, d, x, D, w, rfl, _⟩ := h
    rfl
  · obtain ⟨p, d, x, D, w, rfl, w0, w1, hD, ⟨nb, hB⟩, xc, xk, O, N, td, hT, q⟩ := h
    refine ⟨_, (pss_cons (ps_par (i := 2) (j := 3) (by rfl) sc_l_asked.nd rfl rfl (by decide) rfl rfl (pa_cons (pe_call (ok_l_greatest T) (hr.mono (by decide)) (by rfl) T.d_l_greatest.mg T.d_l_greatest.fn.kp T.d_l_greatest.b .nil pass0 (pa_cons (pv 1) pa_nil)) (pa_cons (pe_call (ok_l_struck T) (hr.mono (by decide)) (by rfl) T.d_l_struck.mg T.d_l_struck.fn.kp T.d_l_struck.b .nil pass0 (pa_cons (pv 1) pa_nil)) pa_nil)) (by rfl))
      (pss_cons (ps_if (pt_cmpR op_eq (pv 0) pe_int (nomark _)) (pss_cons (ps_set (i := 4) sc_l_asked.nd rfl (by first | exact Or.inl rfl | exact Or.inr rfl) (pe_call (ok_p_most_plan T) (hr.mono (by decide)) (by rfl) T.d_p_most_plan.mg T.d_p_most_plan.fn.kp T.d_p_most_plan.b .nil pass0 (pa_cons (pv 1) pa_nil)))
      (pss_one (ps_ret (pe_tupI (pa_cons (pv 4) (pa_cons (pe_and (pe_call (ok_l_same T) (hr.mono (by decide)) (by rfl) T.d_l_same.mg T.d_l_same.fn.kp T.d_l_same.b .nil pass0 (pa_cons (pv 4) (pa_cons (pv 2) pa_nil))) (pe_one (pe_cmpR op_isBl (pe_call (ok_p_is_day T B) hr (by rfl) T.d_p_is_day.mg T.d_p_is_day.fn.kp T.d_p_is_day.b .nil pass0 (pa_cons (pv 1) pa_nil)) pe_bl (nomark _)))) pa_nil)))))) pss_nil)
      (pss_cons (ps_if (pt_cmpR op_eq (pv 0) pe_int (nomark _)) (pss_cons (ps_asg (pe_call (ok_p_most_struck T) (hr.mono (by decide)) (by rfl) T.d_p_most_struck.mg T.d_p_most_struck.fn.kp T.d_p_most_struck.b .nil pass0 (pa_cons (pv 1) pa_nil)) (pg_tupK (K := K) rfl rfl (pgs_cons (pg_name (i := 5) sc_l_asked.nd rfl (by first | exact Or.inl rfl | exact Or.inr rfl)) (pgs_cons (pg_name (i := 4) sc_l_asked.nd rfl (by first | exact Or.inl rfl | exact Or.inr rfl)) pgs_nil))))
      (pss_one (ps_ret (pe_tupI (pa_cons (pv 4) (pa_cons (pe_and (pe_cmpR op_eq (pv 5) (pv 3) (nomark _)) (pe_and (pe_call (ok_l_is_paper T) (hr.mono (by decide)) (by rfl) T.d_l_is_paper.mg T.d_l_is_paper.fn.kp T.d_l_is_paper.b .nil pass0 (pa_cons (pv 1) (pa_cons (pv 3) (pa_cons (pv 4) pa_nil)))) (pe_one (pe_cmpR op_isBl (pe_call (ok_p_shows_most T) (hr.mono (by decide)) (by rfl) T.d_p_shows_most.mg T.d_p_shows_most.fn.kp T.d_p_shows_most.b .nil pass0 (pa_cons (pv 1) (pa_cons (pv 3) (pa_cons (pe_callTy (listI (K := K) rfl) (by rfl) T.b_list (by decide +kernel) (pa_cons (pv 4) pa_nil)) pa_nil)))) pe_bl (nomark _))))) pa_nil)))))) pss_nil)
      (pss_cons (ps_if (pt_cmpR op_eq (pv 0) pe_int (nomark _)) (pss_cons (ps_set (i := 4) sc_l_asked.nd rfl (by first | exact Or.inl rfl | exact Or.inr rfl) (pe_call (ok_p_binding_places T) (hr.mono (by decide)) (by rfl) T.d_p_binding_places.mg T.d_p_binding_places.fn.kp T.d_p_binding_places.b .nil pass0 (pa_cons (pv 1) pa_nil)))
      (pss_one (ps_ret (pe_tupI (pa_cons (pv 4) (pa_cons (pe_call (ok_l_same T) (hr.mono (by decide)) (by rfl) T.d_l_same.mg T.d_l_same.fn.kp T.d_l_same.b .nil pass0 (pa_cons (pv 4) (pa_cons (pe_call (ok_l_binding T) (hr.mono (by decide)) (by rfl) T.d_l_binding.mg T.d_l_binding.fn.kp T.d_l_binding.b .nil pass0 (pa_cons (pv 1) pa_nil)) pa_nil))) pa_nil)))))) pss_nil)
      (pss_cons (ps_set (i := 6) sc_l_asked.nd rfl (by first | exact Or.inl rfl | exact Or.inr rfl) (pe_lstI (pa_cons (pe_call (ok_p_shows_plan T B) (hr.mono (by decide)) (by rfl) T.d_p_shows_plan.mg T.d_p_shows_plan.fn.kp T.d_p_shows_plan.b .nil pass0 (pa_cons (pv 1) (pa_cons (pv 2) pa_nil))) (pa_cons (pe_call (ok_p_first_hour T) (hr.mono (by decide)) (by rfl) T.d_p_first_hour.mg T.d_p_first_hour.fn.kp T.d_p_first_hour.b .nil pass0 (pa_cons (pv 1) (pa_cons (pe_op op_add (pv 3) pe_int) pa_nil))) (pa_cons (pe_cmpR op_isN (pe_call (ok_p_first_hour T) (hr.mono (by decide)) (by rfl) T.d_p_first_hour.mg T.d_p_first_hour.fn.kp T.d_p_first_hour.b .nil pass0 (pa_cons (pv 1) (pa_cons pe_int pa_nil))) pe_non (nomark _)) pa_nil)))))
      (pss_cons (ps_asg (pe_op op_add (pe_ix (ixL (K := K) rfl) (pe_ix (ixL (K := K) rfl) (pv 2) pe_int (fun _ _ => rfl)) pe_int (fun _ _ => rfl)) (pe_op op_pow pe_int pe_int)) (pg_sub (pe_ix (ixL (K := K) rfl) (pv 2) pe_int (fun _ _ => rfl)) pe_int set_list))
      (pss_one (ps_ret (pe_tupI (pa_cons (pv 6) (pa_cons (pe_and (pe_cmpR (eqDK (K := K) rfl hr.units) (pv 6) (pe_lstI (pa_cons pe_bl (pa_cons pe_non (pa_cons (pe_cmpR op_eq (pv 3) pe_int (nomark _)) pa_nil)))) (nomark _)) (pe_one (pe_cmpR op_isBl (pe_call (ok_p_shows_plan T B) (hr.mono (by decide)) (by rfl) T.d_p_shows_plan.mg T.d_p_shows_plan.fn.kp T.d_p_shows_plan.b .nil pass0 (pa_cons (pv 1) (pa_cons (pv 2) pa_nil))) pe_bl (nomark _)))) pa_nil))))))))))), ?_⟩
    have k1 := O.k1
    have k2 := O.k2
    have h1' := O.h1
    have h2 := O.h2
    obtain ⟨op, hp⟩ := hB.some
    have fresh : ∀ {a : Addr} {G : Hp}, Sm H G → G a = none → ¬ ∃ ys, H a = some (.lst ys) := fun s n ⟨ys, z⟩ => by
      have := s.lst z
      rw [n] at this
      cases this
    refine ⟨_, rfl, p, d, x, D, rfl, hD, O, fun f0 rs0 H1 s1 n1 hf0 lr0 nd0 rows0 => ?_⟩
    refine ⟨_, rfl, p, d, x, D, rfl, hD.same s1, O, fun H2 s2 => ?_⟩
    refine ⟨_, _, rfl, ?_⟩
    have s02 : Same H H2 := s1.trans s2
    have hD2 := hD.same s02
    have hf02 := s2 _ _ hf0
    refine ⟨_, rfl, rfl, _, rfl, ?_⟩
    by_cases c0 : w = 0
    · refine ite_bT (decide_eq_true (by rw [c0])) ?_
      refine ⟨_, rfl, p, d, x, D, rfl, hD2, O, fun f1 rs1 H3 s3 n3 hf1 lr1 nd1 rows1 => ?_⟩
      have s23 := s2.trans s3
      refine ⟨_, rfl, _, rfl, _, rfl, .ref f1, .ref f0, planD D, rfl, plan_dk O hf1 lr1 fun j r e => (rows1 j r e).1, plan_dk O (s3 _ _ hf02) lr0 fun j r e => s23 _ _ (rows0 j r e).1, fun H4 s4 => ?_⟩
      refine ⟨_, rfl, ite_bT rfl ?_⟩
      have s14 := s23.trans s4
      have s04 := s1.trans s14
      refine ⟨_, rfl, _, 1000000, 4, _, _, rfl, td.same s04, hT.same s04, fun H5 s5 => ?_⟩
      rw [dayE_is O N]
      refine ⟨_, _, rfl, rfl, rfl, fun tt H6 s6 n6 h6 => ?_⟩
      have s36 : Sm H3 H6 := (Sm.of s4).trans (s5.trans (.of s6))
      have s06 : Sm H H6 := (Sm.of (s1.trans s23)).trans s36
      refine q tt f1 _ _ H6 s06 h6 (s36.lst hf1) (by rw [List.length_map]; omega) (fresh (.of s02) n3) (rowsI_tg O N (s36.lst hf1) (fresh (.of s02) n3) lr1 fun j r e => ⟨s36.lst (rows1 j r e).1, fresh (.of s02) (rows1 j r e).2.1⟩) (Nat.le_trans (rowsI_wt O N) (by decide))
    · refine ite_bF (decide_eq_false fun z => c0 (by injection z)) ?_
      refine ⟨_, rfl, rfl, _, rfl, ?_⟩
      by_cases c1 : w = 1
      · refine ite_bT (decide_eq_true (by rw [c1])) ?_
        refine ⟨_, rfl, p, d, x, D, rfl, hD2, O, fun tt f rs l H6 s6 n6 htt hf pap ch tch ll => ?_⟩
        refine ⟨tt, _, rfl, SqT.of htt, rfl, _, _, rfl, _, _, rfl, rfl, ?_⟩
        have sm := ch.small (by omega) (by omega) (by omega)
        have s06 := s02.trans s6
        have hD6 := hD.same s06
        have PT : TgAll K (fun a => ∃ ys, H a = some (.lst ys)) H6 1000000 1 (rs.map V.ref) (l.map dpB) := papTg pap sm
        have T0 : Tg K (fun a => ∃ ys, H a = some (.lst ys)) H6 1000000 2 (.ref f) (dpP l) := PT.l hf (fresh (.of s02) n6)
        refine ⟨_, rfl, _, rfl, _, rfl, rfl, _, rfl, ite_bT (decide_eq_true rfl) ?_⟩
        refine ⟨_, rfl, _, rfl, _, rfl, p, d, x, D, mostD D, (fun a => ∃ ys, H a = some (.lst ys)), 1000000, 2, .ref f, dpP l, rfl, hD6, xc, xk, O, T0, fun H7 s7 => ?_⟩
        rw [ch.pap]
        refine ⟨_, rfl, ite_bT rfl ?_⟩
        refine ⟨_, rfl, _, rfl, _, rfl, f, _, rfl, .inl (SqL.of (s7 _ _ hf)), fun lc H8 s8 n8 h8 => ?_⟩
        have s68 := s7.trans s8
        have T8 : Tg K (fun a => ∃ ys, H a = some (.lst ys)) H8 1000000 2 (.ref lc) (dpP l) := (PT.same s68).l h8 (fresh (.of (s06.trans s7)) n8)
        refine ⟨p, d, x, D, mostD D, (fun a => ∃ ys, H a = some (.lst ys)), 1000000, 2, .ref lc, dpP l, rfl, hD6.same s68, O, T8, fun H9 s9 => ?_⟩
        rw [ch.pap]
        refine ⟨_, _, rfl, rfl, rfl, fun t2 H10 s10 n10 h10 => ?_⟩
        have s610 := s68.trans (s9.trans s10)
        have w := wa_pap sm
        exact q t2 f _ _ H10 (.of (s06.trans s610)) h10 (s610 _ _ hf) (by rw [List.length_map, pap.1]; omega) (fresh (.of s02) n6) (T0.same s610) (by show PyData.weightAll (l.map dpB) ≤ _; omega)
      · refine ite_bF (decide_eq_false fun z => c1 (by injection z)) ?_
        refine ⟨_, rfl, rfl, _, rfl, ?_⟩
        by_cases c2 : w = 2
        · refine ite_bT (decide_eq_true (by rw [c2])) ?_
          refine ⟨_, rfl, p, d, x, D, rfl, hD2, ⟨_, s02 _ _ hp⟩, O, fun f H3 s3 n3 hf => ?_⟩
          have s03 := s02.trans s3
          refine ⟨_, rfl, _, rfl, _, rfl, p, d, x, D, rfl, hD.same s03, ⟨_, s03 _ _ hp⟩, xk, O, fun g H4 s4 n4 hg => ?_⟩
          have bl := bindI_len O
          have s04 := s03.trans s4
          refine ⟨.ref f, .ref g, din (bindI D), rfl, nums_dk 3 (s4 _ _ hf) (by omega), nums_dk 3 hg (by omega), fun H5 s5 => ⟨rfl, fun tt H6 s6 n6 h6 => ?_⟩⟩
          have s36 := s4.trans (s5.trans s6)
          have w := wa_ldl (bindI_ldl O)
          exact q tt f _ _ H6 (.of (s03.trans s36)) h6 (s36 _ _ hf) (by rw [List.length_map]; omega) (fresh (.of s02) n3) ((ldlL_tg (n := 0) (bindI_ldl O) (s36 _ _ hf) (fresh (.of s02) n3)).up (Nat.le_refl _) (by decide)) (by show PyData.weightAll ((bindI D).map PyData.int) ≤ _; omega)
        · refine ite_bF (decide_eq_false fun z => c2 (by injection z)) ?_
          have r00 : ∃ r, rs0[0]? = some r := ⟨rs0[0]'(by omega), List.getElem?_eq_getElem _⟩
          obtain ⟨r0, er0⟩ := r00
          obtain ⟨hr01, nr0, nrf⟩ := rows0 0 r0 er0
          have TP : Tg K (fun a => ∃ ys, H a = some (.lst ys)) H2 1000000 2 (.ref f0) (planX (rowsI D)) := rowsI_tg O N hf02 (fresh .refl n1) lr0 fun j r e => ⟨s2 _ _ (rows0 j r e).1, fresh .refl (rows0 j r e).2.1⟩
          refine ⟨_, rfl, _, rfl, p, d, x, D, (fun a => ∃ ys, H a = some (.lst ys)), 1000000, 2, .ref f0, planX (rowsI D), rfl, hD2, O, TP, hT.same s02, fun b H3 hb s3 => ?_⟩
          obtain rfl := hb.mpr ⟨rowsI D, rfl, rowsI_ok O N, rowsI_do O N⟩
          have s03 : Sm H H3 := (Sm.of s02).trans s3
          refine ⟨_, rfl, _, rfl, _, _, rfl, rfl, p, d, x, D, mostD D + 1, rfl, hD.sm s03, O, fun v1 H4 s4 fv => ?_⟩
          obtain rfl := firstV_uniq fv (firstV_over O N)
          have s04 := s03.trans (.of s4)
          refine ⟨_, rfl, p, d, x, D, 1, rfl, hD.sm s04, O, fun v2 H5 s5 fw => ⟨rfl, rfl, fun l H6 s6 n6 h6 => ?_⟩⟩
          have ev : decide (v2 = V.non) = decide (mostD D = 0) := by
            rcases firstV_one O N fw with ⟨rfl, e⟩ | ⟨⟨i, rfl⟩, e⟩
            · rw [decide_eq_true rfl, decide_eq_true e]
            · rw [decide_eq_false (by intro z; cases z), decide_eq_false e]
          have s26 : Sm H2 H6 := s3.trans (.of (s4.trans (s5.trans s6)))
          have s06 : Sm H H6 := (Sm.of s02).trans s26
          have hf06 := s26.lst hf02
          have hr06 := s26.lst (s2 _ _ hr01)
          have len0 : 0 < (rowI D 0).length := by rw [row_len]; omega
          have e00 : (rs0.map V.ref)[0]? = some (.ref r0) := by rw [List.getElem?_map, er0] <;> rfl
          refine ⟨_, rfl, f0, _, 0, .ref r0, rfl, rfl, SqL.of hf06, at_of (j := 0) rfl e00, r0, _, 0, _, rfl, rfl, SqL.of hr06, at_of (j := 0) rfl (ints_get len0), ?_⟩
          refine ⟨_, _, rfl, rfl, ⟨by decide, by decide, by decide⟩, _, _, rfl, rfl, ?_⟩
          refine ⟨_, rfl, f0, _, 0, .ref r0, rfl, rfl, SqL.of hf06, at_of (j := 0) rfl e00, r0, _, 0, 0, rfl, rfl, hr06, ixN_at (by rw [List.length_map]; exact len0), ?_⟩
          have e7 : (10 : Int) ^ (7 : Int).toNat = 10000000 := by decide
          have eX : ((rowI D 0).map V.int).set 0 (.int ((rowI D 0).getD 0 0 + (10 : Int) ^ (7 : Int).toNat)) = ((rowI D 0).set 0 ((rowI D 0).getD 0 0 + 10000000)).map V.int := by rw [e7, List.map_set]
          rw [eX]
          have lne : l ≠ r0 := (ne_of_none (s5 _ _ (s4 _ _ (s3.lst (s2 _ _ hr01)))) n6).symm
          have s07 : Sm H (upd H6 r0 (.lst (((rowI D 0).set 0 ((rowI D 0).getD 0 0 + 10000000)).map V.int))) := Sm.put s06 nr0
          have hT7 : Tbs T.Ps (upd H6 r0 (.lst (((rowI D 0).set 0 ((rowI D 0).getD 0 0 + 10000000)).map V.int))) := (hT.sm s06).put hr06
          have hl7 : (upd H6 r0 (.lst (((rowI D 0).set 0 ((rowI D 0).getD 0 0 + 10000000)).map V.int))) l = some (.lst [.bl true, .non, .bl (decide (v2 = V.non))]) := by
            rw [upd_ne lne]
            exact h6
          have TX : Tg K (fun a => ∃ ys, H a = some (.lst ys)) (upd H6 r0 (.lst (((rowI D 0).set 0 ((rowI D 0).getD 0 0 + 10000000)).map V.int))) 100000000 2 (.ref f0) (planX ((rowsI D).set 0 ((rowI D 0).set 0 ((rowI D 0).getD 0 0 + 10000000)))) := by
            have lX : (rowsI D).length = D.ks.length + 1 := (rowsI_ok O N).len
            have row1 : ∀ q, q ≤ D.ks.length → ∀ z ∈ rowI D q, z.natAbs ≤ 1000000 := fun q hq z hz => by
              have := row_nn O N hq z hz
              omega
            refine tg_plan (rs := rs0) (by rw [upd_ne nrf.symm]; exact hf06) (fresh .refl n1) ⟨by rw [List.length_set, lX]; exact lr0, fun j r xs e1 e2 => ?_⟩ fun xs hx z hz => ?_
            · rw [List.getElem?_set] at e2
              by_cases c : 0 = j
              · subst c
                rw [if_pos rfl, if_pos (by omega)] at e2
                rw [er0] at e1
                cases e1
                cases e2
                exact ⟨upd_same, fresh .refl nr0⟩
              · rw [if_neg c] at e2
                have hj : j ≤ D.ks.length := by have := (List.getElem?_eq_some_iff.mp e1).1; omega
                rw [rowsI_at hj] at e2
                cases e2
                obtain ⟨z1, z2, _⟩ := rows0 j r e1
                have ne : r ≠ r0 := fun z => c (idx_uniqQ nd0 er0 (z ▸ e1))
                exact ⟨by rw [upd_ne ne]; exact s26.lst (s2 _ _ z1), fresh .refl z2⟩
            · rcases List.mem_or_eq_of_mem_set hx with m | e
              · obtain ⟨q, eq⟩ := List.getElem?_of_mem m
                have lq : q ≤ D.ks.length := by have := (List.getElem?_eq_some_iff.mp eq).1; omega
                rw [rowsI_at lq] at eq
                cases eq
                exact Nat.le_trans (row1 q lq z hz) (by decide)
              · subst e
                rcases List.mem_or_eq_of_mem_set hz with m | e
                · exact Nat.le_trans (row1 0 (by omega) z m) (by decide)
                · subst e
                  have := row_nn O N (p := 0) (by omega) ((rowI D 0).getD 0 0) (by rw [List.getD_eq_getElem?_getD, List.getElem?_eq_getElem len0]; exact List.getElem_mem len0)
                  omega
          have z0 : 0 ≤ (rowI D 0).getD 0 0 := (row_nn O N (p := 0) (by omega) ((rowI D 0).getD 0 0) (by rw [List.getD_eq_getElem?_getD, List.getElem?_eq_getElem len0]; exact List.getElem_mem len0)).1
          have no : ¬ IsPlan D (planX ((rowsI D).set 0 ((rowI D 0).set 0 ((rowI D 0).getD 0 0 + 10000000)))) := fun ip => by
            have lX : (rowsI D).length = D.ks.length + 1 := (rowsI_ok O N).len
            refine far_no O N (z := (rowI D 0).getD 0 0 + 10000000) ?_ (by omega) ip
            unfold PX
            rw [rowF_at (by rw [List.getElem?_set_self (by omega)]), List.getD_eq_getElem?_getD, List.getElem?_set_self len0] <;> rfl
          generalize upd H6 r0 (.lst (((rowI D 0).set 0 ((rowI D 0).getD 0 0 + 10000000)).map V.int)) = H7 at s07 hT7 hl7 TX
          rw [ev] at hl7
          have nl : ¬ ∃ ys, H l = some (.lst ys) := fresh (s04.trans (.of s5)) n6
          refine ⟨_, rfl, _, rfl, _, rfl, rfl, rfl, fun l2 H8 s8 n8 h8 => ?_⟩
          have ed : decide (V.int (mostD D) = V.int 0) = decide (mostD D = 0) := decide_eq_decide.mpr ⟨fun z => V.int.inj z, fun z => congrArg V.int z⟩
          rw [ed] at h8
          have sh : SeqAt.shaped (.list [.bool true, .none, .bool (decide (mostD D = 0))]) = true := by cases decide (mostD D = 0) <;> rfl
          have hl8 := s8 _ _ hl7
          refine ⟨.list [.bool true, .none, .bool (decide (mostD D = 0))], .list [.bool true, .none, .bool (decide (mostD D = 0))], .lst (SqL.of hl8) (.cons (.bl _) (.cons .non (.cons (.bl _) .nil))), .lst (SqL.of h8) (.cons (.bl _) (.cons .non (.cons (.bl _) .nil))), sh, sh, ?_⟩
          rw [SeqAt.eqv_refl _ (SeqAt.canLay_of_shaped sh)]
          refine ⟨_, rfl, ite_bT rfl ?_⟩
          have s08 : Sm H H8 := s07.trans (.of s8)
          refine ⟨_, rfl, _, rfl, p, d, x, D, (fun a => ∃ ys, H a = some (.lst ys)), 100000000, 2, .ref f0, _, rfl, hD.sm s08, O, TX.same s8, hT7.same s8, fun b2 H9 hb2 s9 => ?_⟩
          obtain rfl : b2 = false := by
            cases b2
            · rfl
            · exact absurd (hb2.mp rfl) no
          refine ⟨_, _, rfl, rfl, rfl, fun tt H10 s10 n10 h10 => ?_⟩
          have s810 : Sm H8 H10 := s9.trans (.of s10)
          have hl10 := s810.lst hl8
          refine q tt l _ (.list [.bool true, .none, .bool (decide (mostD D = 0))]) H10 (s08.trans s810) h10 hl10 (by show 3 ≤ 1000; decide) nl ((TgAll.cons (.bl _ _) (.cons (.non _) (.cons (.bl _ _) .nil))).l hl10 nl) ?_
          cases decide (mostD D = 0) <;> decide

end
end KR
namespace KR
open PySem PySem.Spec PyProof.Rows L2
section
variable {P : Program} {w : World} {K : PySem.W.Frag} {mg : Str → Option Value} {base : Heap}
def sp_p_law (K : PySem.W.Frag) (Ps : List Addr) : Sp := fun vs H Q _ => ∃ (a : Addr) (ns : List Int), vs = [.ref a] ∧ SqL K H a (ns.map V.int) ∧ ns.length ≤ 63 ∧ Tbs Ps H ∧ ∀ H', Q (.bl true) H'
theorem ok_p_law (T : All K mg) (B : Tabs T base) : FnG P w K mg base 9 T.f_p_law T.fd_p_law ["_law_script"] (sp_p_law K T.Ps) := by
  refine okG T.d_p_law.fn sc_p_law (fun vs H Q E h => ?_) (fun cdv A outer s H vs Q E hr hg h => ?_)
  · obtain ⟨a, ns, rfl, _⟩ := h
    rfl
  · obtain ⟨a, ns, rfl, hS, hlen, hT, q⟩ := h
    refine ⟨_, (pss_cons (ps_for PassesOwn.never rfl (pi_range1 (by rfl) T.b_range (pa_cons (pe_callB (call_max2 rfl) (by rfl) T.b_max (by decide +kernel) (pa_cons pe_int (pa_cons (pe_callB (call_min2 rfl) (by rfl) T.b_min (by decide +kernel) (pa_cons (pe_callB (lenQ (K := K) rfl) (by rfl) T.b_len PySem.boot_len (pa_cons (pv 0) pa_nil)) (pa_cons pe_int pa_nil))) pa_nil))) pa_nil)) (pg_name (i := 1) sc_p_law.nd rfl (by first | exact Or.inl rfl | exact Or.inr rfl)) (pss_cons (ps_set (i := 2) sc_p_law.nd rfl (by first | exact Or.inl rfl | exact Or.inr rfl) (pe_call (ok_l_box T) (hr.mono (by decide)) (by rfl) T.d_l_box.mg T.d_l_box.fn.kp T.d_l_box.b .nil pass0 (pa_cons (pv 0) (pa_cons (pv 1) pa_nil))))
      (pss_cons (ps_asg (pe_tupI (pa_cons (pe_op op_add pe_int (pe_call (ok_l_take T) (hr.mono (by decide)) (by rfl) T.d_l_take.mg T.d_l_take.fn.kp T.d_l_take.b .nil pass0 (pa_cons (pv 2) (pa_cons pe_int pa_nil)))) (pa_cons (pe_op op_add pe_int (pe_call (ok_l_take T) (hr.mono (by decide)) (by rfl) T.d_l_take.mg T.d_l_take.fn.kp T.d_l_take.b .nil pass0 (pa_cons (pv 2) (pa_cons pe_int pa_nil)))) (pa_cons (pe_lstI pa_nil) pa_nil)))) (pg_tupK (K := K) rfl rfl (pgs_cons (pg_name (i := 3) sc_p_law.nd rfl (by first | exact Or.inl rfl | exact Or.inr rfl)) (pgs_cons (pg_name (i := 4) sc_p_law.nd rfl (by first | exact Or.inl rfl | exact Or.inr rfl)) (pgs_cons (pg_name (i := 5) sc_p_law.nd rfl (by first | exact Or.inl rfl | exact Or.inr rfl)) pgs_nil)))))
      (pss_cons (ps_setLc (i := 6) (own := [("_law_turn", 7)]) (g := gName 7) (tt := tYes) (by rfl) sc_p_law.nd rfl rfl (sw_true rfl rfl rfl (by decide +kernel)) (pi_range1 (by rfl) T.b_range (pa_cons pe_int pa_nil)) (blkOk_by (own := [("_law_turn", 7)]) (N := ["_law_script", "_law_k", "_law_box_here", "_law_hours", "_law_pots", "_law_held", "_law_days", "_law_turn", "_law_day_here", "_law_seen", "_law_told", "_law_right", "_law_due"]) (sc := defScope s_p_law) (by decide +kernel)) (fun _ _ _ _ _ => (pg_name (i := 7) sc_p_law.nd rfl (by first | exact Or.inl rfl | exact Or.inr rfl))) (fun _ _ _ _ _ => pts_nil) (fun _ _ _ _ _ => (pe_call (ok_l_day T) (hr.mono (by decide)) (by rfl) T.d_l_day.mg T.d_l_day.fn.kp T.d_l_day.b .nil pass0 (pa_cons (pv 2) (pa_cons (pv 3) (pa_cons (pv 4) (pa_cons (pe_ix (ixL (K := K) rfl) (pe_lstI (pa_cons pe_int (pa_cons pe_int pa_nil))) (pe_call (ok_l_take T) (hr.mono (by decide)) (by rfl) T.d_l_take.mg T.d_l_take.fn.kp T.d_l_take.b .nil pass0 (pa_cons (pv 2) (pa_cons pe_int pa_nil))) (fun _ _ => rfl)) pa_nil)))))))
      (pss_cons (ps_for PassesOwn.never rfl (pi_range1 (by rfl) T.b_range (pa_cons pe_int pa_nil)) (pg_name (i := 7) sc_p_law.nd rfl (by first | exact Or.inl rfl | exact Or.inr rfl)) (pss_cons (ps_set (i := 8) sc_p_law.nd rfl (by first | exact Or.inl rfl | exact Or.inr rfl) (pe_ix (ixL (K := K) rfl) (pv 6) (pe_call (ok_l_take T) (hr.mono (by decide)) (by rfl) T.d_l_take.mg T.d_l_take.fn.kp T.d_l_take.b .nil pass0 (pa_cons (pv 2) (pa_cons pe_int pa_nil))) (fun _ _ => rfl)))
      (pss_cons (ps_J (ps_if (pt_cmpR op_eq (pe_op op_mod (pv 7) pe_int) pe_int (nomark _)) (pss_one (ps_expr (pe_call (ok_l_put T) (hr.mono (by decide)) (by rfl) T.d_l_put.mg T.d_l_put.fn.kp T.d_l_put.b .nil pass0 (pa_cons (pv 2) (pa_cons (pv 8) pa_nil))))) pss_nil))
      (pss_cons (ps_set (i := 9) sc_p_law.nd rfl (by first | exact Or.inl rfl | exact Or.inr rfl) (pe_callB (cr_reprV (K := K) rfl hg hr.units) (by rfl) T.b_repr (by decide +kernel) (pa_cons (pv 6) pa_nil)))
      (pss_cons (ps_asg (pe_call (ok_l_asked T B) hr (by rfl) T.d_l_asked.mg T.d_l_asked.fn.kp T.d_l_asked.b .nil pass0 (pa_cons (pe_call (ok_l_take T) (hr.mono (by decide)) (by rfl) T.d_l_take.mg T.d_l_take.fn.kp T.d_l_take.b .nil pass0 (pa_cons (pv 2) (pa_cons pe_int pa_nil))) (pa_cons (pv 8) pa_nil))) (pg_tupK (K := K) rfl rfl (pgs_cons (pg_name (i := 10) sc_p_law.nd rfl (by first | exact Or.inl rfl | exact Or.inr rfl)) (pgs_cons (pg_name (i := 11) sc_p_law.nd rfl (by first | exact Or.inl rfl | exact Or.inr rfl)) pgs_nil))))
      (pss_cons (ps_if (PW.pt (pw_or (pt_not (pt_val (pv 11))) (pw_or1 (pt_cmpR op_ne (pe_callB (cr_reprV (K := K) rfl hg hr.units) (by rfl) T.b_repr (by decide +kernel) (pa_cons (pv 6) pa_nil)) (pv 9) (nomark _))))) (pss_one (ps_ret pe_bl)) pss_nil)
      (pss_one (ps_if (pt_cmpR op_eq (pe_op op_mod (pv 7) pe_int) pe_int (nomark _)) (pss_one (ps_expr (pe_bm PySem.F.plainAttrs_list PySem.F.slot_list_append PySem.F.type_list_append mt_append (pv 5) (pa_cons (pe_tupI (pa_cons (pv 10) (pa_cons (pe_callB (cr_reprV (K := K) rfl hg hr.units) (by rfl) T.b_repr (by decide +kernel) (pa_cons (pv 10) pa_nil)) pa_nil))) pa_nil)))) (pss_cons (ps_expr (pe_bm PySem.F.plainAttrs_list PySem.F.slot_list_append PySem.F.type_list_append mt_append (pv 10) (pa_cons (pv 7) pa_nil)))
      (pss_one (ps_expr (pe_bm0 PySem.F.plainAttrs_list PySem.F.slot_list_reverse PySem.F.type_list_reverse mt_reverse (pv 10)))))))))))))
      (pss_one (ps_for PassesOwn.never rfl (pi_listK (K := K) rfl (pv 5)) (pg_tupK (K := K) rfl rfl (pgs_cons (pg_name (i := 10) sc_p_law.nd rfl (by first | exact Or.inl rfl | exact Or.inr rfl)) (pgs_cons (pg_name (i := 12) sc_p_law.nd rfl (by first | exact Or.inl rfl | exact Or.inr rfl)) pgs_nil))) (pss_cons (ps_if (pt_cmpR op_ne (pe_callB (cr_reprV (K := K) rfl hg hr.units) (by rfl) T.b_repr (by decide +kernel) (pa_cons (pv 10) pa_nil)) (pv 12) (nomark _)) (pss_one (ps_ret pe_bl)) pss_nil)
      (pss_one (ps_expr (pe_bm PySem.F.plainAttrs_list PySem.F.slot_list_append PySem.F.type_list_append mt_append (pv 10) (pa_cons pe_str pa_nil))))))))))))
      (pss_one (ps_ret pe_bl))), ?_⟩
    refine ⟨_, rfl, a, _, rfl, .inl hS, _, _, rfl, _, _, rfl, ?_⟩
    rw [List.length_map]
    obtain ⟨m, em, m1⟩ : ∃ m : Nat, (if (if (3 : Int) < (ns.length : Int) then (3 : Int) else (ns.length : Int)) > 2 then (if (3 : Int) < (ns.length : Int) then (3 : Int) else (ns.length : Int)) else 2) = (m : Int) ∧ m ≤ 3 := by
      refine ⟨(if (if (3 : Int) < (ns.length : Int) then (3 : Int) else (ns.length : Int)) > 2 then (if (3 : Int) < (ns.length : Int) then (3 : Int) else (ns.length : Int)) else 2).toNat, ?_, ?_⟩ <;> split <;> split <;> omega
    refine ⟨_, rfl, ?_⟩
    rw [em]
    refine ⟨by omega, by omega, for_range (lo := 0) (n := m) (fun i σ H' => ∃ v1 v2 v3 v4 v5 v6 v7 v8 v9 v10 v11 v12 : Option V, σ = [some (.ref a), v1, v2, v3, v4, v5, v6, v7, v8, v9, v10, v11, v12] ∧ SqL K H' a (ns.map V.int) ∧ Tbs T.Ps H')
      ⟨none, none, none, none, none, none, none, none, none, none, none, none, rfl, hS, hT⟩ ?_ ?_⟩
    · rintro i σ H0 hi ⟨v1, v2, v3, v4, v5, v6, v7, v8, v9, v10, v11, v12, rfl, hS0, hT0⟩
      rw [Int.zero_add]
      refine ⟨_, rfl, _, rfl, a, ns, (i : Int), rfl, hS0, by omega, by omega, fun p H1 s1 n1 B1 => ?_⟩
      refine ⟨_, rfl, p, 5, 0, rfl, B1, by decide, by decide, by decide, fun hn H2 h0 h1 B2 F2 => ⟨_, _, rfl, rfl, ?_⟩⟩
      refine ⟨_, rfl, p, 3, _, rfl, B2, by decide, by decide, by decide, fun kn H3 k0 k1 B3 F3 => ⟨_, _, rfl, rfl, rfl, fun hl H4 s4 n4 h4 => ⟨rfl, fun tp H5 s5 n5 h5 => ?_⟩⟩⟩
      obtain ⟨hh, ehh⟩ : ∃ hh : Nat, 1 + hn = (hh : Int) := ⟨(1 + hn).toNat, by omega⟩
      obtain ⟨kk', ekk⟩ : ∃ kk : Nat, 1 + kn = (kk : Int) := ⟨(1 + kn).toNat, by omega⟩
      refine ⟨tp, _, rfl, SqT.of h5, rfl, _, _, rfl, _, _, rfl, _, _, rfl, rfl, ?_⟩
      have h45 := s5 _ _ h4
      have hlp : hl ≠ p := B3.new n4
      have B5 := B3.same (s4.trans s5)
      have F15 : Fr p H1 H5 := F2.trans (F3.trans (.of (s4.trans s5)))
      refine ⟨_, rfl, by decide, by decide, fun dl hdl => ?_⟩
      have dlp : dl ≠ p := B5.new hdl
      have hldl : hl ≠ dl := ne_of_none h45 hdl
      refine lc_range (lo := 0) (n := 2) (fun u H' => ∃ l : List (Addr × DyR × Dy), l.length = u ∧ H' dl = some (.lst (l.map fun z => V.ref z.1)) ∧ (∀ z ∈ l, DayM K H' z.1 z.2.1 z.2.2 ∧ DyOk z.2.2 ∧ DyNn z.2.2 ∧ ∀ b ∈ z.2.1.all, b ≠ p ∧ b ≠ hl ∧ b ≠ dl ∧ H5 b = none) ∧ l.Pairwise (fun z w => ∀ b ∈ z.2.1.all, b ∉ w.2.1.all) ∧ BoxAt H' p (2 + 2100 * u) ∧ Fr p H5 H')
        ⟨[], rfl, upd_same, fun z hz => absurd hz List.not_mem_nil, .nil, ((B5.upd dlp).mono (by omega)), Fr.refl.put' hdl⟩ (fun u H6 hu z => ?_) (fun H6 z => ?_)
      · obtain ⟨l, ll, hdl6, all6, pw6, B6, F6⟩ := z
        refine ⟨rfl, yesT ?_⟩
        refine ⟨_, rfl, _, rfl, _, rfl, rfl, fun l1 H7 s7 n7 h7 => ?_⟩
        have B7 := B6.same s7
        have l1p := B6.new n7
        refine ⟨_, rfl, p, 2, _, rfl, B7, by omega, by decide, by decide, fun z H8 z0 z1 B8 F8 => ?_⟩
        obtain ⟨mm, emm, mm0, mm1⟩ : ∃ m : Int, atI ([.int 3, .int 20] : List V) z = some (.int m) ∧ 1 ≤ m ∧ m ≤ 20 := by
          have cs : z = 0 ∨ z = 1 := by omega
          rcases cs with e | e <;> subst e
          · exact ⟨3, rfl, by decide, by decide⟩
          · exact ⟨20, rfl, by decide, by decide⟩
        refine ⟨l1, _, z, _, rfl, rfl, SqL.of (F8 _ _ l1p h7), emm, p, _, hh, kk', mm, by rw [← ehh, ← ekk] <;> rfl, B8, by omega, by omega, by omega, by omega, by omega, by omega, by omega, fun d y D H9 hD9 fr9 O N e1 e2 B9 F9 => ?_⟩
        have F69 : Fr p H6 H9 := (Fr.of s7).trans (F8.trans F9)
        have F68 : Fr p H6 H8 := (Fr.of s7).trans F8
        have hdl9 := F69 _ _ dlp hdl6
        have ydl : ∀ b ∈ y.all, b ≠ p ∧ b ≠ hl ∧ b ≠ dl ∧ H5 b = none := fun b hb => by
          obtain ⟨q1, q2⟩ := fr9 b hb
          exact ⟨q2, (ne_of_none (F68 _ _ hlp (F6 _ _ hlp h45)) q1).symm, (ne_of_none (F68 _ _ dlp hdl6) q1).symm, fr_new' (F6.trans F68) q1 q2⟩
        refine ⟨_, hdl9, by rw [List.length_map]; exact small' (by omega), l ++ [(d, y, D)], by rw [List.length_append, ll] <;> rfl, by rw [upd_same, List.map_append] <;> rfl, fun z hz => ?_, ?_, ((B9.upd dlp).mono (by omega)), (F6.trans F69).put' hdl⟩
        · rcases List.mem_append.mp hz with g | g
          · obtain ⟨q1, q2, q3, q4⟩ := all6 z g
            exact ⟨(q1.fr B6 F69 fun b hb => (q4 b hb).1).put hdl9 fun m => (q4 _ m).2.2.1 rfl, q2, q3, q4⟩
          · rw [List.mem_singleton.mp g]
            exact ⟨hD9.put hdl9 fun m => (ydl _ m).2.2.1 rfl, O, N, ydl⟩
        · refine List.pairwise_append.mpr ⟨pw6, List.pairwise_singleton _ _, fun z hz w hw b hb m => ?_⟩
          rw [List.mem_singleton.mp hw] at m
          obtain ⟨q1, q2, q3, q4⟩ := all6 z hz
          obtain ⟨r1, r2⟩ := fr9 b m
          have L8 : ∃ xs, H8 b = some (.lst xs) := (q1.fr B6 F68 fun b hb => (q4 b hb).1).lists b hb
          obtain ⟨xs, e⟩ := L8
          rw [r1] at e
          cases e
      · obtain ⟨l, ll, hdl6, all6, pw6, B6, F6⟩ := z
        obtain ⟨z0, z1, rfl⟩ : ∃ z0 z1, l = [z0, z1] := by
          match l, ll with
          | [a, b], _ => exact ⟨a, b, rfl⟩
        obtain ⟨qa1, qa2, qa3, qa4⟩ := all6 z0 List.mem_cons_self
        obtain ⟨qb1, qb2, qb3, qb4⟩ := all6 z1 (List.mem_cons_of_mem _ List.mem_cons_self)
        have dj6 : ∀ b ∈ z0.2.1.all, b ∉ z1.2.1.all := (List.pairwise_cons.mp pw6).1 z1 List.mem_cons_self
        let dd : Nat → Addr := fun n => if n = 0 then z0.1 else z1.1
        let yy : Nat → DyR := fun n => if n = 0 then z0.2.1 else z1.2.1
        have two : ∀ {n : Nat}, n < 2 → n = 0 ∨ n = 1 := fun h => by omega
        have hhl6 : H6 hl = some (.lst []) := F6 _ _ hlp h45
        have B6' : BoxAt H6 p 5000 := B6.mono (by decide)
        have OK6 : WldOk p dl hl yy H6 := by
          refine ⟨fun b hb => ?_, fun z z' hz hz' ne b hb m => ?_, fun z hz b hb => ?_, hlp.symm, dlp.symm, hldl⟩
          · rcases hb with e | e | ⟨z, hz, m⟩
            · obtain ⟨x1, x2, x3, g, _⟩ := B6'
              rw [e]
              exact ⟨_, g⟩
            · rw [e]
              exact ⟨_, hhl6⟩
            · rcases two hz with e | e <;> subst e
              · exact qa1.lists b m
              · exact qb1.lists b m
          · rcases two hz with e | e <;> rcases two hz' with e' | e' <;> subst e <;> subst e'
            · exact ne rfl
            · exact dj6 b hb m
            · exact dj6 b m hb
            · exact ne rfl
          · rcases two hz with e | e <;> subst e
            · exact ⟨(qa4 b hb).1, (qa4 b hb).2.1, (qa4 b hb).2.2.1⟩
            · exact ⟨(qb4 b hb).1, (qb4 b hb).2.1, (qb4 b hb).2.2.1⟩
        have S05 : Same H0 H5 := same_new_fr s1 n1 F15
        have new6 : ∀ b, (b = p ∨ b = hl ∨ ∃ z, z < 2 ∧ b ∈ (yy z).all) → H0 b = none := fun b hb => by
          rcases hb with e | e | ⟨z, hz, m⟩
          · rw [e]
            exact n1
          · rw [e]
            exact same_none' s1 (fr_new' (F2.trans F3) n4 hlp)
          · rcases two hz with e | e <;> subst e
            · exact same_none' S05 (qa4 b m).2.2.2
            · exact same_none' S05 (qb4 b m).2.2.2
        have W6 : Wld K p dl hl dd yy H6 H6 5000 [] := by
          refine ⟨B6', fun z hz => ?_, hdl6, hhl6, fun j h _ e => by simp at e, .refl⟩
          rcases two hz with e | e <;> subst e
          · exact ⟨z0.2.1, z0.2.2, qa1, fun b hb => hb, qa2, qa3⟩
          · exact ⟨z1.2.1, z1.2.2, qb1, fun b hb => hb, qb2, qb3⟩
        have hS6 : SqL K H6 a (ns.map V.int) := (same_new_fr s1 n1 (F15.trans F6)).seq hS0
        have hT6 : Tbs T.Ps H6 := hT0.same (same_new_fr s1 n1 (F15.trans F6))
        clear_value dd yy
        refine ⟨_, rfl, by decide, by decide, for_range (lo := 0) (n := 14) (fun n σ H' => ∃ (l : List HeldE) (w3 w4 v7 v8 v9 v10 v11 v12 : Option V), σ = [some (.ref a), some (.int (i : Nat)), some (.ref p), w3, w4, some (.ref hl), some (.ref dl), v7, v8, v9, v10, v11, v12] ∧ Wld K p dl hl dd yy H6 H' (5000 + 20 * n) l ∧ l.length ≤ n)
          ⟨[], _, _, _, _, _, _, _, _, rfl, W6, Nat.le_refl _⟩ ?_ ?_⟩
        · clear v7 v8 v9 v10 v11 v12
          rintro n σ H7 hn14 ⟨l, w3, w4, v7, v8, v9, v10, v11, v12, rfl, W7, ln⟩
          rw [Int.zero_add]
          refine ⟨_, rfl, _, rfl, p, 2, _, rfl, W7.box, by omega, by decide, by decide, fun z H8 z0' z1' B8 F8 => ?_⟩
          obtain ⟨zn, rfl⟩ : ∃ zn : Nat, z = (zn : Int) := ⟨z.toNat, by omega⟩
          have zn2 : zn < 2 := by omega
          have W8 := W7.fr OK6 F8 B8
          have ez : atI ([.ref (dd 0), .ref (dd 1)] : List V) (zn : Int) = some (.ref (dd zn)) := by
            rcases two zn2 with e | e <;> subst e <;> rfl
          refine ⟨dl, _, (zn : Int), .ref (dd zn), rfl, rfl, SqL.of W8.dl, ez, ?_⟩
          refine ⟨fun σ' H' => σ' = [some (.ref a), some (.int (i : Nat)), some (.ref p), w3, w4, some (.ref hl), some (.ref dl), some (.int (n : Nat)), some (.ref (dd zn)), v9, v10, v11, v12] ∧ Wld K p dl hl dd yy H6 H' (5000 + 20 * n + 1 + 10) l, ?_, ?_⟩
          rotate_left
          · refine ⟨_, rfl, _, _, rfl, rfl, (show (0 : Int) < 2 by decide), rfl, _, rfl, ?_⟩
            by_cases c : (n : Int) % 2 = 1
            · refine ite_bT (decide_eq_true (congrArg V.int c)) ?_
              obtain ⟨y, D, hD, sub, O, N⟩ := W8.day zn zn2
              refine ⟨_, rfl, _, rfl, p, dd zn, _, y, D, rfl, W8.box, by omega, hD, fun b hb => (OK6.np zn zn2 b (sub b hb)).1, O, N, fun y' D' H9 hD9 sub9 O9 N9 e1 e2 B9 F9 => ?_⟩
              exact ⟨rfl, W8.put OK6 zn2 sub sub9 hD9 O9 N9 F9 B9⟩
            · refine ite_bF (decide_eq_false fun z => c (V.int.inj z)) ?_
              exact ⟨rfl, { W8 with box := W8.box.mono (by omega) }⟩
          rintro σ H9 ⟨rfl, W9⟩
          obtain ⟨ya, Da, hDa, suba, Oa, Na⟩ := W9.day 0 (by decide)
          obtain ⟨yb, Db, hDb, subb, Ob, Nb⟩ := W9.day 1 (by decide)
          obtain ⟨dp9, fine9⟩ := two_days W9.dl hDa hDb Oa Ob Na Nb
          refine ⟨_, rfl, .ref dl, _, 5, 20700, rfl, dp9, fine9, by decide, by decide, ?_⟩
          refine ⟨_, rfl, p, 4, _, rfl, W9.box, by omega, by decide, by decide, fun w H10 ww0 ww1 B10 F10 => ?_⟩
          have W10 := W9.fr OK6 F10 B10
          have hDa10 := hDa.fr W9.box F10 fun b hb => (OK6.np 0 (by decide) b (suba b hb)).1
          have hDb10 := hDb.fr W9.box F10 fun b hb => (OK6.np 1 (by decide) b (subb b hb)).1
          obtain ⟨yz, Dz, hDz, subz, Oz, Nz⟩ := W10.day zn zn2
          have npz : ∀ b ∈ yz.all, b ≠ p := fun b hb => (OK6.np zn zn2 b (subz b hb)).1
          refine ⟨_, rfl, p, dd zn, yz.x, Dz, w, rfl, ww0, ww1, hDz.day npz, ⟨_, B10⟩, rfl, rfl, Oz, Nz, hDz.tg Nz npz, hT6.fm OK6.all W10.fm, fun tt t xs e H11 s11 htt ht xl nt tg wt => ?_⟩
          refine ⟨tt, _, rfl, SqT.of htt, rfl, _, _, rfl, _, _, rfl, rfl, ?_⟩
          have W11 := W10.f0 (.sm s11)
          obtain ⟨dp11, _⟩ := two_days W11.dl (hDa10.sm s11) (hDb10.sm s11) Oa Ob Na Nb
          refine ⟨_, rfl, _, rfl, iteF ?_⟩
          refine ⟨_, rfl, .ref dl, _, 5, 20700, rfl, dp11, fine9, by decide, by decide, _, rfl, rfl, _, rfl, ?_⟩
          rw [decide_eq_true rfl]
          refine iteF ?_
          have nt6 : ¬ ∃ ys, H6 t = some (.lst ys) := fun ⟨ys, z⟩ => nt (W10.fm.lists _ _ z)
          refine ⟨_, rfl, _, _, rfl, rfl, (show (0 : Int) < 3 by decide), rfl, _, rfl, ?_⟩
          by_cases c : (n : Int) % 3 = 0
          · refine ite_bT (decide_eq_true (congrArg V.int c)) ?_
            refine ⟨_, rfl, .inl ⟨rfl, _, SqL.of W11.held⟩, ?_⟩
            refine ⟨_, rfl, _, rfl, .ref t, e, 2, 30000, rfl, tg.dp, tg.show_ (by decide) wt, by decide, by decide, rfl, fun pr H12 s12 n12 h12 => ?_⟩
            have W12 := W11.f0 (.of s12)
            refine ⟨hl, _, _, rfl, rfl, W12.held, by rw [List.length_map]; exact small' (by omega), ?_⟩
            have hx : HeldOne K (fun b => (∃ zs, H6 b = some (.lst zs)) ∨ b ∈ l.map HeldE.t) H12 ⟨pr, t, e⟩ := by
              have sub : ∀ b, ((∃ zs, H6 b = some (.lst zs)) ∨ b ∈ l.map HeldE.t) → ∃ ys, H10 b = some (.lst ys) := fun b hb => by
                rcases hb with ⟨zs, hz⟩ | m
                · exact W10.fm.lists _ _ hz
                · obtain ⟨g, hg', rfl⟩ := List.mem_map.mp m
                  obtain ⟨j, ej⟩ := List.getElem?_of_mem hg'
                  obtain ⟨ys, y1, _⟩ := (W10.at_ j g (Nat.zero_le _) ej).lst
                  exact ⟨ys, y1⟩
              exact ⟨SqT.of h12, ⟨xs, s12 _ _ ht, xl⟩, (tg.same s12).less' sub, wt, fun z => nt (sub _ z)⟩
            have W13 := W12.hold OK6 hx
            refine ⟨l ++ [⟨pr, t, e⟩], w3, w4, _, _, _, _, _, _, rfl, { W13 with box := W13.box.mono (by omega) }, by rw [List.length_append]; show l.length + 1 ≤ n + 1; omega⟩
          · refine ite_bF (decide_eq_false fun z => c (V.int.inj z)) ?_
            refine ⟨_, rfl, .inl ⟨rfl, _, SqL.of ht⟩, _, rfl, t, _, _, rfl, rfl, ht, small' (by omega), ?_⟩
            have f1 : Fm (fun _ => False) H10 (upd H11 t (.lst (xs ++ [.int (n : Nat)]))) := (Fm.sm s11).putN ht nt
            refine ⟨_, rfl, .inl ⟨rfl, _, SqL.of upd_same⟩, t, _, rfl, rfl, upd_same, ?_⟩
            have f2 := f1.putN upd_same nt (ys := (xs ++ [V.int (n : Nat)]).reverse)
            have W12 := W10.f0 f2
            exact ⟨l, w3, w4, _, _, _, _, _, _, rfl, { W12 with box := W12.box.mono (show 5000 + 20 * n + 1 + 10 + 1 ≤ 5000 + 20 * (n + 1) by omega) }, by omega⟩
        · clear v7 v8 v9 v10 v11 v12
          rintro σ H7 ⟨l, w3, w4, v7, v8, v9, v10, v11, v12, rfl, W7, ln⟩
          have NM : ∀ g ∈ l, ¬ ∃ zs, H6 g.t = some (.lst zs) := fun g hg' z => by
            obtain ⟨j, ej⟩ := List.getElem?_of_mem hg'
            exact (W7.at_ j g (Nat.zero_le _) ej).no (.inl z)
          have LT : ∀ j, AllL (fun b => b ∈ (l.take j).map HeldE.t) H7 := fun j b hb => by
            obtain ⟨g, hg', rfl⟩ := List.mem_map.mp hb
            obtain ⟨u, eu⟩ := List.getElem?_of_mem (List.mem_of_mem_take hg')
            obtain ⟨ys, y1, _⟩ := (W7.at_ u g (Nat.zero_le _) eu).lst
            exact ⟨ys, y1⟩
          have hln : ∀ j, hl ∉ (l.take j).map HeldE.t := fun j m => by
            obtain ⟨g, hg', e⟩ := List.mem_map.mp m
            exact NM g (List.mem_of_mem_take hg') ⟨_, by rw [e]; exact hhl6⟩
          refine ⟨_, rfl, hl, rfl, ⟨_, SqL.of W7.held⟩, for_it (walk_list (K := K) (a := hl) (xs := l.map fun h => V.ref h.pr)) (fun j σ H' => ∃ v7 v8 v9 v10 v11 v12 : Option V, σ = [some (.ref a), some (.int (i : Nat)), some (.ref p), w3, w4, some (.ref hl), some (.ref dl), v7, v8, v9, v10, v11, v12] ∧ Fm (fun b => b ∈ (l.take j).map HeldE.t) H7 H')
            ⟨_, _, _, _, _, _, rfl, .refl⟩ (fun j σ H' _ ⟨_, _, _, _, _, _, _, F⟩ => SqL.of (F.keep _ _ (hln j) W7.held nofun)) ?_ ?_⟩
          · clear v7 v8 v9 v10 v11 v12
            rintro j v σ H8' H8 hj ⟨v7, v8, v9, v10, v11, v12, rfl, F8⟩ ⟨rfl, hv⟩
            rw [List.getElem?_map] at hv
            obtain ⟨g, eg, rfl⟩ := Option.map_eq_some_iff.mp hv
            have x := (W7.at_ j g (Nat.zero_le _) eg).fm (M := fun b => b ∈ (l.take j).map HeldE.t) (fun b hb => .inr hb) (LT j) F8
            obtain ⟨ys, y1, y2⟩ := x.lst
            refine ⟨g.pr, _, rfl, x.pr, rfl, _, _, rfl, _, _, rfl, rfl, ?_⟩
            refine ⟨_, rfl, .ref g.t, g.e, 2, 30000, rfl, x.tg.dp, x.tg.show_ (by decide) x.wt, by decide, by decide, _, rfl, rfl, _, rfl, ?_⟩
            rw [decide_eq_true rfl]
            refine iteF ?_
            refine ⟨_, rfl, .inl ⟨rfl, _, SqL.of y1⟩, g.t, _, _, rfl, rfl, y1, small' (by omega), ?_⟩
            refine ⟨_, _, _, _, _, _, rfl, (F8.mono fun b hb => ?_).trans (Fm.put ?_ y1)⟩
            · rw [take_one eg, List.map_append]
              exact List.mem_append_left _ hb
            · rw [take_one eg, List.map_append]
              exact List.mem_append_right _ List.mem_cons_self
          · clear v7 v8 v9 v10 v11 v12
            rintro σ H8 ⟨v7, v8, v9, v10, v11, v12, rfl, F8⟩
            have hT7 := hT6.fm OK6.all W7.fm
            have nm : ∀ {b : Addr} {o : HO}, H0 b = some o → ¬ (b = p ∨ b = hl ∨ ∃ z, z < 2 ∧ b ∈ (yy z).all) := fun {b o} h z => by
              rw [new6 b z] at h
              cases h
            have S06 : Same H0 H6 := same_new_fr s1 n1 (F15.trans F6)
            refine ⟨_, _, _, _, _, _, _, _, _, _, _, _, rfl, ?_, hT7.fm (LT _) F8⟩
            rcases hS0 with (h | ⟨o, h⟩) | h
            · have h6 := S06 _ _ h
              have h7 := W7.fm.keep _ _ (nm h) h6 nofun
              refine .inl (.inl (F8.keep _ _ (fun m => ?_) h7 nofun))
              obtain ⟨g, hg', e⟩ := List.mem_map.mp m
              exact NM g (List.mem_of_mem_take hg') ⟨_, by rw [e]; exact h6⟩
            · have h6 := S06 _ _ h
              have h7 := W7.fm.keep _ _ (nm h) h6 nofun
              refine .inl (.inr ⟨o, F8.keep _ _ (fun m => ?_) h7 nofun⟩)
              obtain ⟨xs, e⟩ := LT _ _ m
              rw [h7] at e
              cases e
            · exact .inr h
    · rintro σ H0 ⟨v1, v2, v3, v4, v5, v6, v7, v8, v9, v10, v11, v12, rfl, _, _⟩
      exact q H0

end
end KR
namespace KR
open PySem PySem.Spec PyProof.Rows L2
theorem all_mk {l : PySem.W.OpenLaw} {w : World} {K : PySem.W.Frag} {h : Heap} {mg : Str → Option Value} {fa : Addr} (X : K.In h) (G : h.Ns mainGlobals mg) (hfa : mg "law" = some (.ref fa))
    {od0 an0 : Option Addr} {sl0 : Array (Option Value)} {oc0 kV0 dc0 pm0 cd0 ct0 : Value} {f0 : Addr}
    (a0 : PySem.W.nsIn K mainGlobals "places_in" = some (some (.ref f0))) (l0 : K.lookup f0 = some ⟨oc0, od0, .func (PySem.W.fnOf "places_in" "places_in" (defArgs s_p_places_in) (defBody s_p_places_in) (defScope s_p_places_in) .none kV0 dc0 pm0 an0 cd0 ct0), sl0⟩) (c0 : PySem.W.codeIn K cd0 "places_in" = true) (k0 : PySem.W.keepIn K (.ref f0) = true)
    {od1 an1 : Option Addr} {sl1 : Array (Option Value)} {oc1 kV1 dc1 pm1 cd1 ct1 : Value} {f1 : Addr}
    (a1 : PySem.W.nsIn K mainGlobals "hours_in" = some (some (.ref f1))) (l1 : K.lookup f1 = some ⟨oc1, od1, .func (PySem.W.fnOf "hours_in" "hours_in" (defArgs s_p_hours_in) (defBody s_p_hours_in) (defScope s_p_hours_in) .none kV1 dc1 pm1 an1 cd1 ct1), sl1⟩) (c1 : PySem.W.codeIn K cd1 "hours_in" = true) (k1 : PySem.W.keepIn K (.ref f1) = true)
    {od2 an2 : Option Addr} {sl2 : Array (Option Value)} {oc2 kV2 dc2 pm2 cd2 ct2 : Value} {f2 : Addr}
    (a2 : PySem.W.nsIn K mainGlobals "end_of" = some (some (.ref f2))) (l2 : K.lookup f2 = some ⟨oc2, od2, .func (PySem.W.fnOf "end_of" "end_of" (defArgs s_p_end_of) (defBody s_p_end_of) (defScope s_p_end_of) .none kV2 dc2 pm2 an2 cd2 ct2), sl2⟩) (c2 : PySem.W.codeIn K cd2 "end_of" = true) (k2 : PySem.W.keepIn K (.ref f2) = true)
    {od3 an3 : Option Addr} {sl3 : Array (Option Value)} {oc3 kV3 dc3 pm3 cd3 ct3 : Value} {f3 : Addr}
    (a3 : PySem.W.nsIn K mainGlobals "bounds_at" = some (some (.ref f3))) (l3 : K.lookup f3 = some ⟨oc3, od3, .func (PySem.W.fnOf "bounds_at" "bounds_at" (defArgs s_p_bounds_at) (defBody s_p_bounds_at) (defScope s_p_bounds_at) .none kV3 dc3 pm3 an3 cd3 ct3), sl3⟩) (c3 : PySem.W.codeIn K cd3 "bounds_at" = true) (k3 : PySem.W.keepIn K (.ref f3) = true)
    {od4 an4 : Option Addr} {sl4 : Array (Option Value)} {oc4 kV4 dc4 pm4 cd4 ct4 : Value} {f4 : Addr}
    (a4 : PySem.W.nsIn K mainGlobals "reached" = some (some (.ref f4))) (l4 : K.lookup f4 = some ⟨oc4, od4, .func (PySem.W.fnOf "reached" "reached" (defArgs s_p_reached) (defBody s_p_reached) (defScope s_p_reached) .none kV4 dc4 pm4 an4 cd4 ct4), sl4⟩) (c4 : PySem.W.codeIn K cd4 "reached" = true) (k4 : PySem.W.keepIn K (.ref f4) = true)
    {od5 an5 : Option Addr} {sl5 : Array (Option Value)} {oc5 kV5 dc5 pm5 cd5 ct5 : Value} {f5 : Addr}
    (a5 : PySem.W.nsIn K mainGlobals "most_plan" = some (some (.ref f5))) (l5 : K.lookup f5 = some ⟨oc5, od5, .func (PySem.W.fnOf "most_plan" "most_plan" (defArgs s_p_most_plan) (defBody s_p_most_plan) (defScope s_p_most_plan) .none kV5 dc5 pm5 an5 cd5 ct5), sl5⟩) (c5 : PySem.W.codeIn K cd5 "most_plan" = true) (k5 : PySem.W.keepIn K (.ref f5) = true)
    {od6 an6 : Option Addr} {sl6 : Array (Option Value)} {oc6 kV6 dc6 pm6 cd6 ct6 : Value} {f6 : Addr}
    (a6 : PySem.W.nsIn K mainGlobals "first_hour" = some (some (.ref f6))) (l6 : K.lookup f6 = some ⟨oc6, od6, .func (PySem.W.fnOf "first_hour" "first_hour" (defArgs s_p_first_hour) (defBody s_p_first_hour) (defScope s_p_first_hour) .none kV6 dc6 pm6 an6 cd6 ct6), sl6⟩) (c6 : PySem.W.codeIn K cd6 "first_hour" = true) (k6 : PySem.W.keepIn K (.ref f6) = true)
    {od7 an7 : Option Addr} {sl7 : Array (Option Value)} {oc7 kV7 dc7 pm7 cd7 ct7 : Value} {f7 : Addr}
    (a7 : PySem.W.nsIn K mainGlobals "most_struck" = some (some (.ref f7))) (l7 : K.lookup f7 = some ⟨oc7, od7, .func (PySem.W.fnOf "most_struck" "most_struck" (defArgs s_p_most_struck) (defBody s_p_most_struck) (defScope s_p_most_struck) .none kV7 dc7 pm7 an7 cd7 ct7), sl7⟩) (c7 : PySem.W.codeIn K cd7 "most_struck" = true) (k7 : PySem.W.keepIn K (.ref f7) = true)
    {od8 an8 : Option Addr} {sl8 : Array (Option Value)} {oc8 kV8 dc8 pm8 cd8 ct8 : Value} {f8 : Addr}
    (a8 : PySem.W.nsIn K mainGlobals "binding_places" = some (some (.ref f8))) (l8 : K.lookup f8 = some ⟨oc8, od8, .func (PySem.W.fnOf "binding_places" "binding_places" (defArgs s_p_binding_places) (defBody s_p_binding_places) (defScope s_p_binding_places) .none kV8 dc8 pm8 an8 cd8 ct8), sl8⟩) (c8 : PySem.W.codeIn K cd8 "binding_places" = true) (k8 : PySem.W.keepIn K (.ref f8) = true)
    {od9 an9 : Option Addr} {sl9 : Array (Option Value)} {oc9 kV9 dc9 pm9 cd9 ct9 : Value} {f9 : Addr}
    (a9 : PySem.W.nsIn K mainGlobals "_most_taken" = some (some (.ref f9))) (l9 : K.lookup f9 = some ⟨oc9, od9, .func (PySem.W.fnOf "_most_taken" "_most_taken" (defArgs s_p__most_taken) (defBody s_p__most_taken) (defScope s_p__most_taken) .none kV9 dc9 pm9 an9 cd9 ct9), sl9⟩) (c9 : PySem.W.codeIn K cd9 "_most_taken" = true) (k9 : PySem.W.keepIn K (.ref f9) = true)
    {od10 an10 : Option Addr} {sl10 : Array (Option Value)} {oc10 kV10 dc10 pm10 cd10 ct10 : Value} {f10 : Addr}
    (a10 : PySem.W.nsIn K mainGlobals "_most" = some (some (.ref f10))) (l10 : K.lookup f10 = some ⟨oc10, od10, .func (PySem.W.fnOf "_most" "_most" (defArgs s_p__most) (defBody s_p__most) (defScope s_p__most) .none kV10 dc10 pm10 an10 cd10 ct10), sl10⟩) (c10 : PySem.W.codeIn K cd10 "_most" = true) (k10 : PySem.W.keepIn K (.ref f10) = true)
    {od11 an11 : Option Addr} {sl11 : Array (Option Value)} {oc11 kV11 dc11 pm11 cd11 ct11 : Value} {f11 : Addr}
    (a11 : PySem.W.nsIn K mainGlobals "_tight_bound" = some (some (.ref f11))) (l11 : K.lookup f11 = some ⟨oc11, od11, .func (PySem.W.fnOf "_tight_bound" "_tight_bound" (defArgs s_p__tight_bound) (defBody s_p__tight_bound) (defScope s_p__tight_bound) .none kV11 dc11 pm11 an11 cd11 ct11), sl11⟩) (c11 : PySem.W.codeIn K cd11 "_tight_bound" = true) (k11 : PySem.W.keepIn K (.ref f11) = true)
    {od12 an12 : Option Addr} {sl12 : Array (Option Value)} {oc12 kV12 dc12 pm12 cd12 ct12 : Value} {f12 : Addr}
    (a12 : PySem.W.nsIn K mainGlobals "_widened" = some (some (.ref f12))) (l12 : K.lookup f12 = some ⟨oc12, od12, .func (PySem.W.fnOf "_widened" "_widened" (defArgs s_p__widened) (defBody s_p__widened) (defScope s_p__widened) .none kV12 dc12 pm12 an12 cd12 ct12), sl12⟩) (c12 : PySem.W.codeIn K cd12 "_widened" = true) (k12 : PySem.W.keepIn K (.ref f12) = true)
    {od13 an13 : Option Addr} {sl13 : Array (Option Value)} {oc13 kV13 dc13 pm13 cd13 ct13 : Value} {f13 : Addr}
    (a13 : PySem.W.nsIn K mainGlobals "is_number" = some (some (.ref f13))) (l13 : K.lookup f13 = some ⟨oc13, od13, .func (PySem.W.fnOf "is_number" "is_number" (defArgs s_p_is_number) (defBody s_p_is_number) (defScope s_p_is_number) .none kV13 dc13 pm13 an13 cd13 ct13), sl13⟩) (c13 : PySem.W.codeIn K cd13 "is_number" = true) (k13 : PySem.W.keepIn K (.ref f13) = true)
    {od14 an14 : Option Addr} {sl14 : Array (Option Value)} {oc14 kV14 dc14 pm14 cd14 ct14 : Value} {f14 : Addr}
    (a14 : PySem.W.nsIn K mainGlobals "is_number_within" = some (some (.ref f14))) (l14 : K.lookup f14 = some ⟨oc14, od14, .func (PySem.W.fnOf "is_number_within" "is_number_within" (defArgs s_p_is_number_within) (defBody s_p_is_number_within) (defScope s_p_is_number_within) .none kV14 dc14 pm14 an14 cd14 ct14), sl14⟩) (c14 : PySem.W.codeIn K cd14 "is_number_within" = true) (k14 : PySem.W.keepIn K (.ref f14) = true)
    {od15 an15 : Option Addr} {sl15 : Array (Option Value)} {oc15 kV15 dc15 pm15 cd15 ct15 : Value} {f15 : Addr}
    (a15 : PySem.W.nsIn K mainGlobals "shows_most" = some (some (.ref f15))) (l15 : K.lookup f15 = some ⟨oc15, od15, .func (PySem.W.fnOf "shows_most" "shows_most" (defArgs s_p_shows_most) (defBody s_p_shows_most) (defScope s_p_shows_most) .none kV15 dc15 pm15 an15 cd15 ct15), sl15⟩) (c15 : PySem.W.codeIn K cd15 "shows_most" = true) (k15 : PySem.W.keepIn K (.ref f15) = true)
    {od16 an16 : Option Addr} {sl16 : Array (Option Value)} {oc16 kV16 dc16 pm16 cd16 ct16 : Value} {f16 : Addr}
    (a16 : PySem.W.nsIn K mainGlobals "_is_bound_of" = some (some (.ref f16))) (l16 : K.lookup f16 = some ⟨oc16, od16, .func (PySem.W.fnOf "_is_bound_of" "_is_bound_of" (defArgs s_p__is_bound_of) (defBody s_p__is_bound_of) (defScope s_p__is_bound_of) .none kV16 dc16 pm16 an16 cd16 ct16), sl16⟩) (c16 : PySem.W.codeIn K cd16 "_is_bound_of" = true) (k16 : PySem.W.keepIn K (.ref f16) = true)
    {od17 an17 : Option Addr} {sl17 : Array (Option Value)} {oc17 kV17 dc17 pm17 ct17 : Value} {f17 C17 P17 : Addr}
    (a17 : PySem.W.nsIn K mainGlobals "is_day" = some (some (.ref f17))) (l17 : K.lookup f17 = some ⟨oc17, od17, .func (PySem.W.fnOf "is_day" "is_day" (defArgs s_p_is_day) (defBody s_p_is_day) (defScope s_p_is_day) .none kV17 dc17 pm17 an17 (.ref C17) ct17), sl17⟩) (c17 : PySem.W.codeIn K (.ref C17) "is_day" = true) (k17 : PySem.W.keepIn K (.ref f17) = true)
    {te17 : Value} {td17 : Option Addr} {tv17 : Array Value} {ts17 : Array (Option Value)} (q17 : K.lookup C17 = some ⟨te17, td17, .fields tv17, ts17⟩) (p17 : tv17[11]? = some (.ref P17)) (n17 : K.lookup P17 = none)
    {od18 an18 : Option Addr} {sl18 : Array (Option Value)} {oc18 kV18 dc18 pm18 ct18 : Value} {f18 C18 P18 : Addr}
    (a18 : PySem.W.nsIn K mainGlobals "shows_plan" = some (some (.ref f18))) (l18 : K.lookup f18 = some ⟨oc18, od18, .func (PySem.W.fnOf "shows_plan" "shows_plan" (defArgs s_p_shows_plan) (defBody s_p_shows_plan) (defScope s_p_shows_plan) .none kV18 dc18 pm18 an18 (.ref C18) ct18), sl18⟩) (c18 : PySem.W.codeIn K (.ref C18) "shows_plan" = true) (k18 : PySem.W.keepIn K (.ref f18) = true)
    {te18 : Value} {td18 : Option Addr} {tv18 : Array Value} {ts18 : Array (Option Value)} (q18 : K.lookup C18 = some ⟨te18, td18, .fields tv18, ts18⟩) (p18 : tv18[11]? = some (.ref P18)) (n18 : K.lookup P18 = none)
    {od19 an19 : Option Addr} {sl19 : Array (Option Value)} {oc19 kV19 dc19 pm19 cd19 ct19 : Value} {f19 : Addr}
    (a19 : PySem.W.nsIn K mainGlobals "_taken_by" = some (some (.ref f19))) (l19 : K.lookup f19 = some ⟨oc19, od19, .func (PySem.W.fnOf "_taken_by" "_taken_by" (defArgs s_p__taken_by) (defBody s_p__taken_by) (defScope s_p__taken_by) .none kV19 dc19 pm19 an19 cd19 ct19), sl19⟩) (c19 : PySem.W.codeIn K cd19 "_taken_by" = true) (k19 : PySem.W.keepIn K (.ref f19) = true)
    {od20 an20 : Option Addr} {sl20 : Array (Option Value)} {oc20 kV20 dc20 pm20 cd20 ct20 : Value} {f20 : Addr}
    (a20 : PySem.W.nsIn K mainGlobals "_is_kettle" = some (some (.ref f20))) (l20 : K.lookup f20 = some ⟨oc20, od20, .func (PySem.W.fnOf "_is_kettle" "_is_kettle" (defArgs s_p__is_kettle) (defBody s_p__is_kettle) (defScope s_p__is_kettle) .none kV20 dc20 pm20 an20 cd20 ct20), sl20⟩) (c20 : PySem.W.codeIn K cd20 "_is_kettle" = true) (k20 : PySem.W.keepIn K (.ref f20) = true)
    {od21 an21 : Option Addr} {sl21 : Array (Option Value)} {oc21 kV21 dc21 pm21 ct21 : Value} {f21 C21 P21 : Addr}
    (a21 : PySem.W.nsIn K mainGlobals "_are_ladles" = some (some (.ref f21))) (l21 : K.lookup f21 = some ⟨oc21, od21, .func (PySem.W.fnOf "_are_ladles" "_are_ladles" (defArgs s_p__are_ladles) (defBody s_p__are_ladles) (defScope s_p__are_ladles) .none kV21 dc21 pm21 an21 (.ref C21) ct21), sl21⟩) (c21 : PySem.W.codeIn K (.ref C21) "_are_ladles" = true) (k21 : PySem.W.keepIn K (.ref f21) = true)
    {te21 : Value} {td21 : Option Addr} {tv21 : Array Value} {ts21 : Array (Option Value)} (q21 : K.lookup C21 = some ⟨te21, td21, .fields tv21, ts21⟩) (p21 : tv21[11]? = some (.ref P21)) (n21 : K.lookup P21 = none)
    {od22 an22 : Option Addr} {sl22 : Array (Option Value)} {oc22 kV22 dc22 pm22 ct22 : Value} {f22 C22 P22 : Addr}
    (a22 : PySem.W.nsIn K mainGlobals "_is_place_of_plan" = some (some (.ref f22))) (l22 : K.lookup f22 = some ⟨oc22, od22, .func (PySem.W.fnOf "_is_place_of_plan" "_is_place_of_plan" (defArgs s_p__is_place_of_plan) (defBody s_p__is_place_of_plan) (defScope s_p__is_place_of_plan) .none kV22 dc22 pm22 an22 (.ref C22) ct22), sl22⟩) (c22 : PySem.W.codeIn K (.ref C22) "_is_place_of_plan" = true) (k22 : PySem.W.keepIn K (.ref f22) = true)
    {te22 : Value} {td22 : Option Addr} {tv22 : Array Value} {ts22 : Array (Option Value)} (q22 : K.lookup C22 = some ⟨te22, td22, .fields tv22, ts22⟩) (p22 : tv22[11]? = some (.ref P22)) (n22 : K.lookup P22 = none)
    {od23 an23 : Option Addr} {sl23 : Array (Option Value)} {oc23 kV23 dc23 pm23 cd23 ct23 : Value} {f23 : Addr}
    (a23 : PySem.W.nsIn K mainGlobals "_law_cell_at" = some (some (.ref f23))) (l23 : K.lookup f23 = some ⟨oc23, od23, .func (PySem.W.fnOf "_law_cell_at" "_law_cell_at" (defArgs s_l_cell_at) (defBody s_l_cell_at) (defScope s_l_cell_at) .none kV23 dc23 pm23 an23 cd23 ct23), sl23⟩) (c23 : PySem.W.codeIn K cd23 "_law_cell_at" = true) (k23 : PySem.W.keepIn K (.ref f23) = true)
    {od24 an24 : Option Addr} {sl24 : Array (Option Value)} {oc24 kV24 dc24 pm24 cd24 ct24 : Value} {f24 : Addr}
    (a24 : PySem.W.nsIn K mainGlobals "_law_box" = some (some (.ref f24))) (l24 : K.lookup f24 = some ⟨oc24, od24, .func (PySem.W.fnOf "_law_box" "_law_box" (defArgs s_l_box) (defBody s_l_box) (defScope s_l_box) .none kV24 dc24 pm24 an24 cd24 ct24), sl24⟩) (c24 : PySem.W.codeIn K cd24 "_law_box" = true) (k24 : PySem.W.keepIn K (.ref f24) = true)
    {od25 an25 : Option Addr} {sl25 : Array (Option Value)} {oc25 kV25 dc25 pm25 cd25 ct25 : Value} {f25 : Addr}
    (a25 : PySem.W.nsIn K mainGlobals "_law_take" = some (some (.ref f25))) (l25 : K.lookup f25 = some ⟨oc25, od25, .func (PySem.W.fnOf "_law_take" "_law_take" (defArgs s_l_take) (defBody s_l_take) (defScope s_l_take) .none kV25 dc25 pm25 an25 cd25 ct25), sl25⟩) (c25 : PySem.W.codeIn K cd25 "_law_take" = true) (k25 : PySem.W.keepIn K (.ref f25) = true)
    {od26 an26 : Option Addr} {sl26 : Array (Option Value)} {oc26 kV26 dc26 pm26 cd26 ct26 : Value} {f26 : Addr}
    (a26 : PySem.W.nsIn K mainGlobals "_law_ladles" = some (some (.ref f26))) (l26 : K.lookup f26 = some ⟨oc26, od26, .func (PySem.W.fnOf "_law_ladles" "_law_ladles" (defArgs s_l_ladles) (defBody s_l_ladles) (defScope s_l_ladles) .none kV26 dc26 pm26 an26 cd26 ct26), sl26⟩) (c26 : PySem.W.codeIn K cd26 "_law_ladles" = true) (k26 : PySem.W.keepIn K (.ref f26) = true)
    {od27 an27 : Option Addr} {sl27 : Array (Option Value)} {oc27 kV27 dc27 pm27 cd27 ct27 : Value} {f27 : Addr}
    (a27 : PySem.W.nsIn K mainGlobals "_law_day" = some (some (.ref f27))) (l27 : K.lookup f27 = some ⟨oc27, od27, .func (PySem.W.fnOf "_law_day" "_law_day" (defArgs s_l_day) (defBody s_l_day) (defScope s_l_day) .none kV27 dc27 pm27 an27 cd27 ct27), sl27⟩) (c27 : PySem.W.codeIn K cd27 "_law_day" = true) (k27 : PySem.W.keepIn K (.ref f27) = true)
    {od28 an28 : Option Addr} {sl28 : Array (Option Value)} {oc28 kV28 dc28 pm28 cd28 ct28 : Value} {f28 : Addr}
    (a28 : PySem.W.nsIn K mainGlobals "_law_same" = some (some (.ref f28))) (l28 : K.lookup f28 = some ⟨oc28, od28, .func (PySem.W.fnOf "_law_same" "_law_same" (defArgs s_l_same) (defBody s_l_same) (defScope s_l_same) .none kV28 dc28 pm28 an28 cd28 ct28), sl28⟩) (c28 : PySem.W.codeIn K cd28 "_law_same" = true) (k28 : PySem.W.keepIn K (.ref f28) = true)
    {od29 an29 : Option Addr} {sl29 : Array (Option Value)} {oc29 kV29 dc29 pm29 cd29 ct29 : Value} {f29 : Addr}
    (a29 : PySem.W.nsIn K mainGlobals "_law_is_number" = some (some (.ref f29))) (l29 : K.lookup f29 = some ⟨oc29, od29, .func (PySem.W.fnOf "_law_is_number" "_law_is_number" (defArgs s_l_is_number) (defBody s_l_is_number) (defScope s_l_is_number) .none kV29 dc29 pm29 an29 cd29 ct29), sl29⟩) (c29 : PySem.W.codeIn K cd29 "_law_is_number" = true) (k29 : PySem.W.keepIn K (.ref f29) = true)
    {od30 an30 : Option Addr} {sl30 : Array (Option Value)} {oc30 kV30 dc30 pm30 cd30 ct30 : Value} {f30 : Addr}
    (a30 : PySem.W.nsIn K mainGlobals "_law_greatest" = some (some (.ref f30))) (l30 : K.lookup f30 = some ⟨oc30, od30, .func (PySem.W.fnOf "_law_greatest" "_law_greatest" (defArgs s_l_greatest) (defBody s_l_greatest) (defScope s_l_greatest) .none kV30 dc30 pm30 an30 cd30 ct30), sl30⟩) (c30 : PySem.W.codeIn K cd30 "_law_greatest" = true) (k30 : PySem.W.keepIn K (.ref f30) = true)
    {od31 an31 : Option Addr} {sl31 : Array (Option Value)} {oc31 kV31 dc31 pm31 cd31 ct31 : Value} {f31 : Addr}
    (a31 : PySem.W.nsIn K mainGlobals "_law_is_paper" = some (some (.ref f31))) (l31 : K.lookup f31 = some ⟨oc31, od31, .func (PySem.W.fnOf "_law_is_paper" "_law_is_paper" (defArgs s_l_is_paper) (defBody s_l_is_paper) (defScope s_l_is_paper) .none kV31 dc31 pm31 an31 cd31 ct31), sl31⟩) (c31 : PySem.W.codeIn K cd31 "_law_is_paper" = true) (k31 : PySem.W.keepIn K (.ref f31) = true)
    {od32 an32 : Option Addr} {sl32 : Array (Option Value)} {oc32 kV32 dc32 pm32 cd32 ct32 : Value} {f32 : Addr}
    (a32 : PySem.W.nsIn K mainGlobals "_law_put" = some (some (.ref f32))) (l32 : K.lookup f32 = some ⟨oc32, od32, .func (PySem.W.fnOf "_law_put" "_law_put" (defArgs s_l_put) (defBody s_l_put) (defScope s_l_put) .none kV32 dc32 pm32 an32 cd32 ct32), sl32⟩) (c32 : PySem.W.codeIn K cd32 "_law_put" = true) (k32 : PySem.W.keepIn K (.ref f32) = true)
    {od33 an33 : Option Addr} {sl33 : Array (Option Value)} {oc33 kV33 dc33 pm33 cd33 ct33 : Value} {f33 : Addr}
    (a33 : PySem.W.nsIn K mainGlobals "_law_struck" = some (some (.ref f33))) (l33 : K.lookup f33 = some ⟨oc33, od33, .func (PySem.W.fnOf "_law_struck" "_law_struck" (defArgs s_l_struck) (defBody s_l_struck) (defScope s_l_struck) .none kV33 dc33 pm33 an33 cd33 ct33), sl33⟩) (c33 : PySem.W.codeIn K cd33 "_law_struck" = true) (k33 : PySem.W.keepIn K (.ref f33) = true)
    {od34 an34 : Option Addr} {sl34 : Array (Option Value)} {oc34 kV34 dc34 pm34 cd34 ct34 : Value} {f34 : Addr}
    (a34 : PySem.W.nsIn K mainGlobals "_law_binding" = some (some (.ref f34))) (l34 : K.lookup f34 = some ⟨oc34, od34, .func (PySem.W.fnOf "_law_binding" "_law_binding" (defArgs s_l_binding) (defBody s_l_binding) (defScope s_l_binding) .none kV34 dc34 pm34 an34 cd34 ct34), sl34⟩) (c34 : PySem.W.codeIn K cd34 "_law_binding" = true) (k34 : PySem.W.keepIn K (.ref f34) = true)
    {od35 an35 : Option Addr} {sl35 : Array (Option Value)} {oc35 kV35 dc35 pm35 cd35 ct35 : Value} {f35 : Addr}
    (a35 : PySem.W.nsIn K mainGlobals "_law_asked" = some (some (.ref f35))) (l35 : K.lookup f35 = some ⟨oc35, od35, .func (PySem.W.fnOf "_law_asked" "_law_asked" (defArgs s_l_asked) (defBody s_l_asked) (defScope s_l_asked) .none kV35 dc35 pm35 an35 cd35 ct35), sl35⟩) (c35 : PySem.W.codeIn K cd35 "_law_asked" = true) (k35 : PySem.W.keepIn K (.ref f35) = true)
    {od36 an36 : Option Addr} {sl36 : Array (Option Value)} {oc36 kV36 dc36 pm36 cd36 ct36 : Value} {f36 : Addr}
    (a36 : PySem.W.nsIn K mainGlobals "law" = some (some (.ref f36))) (l36 : K.lookup f36 = some ⟨oc36, od36, .func (PySem.W.fnOf "law" "law" (defArgs s_p_law) (defBody s_p_law) (defScope s_p_law) .none kV36 dc36 pm36 an36 cd36 ct36), sl36⟩) (c36 : PySem.W.codeIn K cd36 "law" = true) (k36 : PySem.W.keepIn K (.ref f36) = true)
    (z_abs : PySem.W.nsIn K mainGlobals "abs" = some none)
    (z_all : PySem.W.nsIn K mainGlobals "all" = some none)
    (z_bool : PySem.W.nsIn K mainGlobals "bool" = some none)
    (z_enumerate : PySem.W.nsIn K mainGlobals "enumerate" = some none)
    (z_int : PySem.W.nsIn K mainGlobals "int" = some none)
    (z_isinstance : PySem.W.nsIn K mainGlobals "isinstance" = some none)
    (z_len : PySem.W.nsIn K mainGlobals "len" = some none)
    (z_list : PySem.W.nsIn K mainGlobals "list" = some none)
    (z_max : PySem.W.nsIn K mainGlobals "max" = some none)
    (z_min : PySem.W.nsIn K mainGlobals "min" = some none)
    (z_range : PySem.W.nsIn K mainGlobals "range" = some none)
    (z_repr : PySem.W.nsIn K mainGlobals "repr" = some none)
    (z_reversed : PySem.W.nsIn K mainGlobals "reversed" = some none)
    (z_str : PySem.W.nsIn K mainGlobals "str" = some none)
    (z_sum : PySem.W.nsIn K mainGlobals "sum" = some none)
    (z_tuple : PySem.W.nsIn K mainGlobals "tuple" = some none)
    (z_zip : PySem.W.nsIn K mainGlobals "zip" = some none)
    {t_AHEAD_OF_ALL : Tok} (z_AHEAD_OF_ALL : PySem.W.nsIn K mainGlobals "AHEAD_OF_ALL" = some (some (.int (-1) t_AHEAD_OF_ALL)))
    {t_MOST_HOURS : Tok} (z_MOST_HOURS : PySem.W.nsIn K mainGlobals "MOST_HOURS" = some (some (.int 48 t_MOST_HOURS)))
    {t_MOST_KETTLES : Tok} (z_MOST_KETTLES : PySem.W.nsIn K mainGlobals "MOST_KETTLES" = some (some (.int 8 t_MOST_KETTLES)))
    {t_MOST_LADLES : Tok} (z_MOST_LADLES : PySem.W.nsIn K mainGlobals "MOST_LADLES" = some (some (.int 1000000 t_MOST_LADLES)))
    : ∃ (fd : FuncData) (cs : List (Addr × Addr)), (∀ p ∈ cs, ∃ y ∈ (["is_day", "_are_ladles", "shows_plan", "_is_place_of_plan"] : List Str), PySem.W.tabIn K y = some p) ∧ (∀ p ∈ cs, K.lookup p.2 = none) ∧ (∀ (s : Shared) (v : Value), BindsTo s fd ⟨[v], []⟩ [("_law_script", v)]) ∧ ∀ base : Heap, K.In base → base.Ns mainGlobals mg → (∀ p ∈ cs, GxR.TabB base mg p.1 p.2) → FnG l.prog w K mg base 9 fa fd ["_law_script"] (sp_p_law K (cs.map (·.2))) := by
  have e := hfa.symm.trans (PySem.W.mg_of X G a36)
  cases e
  have F0 := fun_mk (st := s_p_places_in) l0 c0 k0
  have F1 := fun_mk (st := s_p_hours_in) l1 c1 k1
  have F2 := fun_mk (st := s_p_end_of) l2 c2 k2
  have F3 := fun_mk (st := s_p_bounds_at) l3 c3 k3
  have F4 := fun_mk (st := s_p_reached) l4 c4 k4
  have F5 := fun_mk (st := s_p_most_plan) l5 c5 k5
  have F6 := fun_mk (st := s_p_first_hour) l6 c6 k6
  have F7 := fun_mk (st := s_p_most_struck) l7 c7 k7
  have F8 := fun_mk (st := s_p_binding_places) l8 c8 k8
  have F9 := fun_mk (st := s_p__most_taken) l9 c9 k9
  have F10 := fun_mk (st := s_p__most) l10 c10 k10
  have F11 := fun_mk (st := s_p__tight_bound) l11 c11 k11
  have F12 := fun_mk (st := s_p__widened) l12 c12 k12
  have F13 := fun_mk (st := s_p_is_number) l13 c13 k13
  have F14 := fun_mk (st := s_p_is_number_within) l14 c14 k14
  have F15 := fun_mk (st := s_p_shows_most) l15 c15 k15
  have F16 := fun_mk (st := s_p__is_bound_of) l16 c16 k16
  have F17 := fun_mk (st := s_p_is_day) l17 c17 k17
  have F18 := fun_mk (st := s_p_shows_plan) l18 c18 k18
  have F19 := fun_mk (st := s_p__taken_by) l19 c19 k19
  have F20 := fun_mk (st := s_p__is_kettle) l20 c20 k20
  have F21 := fun_mk (st := s_p__are_ladles) l21 c21 k21
  have F22 := fun_mk (st := s_p__is_place_of_plan) l22 c22 k22
  have F23 := fun_mk (st := s_l_cell_at) l23 c23 k23
  have F24 := fun_mk (st := s_l_box) l24 c24 k24
  have F25 := fun_mk (st := s_l_take) l25 c25 k25
  have F26 := fun_mk (st := s_l_ladles) l26 c26 k26
  have F27 := fun_mk (st := s_l_day) l27 c27 k27
  have F28 := fun_mk (st := s_l_same) l28 c28 k28
  have F29 := fun_mk (st := s_l_is_number) l29 c29 k29
  have F30 := fun_mk (st := s_l_greatest) l30 c30 k30
  have F31 := fun_mk (st := s_l_is_paper) l31 c31 k31
  have F32 := fun_mk (st := s_l_put) l32 c32 k32
  have F33 := fun_mk (st := s_l_struck) l33 c33 k33
  have F34 := fun_mk (st := s_l_binding) l34 c34 k34
  have F35 := fun_mk (st := s_l_asked) l35 c35 k35
  have F36 := fun_mk (st := s_p_law) l36 c36 k36
  let T : All K mg := ⟨_, _, ⟨F0, PySem.W.mg_of X G a0, F0.binds (ps := ["day"]) fun _ _ _ _ _ _ us hl => match us, hl with | [_], _ => rfl⟩, _, _, ⟨F1, PySem.W.mg_of X G a1, F1.binds (ps := ["day"]) fun _ _ _ _ _ _ us hl => match us, hl with | [_], _ => rfl⟩, _, _, ⟨F2, PySem.W.mg_of X G a2, F2.binds (ps := ["day"]) fun _ _ _ _ _ _ us hl => match us, hl with | [_], _ => rfl⟩, _, _, ⟨F3, PySem.W.mg_of X G a3, F3.binds (ps := ["day", "place", "hour"]) fun _ _ _ _ _ _ us hl => match us, hl with | [_, _, _], _ => rfl⟩, _, _, ⟨F4, PySem.W.mg_of X G a4, F4.binds (ps := ["taken", "bound"]) fun _ _ _ _ _ _ us hl => match us, hl with | [_, _], _ => rfl⟩, _, _, ⟨F5, PySem.W.mg_of X G a5, F5.binds (ps := ["day"]) fun _ _ _ _ _ _ us hl => match us, hl with | [_], _ => rfl⟩, _, _, ⟨F6, PySem.W.mg_of X G a6, F6.binds (ps := ["day", "many"]) fun _ _ _ _ _ _ us hl => match us, hl with | [_, _], _ => rfl⟩, _, _, ⟨F7, PySem.W.mg_of X G a7, F7.binds (ps := ["day"]) fun _ _ _ _ _ _ us hl => match us, hl with | [_], _ => rfl⟩, _, _, ⟨F8, PySem.W.mg_of X G a8, F8.binds (ps := ["day"]) fun _ _ _ _ _ _ us hl => match us, hl with | [_], _ => rfl⟩, _, _, ⟨F9, PySem.W.mg_of X G a9, F9.binds (ps := ["day"]) fun _ _ _ _ _ _ us hl => match us, hl with | [_], _ => rfl⟩, _, _, ⟨F10, PySem.W.mg_of X G a10, F10.binds (ps := ["day"]) fun _ _ _ _ _ _ us hl => match us, hl with | [_], _ => rfl⟩, _, _, ⟨F11, PySem.W.mg_of X G a11, F11.binds (ps := ["day", "taken", "lead"]) fun _ _ _ _ _ _ us hl => match us, hl with | [_, _, _], _ => rfl⟩, _, _, ⟨F12, PySem.W.mg_of X G a12, F12.binds (ps := ["day", "place"]) fun _ _ _ _ _ _ us hl => match us, hl with | [_, _], _ => rfl⟩, _, _, ⟨F13, PySem.W.mg_of X G a13, F13.binds (ps := ["thing"]) fun _ _ _ _ _ _ us hl => match us, hl with | [_], _ => rfl⟩, _, _, ⟨F14, PySem.W.mg_of X G a14, F14.binds (ps := ["thing", "least", "most"]) fun _ _ _ _ _ _ us hl => match us, hl with | [_, _, _], _ => rfl⟩, _, _, ⟨F15, PySem.W.mg_of X G a15, F15.binds (ps := ["day", "many", "thing"]) fun _ _ _ _ _ _ us hl => match us, hl with | [_, _, _], _ => rfl⟩, _, _, ⟨F16, PySem.W.mg_of X G a16, F16.binds (ps := ["thing", "lead"]) fun _ _ _ _ _ _ us hl => match us, hl with | [_, _], _ => rfl⟩, _, _, ⟨F17, PySem.W.mg_of X G a17, F17.binds (ps := ["thing"]) fun _ _ _ _ _ _ us hl => match us, hl with | [_], _ => rfl⟩, _, _, ⟨F18, PySem.W.mg_of X G a18, F18.binds (ps := ["day", "thing"]) fun _ _ _ _ _ _ us hl => match us, hl with | [_, _], _ => rfl⟩, _, _, ⟨F19, PySem.W.mg_of X G a19, F19.binds (ps := ["plan"]) fun _ _ _ _ _ _ us hl => match us, hl with | [_], _ => rfl⟩, _, _, ⟨F20, PySem.W.mg_of X G a20, F20.binds (ps := ["thing", "hours"]) fun _ _ _ _ _ _ us hl => match us, hl with | [_, _], _ => rfl⟩, _, _, ⟨F21, PySem.W.mg_of X G a21, F21.binds (ps := ["thing", "hours"]) fun _ _ _ _ _ _ us hl => match us, hl with | [_, _], _ => rfl⟩, _, _, ⟨F22, PySem.W.mg_of X G a22, F22.binds (ps := ["thing", "hours"]) fun _ _ _ _ _ _ us hl => match us, hl with | [_, _], _ => rfl⟩, _, _, ⟨F23, PySem.W.mg_of X G a23, F23.binds (ps := ["_law_script", "_law_k"]) fun _ _ _ _ _ _ us hl => match us, hl with | [_, _], _ => rfl⟩, _, _, ⟨F24, PySem.W.mg_of X G a24, F24.binds (ps := ["_law_script", "_law_k"]) fun _ _ _ _ _ _ us hl => match us, hl with | [_, _], _ => rfl⟩, _, _, ⟨F25, PySem.W.mg_of X G a25, F25.binds (ps := ["_law_box_here", "_law_many"]) fun _ _ _ _ _ _ us hl => match us, hl with | [_, _], _ => rfl⟩, _, _, ⟨F26, PySem.W.mg_of X G a26, F26.binds (ps := ["_law_box_here", "_law_hours", "_law_wide"]) fun _ _ _ _ _ _ us hl => match us, hl with | [_, _, _], _ => rfl⟩, _, _, ⟨F27, PySem.W.mg_of X G a27, F27.binds (ps := ["_law_box_here", "_law_hours", "_law_pots", "_law_wide"]) fun _ _ _ _ _ _ us hl => match us, hl with | [_, _, _, _], _ => rfl⟩, _, _, ⟨F28, PySem.W.mg_of X G a28, F28.binds (ps := ["_law_found", "_law_due"]) fun _ _ _ _ _ _ us hl => match us, hl with | [_, _], _ => rfl⟩, _, _, ⟨F29, PySem.W.mg_of X G a29, F29.binds (ps := ["_law_thing"]) fun _ _ _ _ _ _ us hl => match us, hl with | [_], _ => rfl⟩, _, _, ⟨F30, PySem.W.mg_of X G a30, F30.binds (ps := ["_law_day_here"]) fun _ _ _ _ _ _ us hl => match us, hl with | [_], _ => rfl⟩, _, _, ⟨F31, PySem.W.mg_of X G a31, F31.binds (ps := ["_law_day_here", "_law_many", "_law_thing"]) fun _ _ _ _ _ _ us hl => match us, hl with | [_, _, _], _ => rfl⟩, _, _, ⟨F32, PySem.W.mg_of X G a32, F32.binds (ps := ["_law_box_here", "_law_day_here"]) fun _ _ _ _ _ _ us hl => match us, hl with | [_, _], _ => rfl⟩, _, _, ⟨F33, PySem.W.mg_of X G a33, F33.binds (ps := ["_law_day_here"]) fun _ _ _ _ _ _ us hl => match us, hl with | [_], _ => rfl⟩, _, _, ⟨F34, PySem.W.mg_of X G a34, F34.binds (ps := ["_law_day_here"]) fun _ _ _ _ _ _ us hl => match us, hl with | [_], _ => rfl⟩, _, _, ⟨F35, PySem.W.mg_of X G a35, F35.binds (ps := ["_law_which", "_law_day_here"]) fun _ _ _ _ _ _ us hl => match us, hl with | [_, _], _ => rfl⟩, _, _, ⟨F36, PySem.W.mg_of X G a36, F36.binds (ps := ["_law_script"]) fun _ _ _ _ _ _ us hl => match us, hl with | [_], _ => rfl⟩, PySem.W.mg_none_of X G z_abs, PySem.W.mg_none_of X G z_all, PySem.W.mg_none_of X G z_bool, PySem.W.mg_none_of X G z_enumerate, PySem.W.mg_none_of X G z_int, PySem.W.mg_none_of X G z_isinstance, PySem.W.mg_none_of X G z_len, PySem.W.mg_none_of X G z_list, PySem.W.mg_none_of X G z_max, PySem.W.mg_none_of X G z_min, PySem.W.mg_none_of X G z_range, PySem.W.mg_none_of X G z_repr, PySem.W.mg_none_of X G z_reversed, PySem.W.mg_none_of X G z_str, PySem.W.mg_none_of X G z_sum, PySem.W.mg_none_of X G z_tuple, PySem.W.mg_none_of X G z_zip, _, PySem.W.mg_of X G z_AHEAD_OF_ALL, _, PySem.W.mg_of X G z_MOST_HOURS, _, PySem.W.mg_of X G z_MOST_KETTLES, _, PySem.W.mg_of X G z_MOST_LADLES, C17, P17, funC_mk (st := s_p_is_day) l17 c17, C21, P21, funC_mk (st := s_p__are_ladles) l21 c21, C18, P18, funC_mk (st := s_p_shows_plan) l18 c18, C22, P22, funC_mk (st := s_p__is_place_of_plan) l22 c22⟩
  refine ⟨T.fd_p_law, [(C17, P17), (C21, P21), (C18, P18), (C22, P22)], ((List.forall_mem_cons (p := fun (p : Addr × Addr) => ∃ y ∈ (["is_day", "_are_ladles", "shows_plan", "_is_place_of_plan"] : List Str), PySem.W.tabIn K y = some p)).mpr ⟨⟨"is_day", by decide, tabIn_of a17 l17 rfl q17 p17⟩, ((List.forall_mem_cons (p := fun (p : Addr × Addr) => ∃ y ∈ (["is_day", "_are_ladles", "shows_plan", "_is_place_of_plan"] : List Str), PySem.W.tabIn K y = some p)).mpr ⟨⟨"_are_ladles", by decide, tabIn_of a21 l21 rfl q21 p21⟩, ((List.forall_mem_cons (p := fun (p : Addr × Addr) => ∃ y ∈ (["is_day", "_are_ladles", "shows_plan", "_is_place_of_plan"] : List Str), PySem.W.tabIn K y = some p)).mpr ⟨⟨"shows_plan", by decide, tabIn_of a18 l18 rfl q18 p18⟩, ((List.forall_mem_cons (p := fun (p : Addr × Addr) => ∃ y ∈ (["is_day", "_are_ladles", "shows_plan", "_is_place_of_plan"] : List Str), PySem.W.tabIn K y = some p)).mpr ⟨⟨"_is_place_of_plan", by decide, tabIn_of a22 l22 rfl q22 p22⟩, fun p hp => absurd hp List.not_mem_nil⟩)⟩)⟩)⟩), ((List.forall_mem_cons (p := fun (p : Addr × Addr) => K.lookup p.2 = none)).mpr ⟨n17, ((List.forall_mem_cons (p := fun (p : Addr × Addr) => K.lookup p.2 = none)).mpr ⟨n21, ((List.forall_mem_cons (p := fun (p : Addr × Addr) => K.lookup p.2 = none)).mpr ⟨n18, ((List.forall_mem_cons (p := fun (p : Addr × Addr) => K.lookup p.2 = none)).mpr ⟨n22, fun p hp => absurd hp List.not_mem_nil⟩)⟩)⟩)⟩), fun s v => .of_eq rfl, fun base _ _ B => ?_⟩
  have B : Tabs T base := ⟨B (C17, P17) (by simp), B (C21, P21) (by simp), B (C18, P18) (by simp), B (C22, P22) (by simp)⟩
  exact ok_p_law T B
end KR
open PySem PySem.W PyProof.Rows
set_option maxRecDepth 100000 in
set_option maxHeartbeats 0 in
theorem PySem.Challenge.cw_kettlerow_k69_days_again_and_shared_holds : PySem.Challenge.rw_kettlerow_k69_days_again_and_shared.Holds := by
  w_on; o_law; k_head; (case hw => w_witness2)
  k_fill
  refine KR.walk_ofT (l := PySem.Challenge.rw_kettlerow_k69_days_again_and_shared) (n := 63) (k := 9) (x := "_law_script") (sp := fun w Ps => KR.sp_p_law _ Ps) ["is_day", "_are_ladles", "shows_plan", "_is_place_of_plan"] rfl (by decide) rfl ⟨rfl, by decide, by decide⟩ (fun w h Y => PySem.W.kIn_of Y) (by decide +kernel) ?F (fun _ _ _ a ns hl hT hS => ⟨a, ns, rfl, hS, hl, hT, fun _ => rfl⟩)
  case F =>
    intro w mg fa h KX G hmg
    refine' KR.all_mk KX G hmg ?a0 ?l0 ?c0 ?k0 ?a1 ?l1 ?c1 ?k1 ?a2 ?l2 ?c2 ?k2 ?a3 ?l3 ?c3 ?k3 ?a4 ?l4 ?c4 ?k4 ?a5 ?l5 ?c5 ?k5 ?a6 ?l6 ?c6 ?k6 ?a7 ?l7 ?c7 ?k7 ?a8 ?l8 ?c8 ?k8 ?a9 ?l9 ?c9 ?k9 ?a10 ?l10 ?c10 ?k10 ?a11 ?l11 ?c11 ?k11 ?a12 ?l12 ?c12 ?k12 ?a13 ?l13 ?c13 ?k13 ?a14 ?l14 ?c14 ?k14 ?a15 ?l15 ?c15 ?k15 ?a16 ?l16 ?c16 ?k16 ?a17 ?l17 ?c17 ?k17 ?q17 ?p17 ?n17 ?a18 ?l18 ?c18 ?k18 ?q18 ?p18 ?n18 ?a19 ?l19 ?c19 ?k19 ?a20 ?l20 ?c20 ?k20 ?a21 ?l21 ?c21 ?k21 ?q21 ?p21 ?n21 ?a22 ?l22 ?c22 ?k22 ?q22 ?p22 ?n22 ?a23 ?l23 ?c23 ?k23 ?a24 ?l24 ?c24 ?k24 ?a25 ?l25 ?c25 ?k25 ?a26 ?l26 ?c26 ?k26 ?a27 ?l27 ?c27 ?k27 ?a28 ?l28 ?c28 ?k28 ?a29 ?l29 ?c29 ?k29 ?a30 ?l30 ?c30 ?k30 ?a31 ?l31 ?c31 ?k31 ?a32 ?l32 ?c32 ?k32 ?a33 ?l33 ?c33 ?k33 ?a34 ?l34 ?c34 ?k34 ?a35 ?l35 ?c35 ?k35 ?a36 ?l36 ?c36 ?k36 ?z_abs ?z_all ?z_bool ?z_enumerate ?z_int ?z_isinstance ?z_len ?z_list ?z_max ?z_min ?z_range ?z_repr ?z_reversed ?z_str ?z_sum ?z_tuple ?z_zip ?z_AHEAD_OF_ALL ?z_MOST_HOURS ?z_MOST_KETTLES ?z_MOST_LADLES
    (case a0 => k_is)
    (case l0 => k_is)
    (case c0 => k_is)
    (case k0 => k_is)
    (case a1 => k_is)
    (case l1 => k_is)
    (case c1 => k_is)
    (case k1 => k_is)
    (case a2 => k_is)
    (case l2 => k_is)
    (case c2 => k_is)
    (case k2 => k_is)
    (case a3 => k_is)
    (case l3 => k_is)
    (case c3 => k_is)
    (case k3 => k_is)
    (case a4 => k_is)
    (case l4 => k_is)
    (case c4 => k_is)
    (case k4 => k_is)
    (case a5 => k_is)
    (case l5 => k_is)
    (case c5 => k_is)
    (case k5 => k_is)
    (case a6 => k_is)
    (case l6 => k_is)
    (case c6 => k_is)
    (case k6 => k_is)
    (case a7 => k_is)
    (case l7 => k_is)
    (case c7 => k_is)
    (case k7 => k_is)
    (case a8 => k_is)
    (case l8 => k_is)
    (case c8 => k_is)
    (case k8 => k_is)
    (case a9 => k_is)
    (case l9 => k_is)
    (case c9 => k_is)
    (case k9 => k_is)
    (case a10 => k_is)
    (case l10 => k_is)
    (case c10 => k_is)
    (case k10 => k_is)
    (case a11 => k_is)
    (case l11 => k_is)
    (case c11 => k_is)
    (case k11 => k_is)
    (case a12 => k_is)
    (case l12 => k_is)
    (case c12 => k_is)
    (case k12 => k_is)
    (case a13 => k_is)
    (case l13 => k_is)
    (case c13 => k_is)
    (case k13 => k_is)
    (case a14 => k_is)
    (case l14 => k_is)
    (case c14 => k_is)
    (case k14 => k_is)
    (case a15 => k_is)
    (case l15 => k_is)
    (case c15 => k_is)
    (case k15 => k_is)
    (case a16 => k_is)
    (case l16 => k_is)
    (case c16 => k_is)
    (case k16 => k_is)
    (case a17 => k_is)
    (case l17 => k_is)
    (case c17 => k_is)
    (case k17 => k_is)
    (case q17 => k_is)
    (case p17 => first | rfl | (with_unfolding_all rfl))
    (case n17 => first | rfl | (with_unfolding_all rfl))
    (case a18 => k_is)
    (case l18 => k_is)
    (case c18 => k_is)
    (case k18 => k_is)
    (case q18 => k_is)
    (case p18 => first | rfl | (with_unfolding_all rfl))
    (case n18 => first | rfl | (with_unfolding_all rfl))
    (case a19 => k_is)
    (case l19 => k_is)
    (case c19 => k_is)
    (case k19 => k_is)
    (case a20 => k_is)
    (case l20 => k_is)
    (case c20 => k_is)
    (case k20 => k_is)
    (case a21 => k_is)
    (case l21 => k_is)
    (case c21 => k_is)
    (case k21 => k_is)
    (case q21 => k_is)
    (case p21 => first | rfl | (with_unfolding_all rfl))
    (case n21 => first | rfl | (with_unfolding_all rfl))
    (case a22 => k_is)
    (case l22 => k_is)
    (case c22 => k_is)
    (case k22 => k_is)
    (case q22 => k_is)
    (case p22 => first | rfl | (with_unfolding_all rfl))
    (case n22 => first | rfl | (with_unfolding_all rfl))
    (case a23 => k_is)
    (case l23 => k_is)
    (case c23 => k_is)
    (case k23 => k_is)
    (case a24 => k_is)
    (case l24 => k_is)
    (case c24 => k_is)
    (case k24 => k_is)
    (case a25 => k_is)
    (case l25 => k_is)
    (case c25 => k_is)
    (case k25 => k_is)
    (case a26 => k_is)
    (case l26 => k_is)
    (case c26 => k_is)
    (case k26 => k_is)
    (case a27 => k_is)
    (case l27 => k_is)
    (case c27 => k_is)
    (case k27 => k_is)
    (case a28 => k_is)
    (case l28 => k_is)
    (case c28 => k_is)
    (case k28 => k_is)
    (case a29 => k_is)
    (case l29 => k_is)
    (case c29 => k_is)
    (case k29 => k_is)
    (case a30 => k_is)
    (case l30 => k_is)
    (case c30 => k_is)
    (case k30 => k_is)
    (case a31 => k_is)
    (case l31 => k_is)
    (case c31 => k_is)
    (case k31 => k_is)
    (case a32 => k_is)
    (case l32 => k_is)
    (case c32 => k_is)
    (case k32 => k_is)
    (case a33 => k_is)
    (case l33 => k_is)
    (case c33 => k_is)
    (case k33 => k_is)
    (case a34 => k_is)
    (case l34 => k_is)
    (case c34 => k_is)
    (case k34 => k_is)
    (case a35 => k_is)
    (case l35 => k_is)
    (case c35 => k_is)
    (case k35 => k_is)
    (case a36 => k_is)
    (case l36 => k_is)
    (case c36 => k_is)
    (case k36 => k_is)
    (case z_abs => k_is)
    (case z_all => k_is)
    (case z_bool => k_is)
    (case z_enumerate => k_is)
    (case z_int => k_is)
    (case z_isinstance => k_is)
    (case z_len => k_is)
    (case z_list => k_is)
    (case z_max => k_is)
    (case z_min => k_is)
    (case z_range => k_is)
    (case z_repr => k_is)
    (case z_reversed => k_is)
    (case z_str => k_is)
    (case z_sum => k_is)
    (case z_tuple => k_is)
    (case z_zip => k_is)
    (case z_AHEAD_OF_ALL => k_is)
    (case z_MOST_HOURS => k_is)
    (case z_MOST_KETTLES => k_is)
    (case z_MOST_LADLES => k_is)
#print axioms PySem.Challenge.cw_kettlerow_k69_days_again_and_shared_holds
