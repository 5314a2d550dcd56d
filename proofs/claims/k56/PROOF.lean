import PyProof.Rows.All
import Wide.All
import OpenK.AllK
import Wide.FinOn
import HandS.ForMost
import HandS.Gcd
import HandS.Wide
import HandS.IsInst
import HandS.Zip
import HandS.More
import HandS.Style
import HandS.Rev
import HandS.MapJoin
import HandS.StrMore
import KE.GoesEnum
import KE.GoesMore
import KE.GoesZip
import HandS.Zip
import HandS.Walk
import HandS.WideBits
import KE.KTypeName
import OpenK.KCls
import KE.KExcIs
import HandS.ExcInit
import HandS.ExcField
import HandS.ExcIs
import HandS.WordsExc
import HandS.ExcOwn
import PySem.Challenge.RW_kettlerow_k56_kinds_that_lose_nothing
set_option Elab.async false
set_option linter.all false
set_option maxRecDepth 100000
set_option maxHeartbeats 4000000
/-! ### own rules and words, of no law -/
namespace KR
open PySem PySem.Spec PyProof.Rows L2

/-- * of any two ints whose product is told to fit -/
theorem op_mulX {X : Cx} : OpR X (binaryOp .Mult) (rI IntMulOk fun i j => .int (i * j)) := opI fun _ _ _ _ _ _ _ hc q => mul_int q hc
/-- // by any divisor but 0, to some three thousand figures -/
def DivOk (_ j : Int) : Prop := j ≠ 0 ∧ j.natAbs.log2 < 9000
theorem op_fdivX {X : Cx} : OpR X (binaryOp .FloorDiv) (rI DivOk fun i j => .int (i.fdiv j)) := opI fun _ _ _ _ _ _ _ hc q => floordiv_int hc.1 q (.inl (PyProof.noPylong_of_log2 hc.2))
theorem mulL {i j : Int} (h : i.natAbs < 2 ^ 64) : IntMulOk i j := CMul.ok (.inl ⟨by omega, by omega⟩)
theorem mulR {i j : Int} (h : j.natAbs < 2 ^ 64) : IntMulOk i j := CMul.ok (.inr ⟨by omega, by omega⟩)
theorem mulW {i j : Int} {a b : Nat} (ha : i.natAbs < 2 ^ a) (hb : j.natAbs < 2 ^ b) (h0 : 0 < a) (h1 : 0 < b) (h : a + b ≤ 1000000) : IntMulOk i j := (wide_mul ha hb h0 h1 h).ok
theorem divOk {i j : Int} {b : Nat} (h : j ≠ 0) (hb : j.natAbs < 2 ^ b) (h0 : 0 < b) (h9 : b ≤ 9000) : DivOk i j := ⟨h, Nat.lt_of_lt_of_le (PySem.Flt.log2_lt_of h0 hb) h9⟩
theorem add_lt {i j : Int} {a : Nat} (ha : i.natAbs < 2 ^ a) (hb : j.natAbs < 2 ^ a) : (i + j).natAbs < 2 ^ (a + 1) := by
  rw [Nat.pow_succ]
  omega
theorem sub_lt {i j : Int} {a : Nat} (ha : i.natAbs < 2 ^ a) (hb : j.natAbs < 2 ^ a) : (i - j).natAbs < 2 ^ (a + 1) := by
  rw [Nat.pow_succ]
  omega
theorem lt_up {i : Int} {a b : Nat} (ha : i.natAbs < 2 ^ a) (h : a ≤ b) : i.natAbs < 2 ^ b := Nat.lt_of_lt_of_le ha (Nat.pow_le_pow_right (by decide) h)
theorem b40 {n : Nat} (h : n < 10 ^ 40) : n < 2 ^ 200 := Nat.lt_trans h (by decide)
theorem b41 {n : Nat} (h : n ≤ 10 ^ 41) : n < 2 ^ 200 := Nat.lt_of_le_of_lt h (by decide)
theorem bit_lt {c : Prop} [Decidable c] : (if c then (1 : Int) else 0).natAbs < 2 ^ 64 := by split <;> decide
theorem bit_nn {c : Prop} [Decidable c] : (0 : Int) ≤ (if c then (1 : Int) else 0) := by split <;> decide
theorem bit_or {c : Prop} [Decidable c] : (if c then (1 : Int) else 0) = 0 ∨ (if c then (1 : Int) else 0) = 1 := by split <;> simp
theorem small {n : Nat} (h : n ≤ 100000) : n ≤ sizeLine := Nat.le_trans h (by decide)
theorem small' {n : Nat} (h : n < 100000) : n < sizeLine := Nat.lt_of_lt_of_le h (by decide)

/-! the heap but for one object that is written -/
/-- all that was tracked but p is as it was -/
def Fr (p : Addr) (H H' : Hp) : Prop := ∀ b o, b ≠ p → H b = some o → H' b = some o
theorem Fr.refl {p : Addr} {H : Hp} : Fr p H H := fun _ _ _ h => h
theorem Fr.trans {p : Addr} {H H1 H2 : Hp} (a : Fr p H H1) (b : Fr p H1 H2) : Fr p H H2 := fun c o n h => b c o n (a c o n h)
theorem Fr.of {p : Addr} {H H1 : Hp} (a : Same H H1) : Fr p H H1 := fun c o _ h => a c o h
theorem same_new {H : Hp} {p : Addr} {o : HO} (h : H p = none) : Same H (upd H p o) := fun b x e => by
  rw [upd_ne (ne_of_none e h)]
  exact e
theorem Fr.new {p q : Addr} {H H1 : Hp} {o : HO} (a : Fr p H H1) (h : H1 q = none) : Fr p H (upd H1 q o) := a.trans (.of (same_new h))
theorem Fr.put {p : Addr} {H H1 : Hp} {o : HO} (a : Fr p H H1) : Fr p H (upd H1 p o) := fun c x n h => by
  rw [upd_ne n]
  exact a c x n h
theorem Fr.put' {p q : Addr} {H H1 : Hp} {o : HO} (a : Fr p H H1) (h : H q = none) : Fr p H (upd H1 q o) := fun c x n e => by
  rw [upd_ne (ne_of_none e h)]
  exact a c x n e
/-- what is new there was new ahead of it, if the written one stands -/
theorem Fr.free {p q : Addr} {H H1 : Hp} {o : HO} (a : Fr p H H1) (hp : H1 p = some o) (h : H1 q = none) : H q = none := by
  cases e : H q with
  | none => rfl
  | some u =>
    have n : q ≠ p := fun z => by
      rw [z, hp] at h
      cases h
    rw [a q u n e] at h
    cases h

/-! a reading may be asked for more than is wanted; displays whose new heap is a letter -/
def clA (t : TA) : TA := fun σ H Q => ∃ Q0 : List V → Hp → Prop, (∀ xs H1, Q0 xs H1 → Q xs H1) ∧ t σ H Q0
theorem pa_cl {X : Cx} {es : List Expr} {t : TA} (h : PA X es t) : PA X es (clA t) := ⟨fun pos pins s σ H Q I ⟨Q0, m, q⟩ =>
  thn (h.run pos pins s σ H Q0 I q) fun us s1 ⟨xs, H1, I1, r, z⟩ => ⟨xs, H1, I1, r, m _ _ z⟩⟩
def tTupI (t : TA) : TE := fun σ H Q => t σ H fun xs H1 => Nat.ble xs.length 100000 = true ∧ ∀ p H', Same H1 H' → H1 p = none → H' p = some (.tup xs) → Q (.ref p) H'
def tLstI (t : TA) : TE := fun σ H Q => t σ H fun xs H1 => Nat.ble xs.length 100000 = true ∧ ∀ p H', Same H1 H' → H1 p = none → H' p = some (.lst xs) → Q (.ref p) H'
theorem pe_tupI {X : Cx} {es : List Expr} {k : Nat} {pos : Pos} {t : TA} (h : PA X es t) : PE X (.Tuple es k pos) (tTupI t) := ⟨fun pins s σ H Q I q =>
  (pe_tup (pa_cl h)).run pins s σ H Q I ⟨_, fun _ _ ⟨z, w⟩ => ⟨small (Nat.le_of_ble_eq_true z), fun p hp => w p _ (same_new hp) hp upd_same⟩, q⟩⟩
theorem pe_lstI {X : Cx} {es : List Expr} {pos : Pos} {t : TA} (h : PA X es t) : PE X (.List es pos) (tLstI t) := ⟨fun pins s σ H Q I q =>
  (pe_lst (pa_cl h)).run pins s σ H Q I ⟨_, fun _ _ ⟨z, w⟩ => ⟨small (Nat.le_of_ble_eq_true z), fun p hp => w p _ (same_new hp) hp upd_same⟩, q⟩⟩
/-- ways that join behind a statement: R is what they come to -/
def tJ (t : TS) : TS := fun D σ H => ∃ R : L2.St → Hp → Prop, (∀ σ' H', R σ' H' → D.nx σ' H') ∧ t { D with nx := R } σ H
theorem ps_J {X : Cx} {st : Stmt} {t : TS} (h : PS X st t) : PS X st (tJ t) := ⟨fun pins s σ H D I ⟨R, m, q⟩ => thn (h.run pins s σ H { D with nx := R } I q) fun f s1 z =>
  match f, z with
  | .next, ⟨σ', H', J, r⟩ => ⟨σ', H', J, m _ _ r⟩
  | .ret _, z => z
  | .brk, z => z
  | .cont, z => z⟩
theorem ite_bT {b : Bool} {A B : Prop} (h : b = true) (q : A) : if b = true then A else B := by
  rw [if_pos h]
  exact q
theorem ite_bF {b : Bool} {A B : Prop} (h : b = false) (q : B) : if b = true then A else B := by
  rw [if_neg (by rw [h]; exact Bool.false_ne_true)]
  exact q
theorem ite_iT {i j : Int} {A B : Prop} (h : i = j) (q : A) : if decide (V.int i = V.int j) = true then A else B := by
  rw [if_pos (decide_eq_true (congrArg V.int h))]
  exact q
theorem ite_iF {i j : Int} {A B : Prop} (h : i ≠ j) (q : B) : if decide (V.int i = V.int j) = true then A else B := by
  rw [if_neg (by rw [decide_eq_false fun z => h (V.int.inj z)]; exact Bool.false_ne_true)]
  exact q
theorem ite_nT {i j : Int} {A B : Prop} (h : i ≠ j) (q : A) : if (!decide (V.int i = V.int j)) = true then A else B := by
  rw [if_pos (by rw [decide_eq_false fun z => h (V.int.inj z)] <;> rfl)]
  exact q
theorem ite_nF {i j : Int} {A B : Prop} (h : i = j) (q : B) : if (!decide (V.int i = V.int j)) = true then A else B := by
  rw [if_neg (by rw [decide_eq_true (congrArg V.int h)]; exact Bool.false_ne_true)]
  exact q
/-- the law's box of draws: n is more than have been mixed -/
def BoxAt (H : Hp) (p : Addr) (n : Nat) : Prop := ∃ a b c : Int, H p = some (.lst [.int a, .int b, .int c]) ∧ 0 ≤ a ∧ 0 ≤ b ∧ b < 2 ^ 62 ∧ 0 ≤ c ∧ c ≤ (n : Int)
theorem BoxAt.mono {H : Hp} {p : Addr} {n m : Nat} (h : BoxAt H p n) (le : n ≤ m) : BoxAt H p m := by
  obtain ⟨a, b, c, h1, h2, h3, h4, h5, h6⟩ := h
  exact ⟨a, b, c, h1, h2, h3, h4, h5, by omega⟩
theorem BoxAt.same {H H' : Hp} {p : Addr} {n : Nat} (h : BoxAt H p n) (s : Same H H') : BoxAt H' p n := by
  obtain ⟨a, b, c, h1, h2⟩ := h
  exact ⟨a, b, c, s _ _ h1, h2⟩
theorem BoxAt.ne {H : Hp} {p q : Addr} {n : Nat} {xs : List V} (h : BoxAt H p n) (t : H q = some (.tup xs)) : q ≠ p := by
  obtain ⟨a, b, c, h1, _⟩ := h
  exact ne_of t h1 (by intro z; cases z)
theorem BoxAt.some {H : Hp} {p : Addr} {n : Nat} (h : BoxAt H p n) : ∃ o, H p = some o := by
  obtain ⟨a, b, c, h1, _⟩ := h
  exact ⟨_, h1⟩
/-- a tuple stays -/
theorem Fr.tup {p q : Addr} {H H1 : Hp} {n : Nat} {xs : List V} (a : Fr p H H1) (hb : BoxAt H p n) (t : H q = some (.tup xs)) : H1 q = some (.tup xs) := a q _ (hb.ne t) t
/-- a pair of ints -/
def PrAt (H : Hp) (q : Addr) (t b : Int) : Prop := H q = some (.tup [.int t, .int b])
theorem at0 {x : V} {xs : List V} : atI (x :: xs) 0 = some x := atI_nat (j := 0) rfl
theorem at1 {x y : V} {xs : List V} : atI (x :: y :: xs) 1 = some y := atI_nat (j := 1) rfl
theorem at2 {x y z : V} {xs : List V} : atI (x :: y :: z :: xs) 2 = some z := atI_nat (j := 2) rfl

/-! fractions -/
/-- the law's own lowest terms -/
def low (t b : Int) : Int × Int := (t / (Nat.gcd t.natAbs b.natAbs : Nat) * (if b < 0 then -1 else 1), (b.natAbs : Int) / (Nat.gcd t.natAbs b.natAbs : Nat))
structure IsLow (t b : Int) : Prop where
  pos : 0 < b
  cop : Nat.gcd t.natAbs b.natAbs = 1
theorem dvd_mul {a b : Int} (h : a ∣ b) : a * (b / a) = b := Int.mul_ediv_cancel' h
theorem low_facts (t b : Int) (hb : b ≠ 0) : IsLow (low t b).1 (low t b).2 ∧ t * (low t b).2 = (low t b).1 * b := by
  have hg : 0 < Nat.gcd t.natAbs b.natAbs := Nat.gcd_pos_of_pos_right _ (by omega)
  generalize e : Nat.gcd t.natAbs b.natAbs = g at hg
  have d1 : g ∣ t.natAbs := e ▸ Nat.gcd_dvd_left _ _
  have d2 : g ∣ b.natAbs := e ▸ Nat.gcd_dvd_right _ _
  obtain ⟨x, hx⟩ := d1
  obtain ⟨y, hy⟩ := d2
  have hc : Nat.gcd x y = 1 := by
    rw [hx, hy, Nat.gcd_mul_left] at e
    exact Nat.eq_of_mul_eq_mul_left hg (by rw [e, Nat.mul_one])
  have hy0 : 0 < y := by
    rcases Nat.eq_zero_or_pos y with z | z
    · rw [z, Nat.mul_zero] at hy
      omega
    · exact z
  have h2 : (low t b).2 = (y : Int) := by
    show (b.natAbs : Int) / (Nat.gcd t.natAbs b.natAbs : Nat) = (y : Int)
    rw [e, hy, Int.natCast_mul]
    exact Int.mul_ediv_cancel_left _ (by omega)
  have ht : t = (g : Int) * x ∨ t = -((g : Int) * x) := by
    have q : (t.natAbs : Int) = (g : Int) * x := by rw [hx, Int.natCast_mul]
    omega
  have hbb : (b.natAbs : Int) = (g : Int) * y := by rw [hy, Int.natCast_mul]
  have h1 : (low t b).1 = (t / (g : Int)) * (if b < 0 then -1 else 1) := by
    show t / (Nat.gcd t.natAbs b.natAbs : Nat) * (if b < 0 then -1 else 1) = _
    rw [e]
  have h3 : t / (g : Int) = x ∨ t / (g : Int) = -(x : Int) := by
    rcases ht with q | q
    · left
      rw [q]
      exact Int.mul_ediv_cancel_left _ (by omega)
    · right
      rw [q, ← Int.mul_neg]
      exact Int.mul_ediv_cancel_left _ (by omega)
  have h4 : (g : Int) * (t / (g : Int)) = t := dvd_mul (by
    rcases ht with q | q
    · exact ⟨x, q⟩
    · exact ⟨-x, by rw [q, Int.mul_neg]⟩)
  refine ⟨⟨by rw [h2]; omega, ?_⟩, ?_⟩
  · rw [h2, h1]
    have q : ((t / (g : Int)) * (if b < 0 then -1 else 1)).natAbs = x := by
      split <;> rcases h3 with z | z <;> rw [z] <;> omega
    rw [q]
    exact hc
  · rw [h2, h1]
    by_cases c : b < 0
    · rw [if_pos c]
      have q : b = -((g : Int) * y) := by omega
      grind
    · rw [if_neg c]
      have q : b = (g : Int) * y := by omega
      grind
theorem low_pos (t b : Int) (hb : b ≠ 0) : 0 < (low t b).2 := (low_facts t b hb).1.pos
/-- two fractions in lowest terms that are alike across are one -/
theorem isLow_uniq {x y u v : Int} (h : IsLow x y) (k : IsLow u v) (e : x * v = u * y) : x = u ∧ y = v := by
  have h1 := h.pos
  have k1 := k.pos
  have e1 : x.natAbs * v.natAbs = u.natAbs * y.natAbs := by rw [← Int.natAbs_mul, ← Int.natAbs_mul, e]
  have d1 : y.natAbs ∣ v.natAbs := (Nat.Coprime.symm h.cop).dvd_of_dvd_mul_left (by rw [e1]; exact Nat.dvd_mul_left _ _)
  have d2 : v.natAbs ∣ y.natAbs := (Nat.Coprime.symm k.cop).dvd_of_dvd_mul_left (by rw [← e1]; exact Nat.dvd_mul_left _ _)
  have e2 : y.natAbs = v.natAbs := Nat.dvd_antisymm d1 d2
  have e3 : y = v := by omega
  subst e3
  exact ⟨Int.eq_of_mul_eq_mul_right (by omega) e, rfl⟩
theorem low_eq {t b x y : Int} (hb : b ≠ 0) (h : IsLow x y) (e : t * y = x * b) : low t b = (x, y) := by
  obtain ⟨h1, h2⟩ := low_facts t b hb
  have q : (low t b).1 * y = x * (low t b).2 := by
    have z : b * ((low t b).1 * y) = b * (x * (low t b).2) := by grind
    exact Int.eq_of_mul_eq_mul_left hb z
  obtain ⟨a1, a2⟩ := isLow_uniq h1 h q
  exact Prod.ext a1 a2
theorem low_id {t b : Int} (h : IsLow t b) : low t b = (t, b) := low_eq (by have := h.pos; omega) h rfl
theorem low_le (t b : Int) : (low t b).1.natAbs ≤ t.natAbs ∧ (low t b).2.natAbs ≤ b.natAbs := by
  generalize e : Nat.gcd t.natAbs b.natAbs = g
  have h1 : (low t b).1 = (t / (g : Int)) * (if b < 0 then -1 else 1) := by
    show t / (Nat.gcd t.natAbs b.natAbs : Nat) * (if b < 0 then -1 else 1) = _
    rw [e]
  have h2 : (low t b).2 = (b.natAbs : Int) / (g : Int) := by
    show (b.natAbs : Int) / (Nat.gcd t.natAbs b.natAbs : Nat) = _
    rw [e]
  have d1 : (g : Int) ∣ t := e ▸ Int.ofNat_dvd_left.mpr (Nat.gcd_dvd_left _ _)
  constructor
  · rw [h1]
    have q : (t / (g : Int) * (if b < 0 then -1 else 1)).natAbs = (t / (g : Int)).natAbs := by
      split <;> omega
    rw [q]
    obtain ⟨z, rfl⟩ := d1
    by_cases c : (g : Int) = 0
    · rw [c, Int.zero_mul, Int.zero_ediv]
      omega
    · rw [Int.mul_ediv_cancel_left _ c, Int.natAbs_mul]
      exact Nat.le_mul_of_pos_left _ (by omega)
  · rw [h2, ← Int.natCast_ediv, Int.natAbs_natCast]
    exact Nat.div_le_self _ _
theorem low_lt {t b : Int} {n : Nat} (h1 : t.natAbs < 2 ^ n) (h2 : b.natAbs < 2 ^ n) : (low t b).1.natAbs < 2 ^ n ∧ (low t b).2.natAbs < 2 ^ n :=
  ⟨Nat.lt_of_le_of_lt (low_le t b).1 h1, Nat.lt_of_le_of_lt (low_le t b).2 h2⟩
/-- a fraction in lowest terms, of fewer than sixty figures -/
structure FrAt (H : Hp) (x : Addr) (a b : Int) : Prop where
  at_ : H x = some (.tup [.int a, .int b])
  low : IsLow a b
  ta : a.natAbs < 2 ^ 200
  tb : b.natAbs < 2 ^ 200
theorem FrAt.same {H H' : Hp} {x : Addr} {a b : Int} (h : FrAt H x a b) (s : Same H H') : FrAt H' x a b := ⟨s _ _ h.at_, h.low, h.ta, h.tb⟩
theorem FrAt.fr {H H' : Hp} {x p : Addr} {a b : Int} {n : Nat} (h : FrAt H x a b) (B : BoxAt H p n) (f : Fr p H H') : FrAt H' x a b := ⟨f.tup B h.at_, h.low, h.ta, h.tb⟩
/-- a new pair of two numbers' lowest terms -/
def sp_low : Sp := fun vs H Q _ => ∃ t b : Int, vs = [.int t, .int b] ∧ b ≠ 0 ∧ t.natAbs < 2 ^ 2000 ∧ b.natAbs < 2 ^ 2000 ∧ ∀ p H', Same H H' → H p = none → H' p = some (.tup [.int (low t b).1, .int (low t b).2]) → Q (.ref p) H'
/-- two pairs in, low of what f and g say of them out -/
def sp_two (K : PySem.W.Frag) (f g : Int → Int → Int → Int → Int) : Sp := fun vs H Q _ => ∃ (x y : Addr) (a b c d : Int), vs = [.ref x, .ref y] ∧ SqT K H x [.int a, .int b] ∧ SqT K H y [.int c, .int d] ∧ g a b c d ≠ 0 ∧ a.natAbs < 2 ^ 900 ∧ b.natAbs < 2 ^ 900 ∧ c.natAbs < 2 ^ 900 ∧ d.natAbs < 2 ^ 900 ∧
  ∀ p H', Same H H' → H p = none → H' p = some (.tup [.int (low (f a b c d) (g a b c d)).1, .int (low (f a b c d) (g a b c d)).2]) → Q (.ref p) H'
/-- by a divisor turned about -/
theorem fdiv_neg {t g : Int} (h : g ∣ t) : t.fdiv (-g) = t / g * -1 := by
  obtain ⟨z, rfl⟩ := h
  by_cases c : g = 0
  · subst c
    simp
  · rw [Int.mul_ediv_cancel_left _ c, show g * z = (-g) * (-z) by grind, Int.mul_fdiv_cancel_left _ (by omega)]
    omega

/-! data of the law's own making, n deep -/
theorem Same.put {H0 H : Hp} {D : Addr} {o : HO} (s : Same H0 H) (h : H0 D = none) : Same H0 (upd H D o) := fun b u e => by
  rw [upd_ne (ne_of_none e h)]
  exact s b u e
inductive Dt (H : Hp) : Nat → V → PyData → Prop
  | non (n : Nat) : Dt H (n + 1) .non .none
  | bl (n : Nat) (b : Bool) : Dt H (n + 1) (.bl b) (.bool b)
  | int (n : Nat) (i : Int) : Dt H (n + 1) (.int i) (.int i)
  | str (n : Nat) (x : Str) (ok : PyData.canLay0 (.str x) = true) : Dt H (n + 1) (.str x) (.str x)
  | lst {n : Nat} {a : Addr} {xs : List V} {ds : List PyData} : H a = some (.lst xs) → xs.length = ds.length → xs.length ≤ 100000 → (∀ (i : Nat) (x : V) (d : PyData), xs[i]? = some x → ds[i]? = some d → Dt H n x d) → Dt H (n + 1) (.ref a) (.list ds)
  | tup {n : Nat} {a : Addr} {xs : List V} {ds : List PyData} : H a = some (.tup xs) → xs.length = ds.length → xs.length ≤ 100000 → (∀ (i : Nat) (x : V) (d : PyData), xs[i]? = some x → ds[i]? = some d → Dt H n x d) → Dt H (n + 1) (.ref a) (.tuple ds)
theorem Dt.same {H H' : Hp} (s : Same H H') : ∀ {n : Nat} {v : V} {d : PyData}, Dt H n v d → Dt H' n v d := by
  intro n v d h
  induction h with
  | non n => exact .non n
  | bl n b => exact .bl n b
  | int n i => exact .int n i
  | str n x ok => exact .str n x ok
  | lst h1 h2 h3 _ ih => exact .lst (s _ _ h1) h2 h3 ih
  | tup h1 h2 h3 _ ih => exact .tup (s _ _ h1) h2 h3 ih
theorem Dt.up {H : Hp} {n m : Nat} {v : V} {d : PyData} (h : Dt H n v d) : n ≤ m → Dt H m v d := by
  intro le
  induction h generalizing m with
  | non n => obtain ⟨k, rfl⟩ : ∃ k, m = k + 1 := ⟨m - 1, by omega⟩; exact .non k
  | bl n b => obtain ⟨k, rfl⟩ : ∃ k, m = k + 1 := ⟨m - 1, by omega⟩; exact .bl k b
  | int n i => obtain ⟨k, rfl⟩ : ∃ k, m = k + 1 := ⟨m - 1, by omega⟩; exact .int k i
  | str n x ok => obtain ⟨k, rfl⟩ : ∃ k, m = k + 1 := ⟨m - 1, by omega⟩; exact .str k x ok
  | lst h1 h2 h3 _ ih => obtain ⟨k, rfl⟩ : ∃ k, m = k + 1 := ⟨m - 1, by omega⟩; exact .lst h1 h2 h3 fun i x d a b => ih i x d a b (by omega)
  | tup h1 h2 h3 _ ih => obtain ⟨k, rfl⟩ : ∃ k, m = k + 1 := ⟨m - 1, by omega⟩; exact .tup h1 h2 h3 fun i x d a b => ih i x d a b (by omega)
theorem Dt.tup2 {H : Hp} {n : Nat} {a : Addr} {x y : V} {d e : PyData} (h : H a = some (.tup [x, y])) (h1 : Dt H n x d) (h2 : Dt H n y e) : Dt H (n + 1) (.ref a) (.tuple [d, e]) :=
  .tup h rfl (by show 2 ≤ 100000; decide) fun i u v hu hv => match i, hu, hv with
    | 0, hu, hv => by cases hu; cases hv; exact h1
    | 1, hu, hv => by cases hu; cases hv; exact h2
    | i + 2, hu, _ => by simp at hu
theorem Dt.pair {H : Hp} {a : Addr} {t b : Int} (h : H a = some (.tup [.int t, .int b])) : Dt H 2 (.ref a) (.tuple [.int t, .int b]) := .tup2 h (.int 0 t) (.int 0 b)
theorem Dt.lst2 {H : Hp} {n : Nat} {a : Addr} {x y : V} {d e : PyData} (h : H a = some (.lst [x, y])) (h1 : Dt H n x d) (h2 : Dt H n y e) : Dt H (n + 1) (.ref a) (.list [d, e]) :=
  .lst h rfl (by show 2 ≤ 100000; decide) fun i u v hu hv => match i, hu, hv with
    | 0, hu, hv => by cases hu; cases hv; exact h1
    | 1, hu, hv => by cases hu; cases hv; exact h2
    | i + 2, hu, _ => by simp at hu
theorem Dt.lst3 {H : Hp} {n : Nat} {a : Addr} {x y z : V} {d e f : PyData} (h : H a = some (.lst [x, y, z])) (h1 : Dt H n x d) (h2 : Dt H n y e) (h3 : Dt H n z f) : Dt H (n + 1) (.ref a) (.list [d, e, f]) :=
  .lst h rfl (by show 3 ≤ 100000; decide) fun i u v hu hv => match i, hu, hv with
    | 0, hu, hv => by cases hu; cases hv; exact h1
    | 1, hu, hv => by cases hu; cases hv; exact h2
    | 2, hu, hv => by cases hu; cases hv; exact h3
    | i + 3, hu, _ => by simp at hu
/-- a comprehension over pairs: J hands out a new tuple of px i and py i at each of n turns, while St stands -/
theorem lc_pair {J : It} {n : Nat} {St : Hp → Prop} {px py : Nat → V} (hgo : ∀ i H, i < n → St H → J.go i H) (hst : ∀ H, St H → J.stop n H)
    (hy : ∀ i H v H', i < n → St H → J.yld i H v H' → ∃ T, v = .ref T ∧ H T = none ∧ H' = upd H T (.tup [px i, py i]))
    {g : TG} {tt : TT} {te : TE} {vs : List Nat} {σ : L2.St} {H1 : Hp} {D : Addr} {Qd : Hp → Prop} (Pv : Nat → Hp → Prop) (h0 : Pv 0 (upd H1 D (.lst []))) (hq : ∀ i H, i ≤ n → Pv i H → St H)
    (hs : ∀ i T H, i < n → Pv i H → H T = none → g (.ref T) (wipe σ vs) (upd H T (.tup [px i, py i])) fun σ2 H2 => wipe σ2 vs = wipe σ vs ∧ tt σ2 H2 fun b H3 =>
      if b = true then te σ2 H3 fun y H4 => ∃ acc, H4 D = some (.lst acc) ∧ acc.length < sizeLine ∧ Pv (i + 1) (upd H4 D (.lst (acc ++ [y]))) else Pv (i + 1) H3) (hd : ∀ H, Pv n H → Qd H) :
    ∃ W : Nat → Nat → Hp → Prop, (∃ m, W 0 m (upd H1 D (.lst []))) ∧ ∀ i m H, W i m H →
      (J.stop i H ∧ Qd H) ∨ (J.go i H ∧ ∃ Nx : Hp → Prop, (∀ H', Nx H' → ∃ m', m' < m ∧ W (i + 1) m' H') ∧ ∀ x H', J.yld i H x H' → g x (wipe σ vs) H' fun σ2 H2 => wipe σ2 vs = wipe σ vs ∧ tt σ2 H2 fun b H3 =>
        if b = true then te σ2 H3 fun y H4 => ∃ acc, H4 D = some (.lst acc) ∧ acc.length < sizeLine ∧ Nx (upd H4 D (.lst (acc ++ [y]))) else Nx H3) := by
  refine ⟨fun i m H => i + m = n ∧ Pv i H, ⟨n, by omega, h0⟩, fun i m H w => ?_⟩
  obtain ⟨e, p⟩ := w
  have q := hq i H (by omega) p
  rcases Nat.lt_or_ge i n with lt | ge
  · refine Or.inr ⟨hgo i H lt q, Pv (i + 1), fun H' p' => ⟨m - 1, by omega, by omega, p'⟩, fun x H' y => ?_⟩
    obtain ⟨T, rfl, nT, rfl⟩ := hy i H x H' lt q y
    exact hs i T H lt p nT
  · obtain rfl : i = n := by omega
    exact Or.inl ⟨hst H q, hd H p⟩
theorem zipL_go {K : PySem.W.Frag} {a b : Addr} {xs ys : List V} {n : Nat} (h1 : xs.length = n) (h2 : ys.length = n) {i : Nat} {H : Hp} (lt : i < n) (q : SqL K H a xs ∧ SqL K H b ys) : (Itz K a b).go i H :=
  ⟨xs, ys, _, _, q.1, q.2, List.getElem?_eq_getElem (by omega), List.getElem?_eq_getElem (by omega)⟩
theorem zipL_stop {K : PySem.W.Frag} {a b : Addr} {xs ys : List V} {n : Nat} (h1 : xs.length = n) {H : Hp} (q : SqL K H a xs ∧ SqL K H b ys) : (Itz K a b).stop n H := ⟨xs, ys, q.1, q.2, .inl (by omega)⟩
theorem zipL_yld {K : PySem.W.Frag} {a b : Addr} {xs ys : List V} {n : Nat} (h1 : xs.length = n) (h2 : ys.length = n) {i : Nat} {H H' : Hp} {v : V} (lt : i < n) (q : SqL K H a xs ∧ SqL K H b ys) (y : (Itz K a b).yld i H v H') :
    ∃ T, v = .ref T ∧ H T = none ∧ H' = upd H T (.tup [xs.getD i .non, ys.getD i .non]) := by
  obtain ⟨T, x, y, rfl, nT, rfl, f1, f2⟩ := y
  refine ⟨T, rfl, nT, ?_⟩
  rw [List.getD_eq_getElem?_getD, List.getD_eq_getElem?_getD, f1 _ q.1, f2 _ q.2] <;> rfl
theorem zipT_go {K : PySem.W.Frag} {a b : Addr} {xs ys : List V} {n : Nat} (h1 : xs.length = n) (h2 : ys.length = n) {i : Nat} {H : Hp} (lt : i < n) (q : SqT K H a xs ∧ SqT K H b ys) : (RZ.ItzT K a b).go i H :=
  ⟨xs, ys, _, _, q.1, q.2, List.getElem?_eq_getElem (by omega), List.getElem?_eq_getElem (by omega)⟩
theorem zipT_stop {K : PySem.W.Frag} {a b : Addr} {xs ys : List V} {n : Nat} (h1 : xs.length = n) {H : Hp} (q : SqT K H a xs ∧ SqT K H b ys) : (RZ.ItzT K a b).stop n H := ⟨xs, ys, q.1, q.2, .inl (by omega)⟩
theorem zipT_yld {K : PySem.W.Frag} {a b : Addr} {xs ys : List V} {n : Nat} (h1 : xs.length = n) (h2 : ys.length = n) {i : Nat} {H H' : Hp} {v : V} (lt : i < n) (q : SqT K H a xs ∧ SqT K H b ys) (y : (RZ.ItzT K a b).yld i H v H') :
    ∃ T, v = .ref T ∧ H T = none ∧ H' = upd H T (.tup [xs.getD i .non, ys.getD i .non]) := by
  obtain ⟨T, x, y, rfl, nT, rfl, f1, f2⟩ := y
  refine ⟨T, rfl, nT, ?_⟩
  rw [List.getD_eq_getElem?_getD, List.getD_eq_getElem?_getD, f1 _ q.1, f2 _ q.2] <;> rfl
theorem getD_of {xs : List V} {i : Nat} (h : i < xs.length) : xs[i]? = some (xs.getD i .non) := by
  rw [List.getD_eq_getElem?_getD, List.getElem?_eq_getElem h] <;> rfl
theorem yesT {σ : L2.St} {H : Hp} {A B : Hp → Prop} (h : A H) : tYes σ H fun b H3 => if b = true then A H3 else B H3 := iteT (A := A H) (B := B H) h
/-- True so often -/
theorem all_true (n : Nat) : (List.replicate n true).map V.bl = List.replicate n (V.bl true) ∧ (List.replicate n true).all id = true := by
  refine ⟨List.map_replicate, ?_⟩
  induction n with
  | zero => rfl
  | succ n ih => rw [List.replicate_succ, List.all_cons, ih] <;> rfl

/-- a def of the text, where it stands and how it is called -/
structure Def (K : PySem.W.Frag) (mg : Str → Option Value) (name : Str) (st : Stmt) (f : Addr) (fd : FuncData) (ps : List Str) : Prop where
  fn : Fun K name name st f fd
  mg : mg name = some (.ref f)
  b : Binds K fd ps []
/-! rules whose written part is a letter -/
section
variable {X : Cx} {K : PySem.W.Frag}
theorem ixL (h : X.K = K) : IxR X (rIxL K) := h ▸ ix_list
theorem ixT (h : X.K = K) : IxR X (rIxT K) := h ▸ ix_tup
theorem ixQ (h : X.K = K) : IxR X (rIx K) := h ▸ ix_seq
def rLenQ (K : PySem.W.Frag) : List V → Hp → VK → Prop := fun xs H Q => ∃ p ys, xs = [.ref p] ∧ (SqL K H p ys ∨ SqT K H p ys) ∧ Q (.int (ys.length : Nat)) H
theorem lenQ (h : X.K = K) : CallR X (.builtin "len") (rLenQ K) := h ▸ call_len_seq
def rLenA (K : PySem.W.Frag) : List V → Hp → VK → Prop := fun xs H Q => ∃ x n, xs = [x] ∧ LenV K x H n ∧ Q (.int (n : Nat)) H
theorem lenA (h : X.K = K) : CallR X (.builtin "len") (rLenA K) := h ▸ call_len
theorem isiK (h : X.K = K) : CallR X (.builtin "isinstance") (rIsi K) := h ▸ call_isi
theorem isiTK (h : X.K = K) : CallR X (.builtin "isinstance") (rIsiT K) := h ▸ call_isiT
theorem allK (h : X.K = K) (hc : X.calm = true) : CallR X (.builtin "all") (rAll K) := h ▸ cr_all hc
theorem anyK (h : X.K = K) (hc : X.calm = true) : CallR X (.builtin "any") (rAny K) := h ▸ cr_any hc
theorem sumK (h : X.K = K) (hc : X.calm = true) : CallR X (.builtin "sum") (rSum K) := h ▸ cr_sum hc
theorem eqDK (h : X.K = K) (hu : X.A.units + 64 < cLine) : OpR X (compareOp .Eq) (rEqD K) := h ▸ op_eqD hu
theorem neDK (h : X.K = K) (hu : X.A.units + 64 < cLine) : OpR X (compareOp .NotEq) (rNeD K) := h ▸ op_neD hu
theorem inQ (h : X.K = K) : OpR X (compareOp .In) (rIn K false) := h ▸ op_in_seq
theorem notInQ (h : X.K = K) : OpR X (compareOp .NotIn) (rIn K true) := h ▸ op_notIn_seq
theorem pi_listK {tg l : Expr} {tl : TE} (h : X.K = K) (hl : PE X l tl) : PI X tg l (iList K tl) := h ▸ pi_list hl
theorem pi_tupK {tg l : Expr} {tl : TE} (h : X.K = K) (hl : PE X l tl) : PI X tg l (iTup K tl) := h ▸ pi_tup hl
theorem pi_zipK {e e2 : Expr} {ta : TA} {p pos tpos : Pos} {elts : List Expr} {kk : Nat} (h : X.K = K) (hg : Gl X "zip") (hm : X.mg "zip" = none) (ha : PA X [e, e2] ta)
    (hs : starEach [e, e2] X.env = (false, eval e X.env) :: starEach [e2] X.env := by rfl) (hpl : (backTo pos (starEach [e2] X.env)).any (·.1) = false := by rfl) :
    PI X (.Tuple elts kk tpos) (.Call (.Name "zip" p) [e, e2] [] pos) (RZ.iZipA K ta) := h ▸ RZ.pi_zipA hg hm ha hs hpl
theorem pi_enumK {e : Expr} {ta : TA} {p pos tpos : Pos} {elts : List Expr} {kk : Nat} (h : X.K = K) (hg : Gl X "enumerate") (hm : X.mg "enumerate" = none) (ha : PA X [e] ta) (hs : starEach [e] X.env = [(false, eval e X.env)] := by rfl) :
    PI X (.Tuple elts kk tpos) (.Call (.Name "enumerate" p) [e] [] pos) (iEnum K ta) := h ▸ pi_enum hg hm ha hs
theorem pg_tupK {es : List Expr} {k : Nat} {pos : Pos} {t : TGs} {n : Nat} (h : X.K = K) (hc : X.calm = true) (ht : PGs X es t) (hn : (assignEach es X.env).length = n := by rfl) (hst : (assignEach es X.env).findIdx? (·.1) = none := by rfl) :
    PG X (.Tuple es k pos) (gTup K n t) := h ▸ pg_tup hc ht hn hst
/-- a new slice, a new list of what a thing holds -/
def rSlLI (K : PySem.W.Frag) : V → Option Int → Option Int → Hp → VK → Prop := fun x lo hi H Q => ∃ a xs, x = .ref a ∧ SqL K H a xs ∧ ∀ p H', Same H H' → H p = none → H' p = some (.lst (cutV xs lo hi)) → Q (.ref p) H'
theorem slL (h : X.K = K) : SlR X (rSlLI K) := fun pins s σ H x v vl vu lo hi sl Q I rx hs pl pu ⟨a, xs, e, q, k⟩ =>
  sl_list pins s σ H x v vl vu lo hi sl Q I rx hs pl pu ⟨a, xs, e, h ▸ q, fun p hp => k p _ (same_new hp) hp upd_same⟩
def rListI (K : PySem.W.Frag) : List V → Hp → VK → Prop := fun xs H Q => ∃ p ys, xs = [.ref p] ∧ (SqL K H p ys ∨ SqT K H p ys) ∧ ∀ l H', Same H H' → H l = none → H' l = some (.lst ys) → Q (.ref l) H'
theorem listI (h : X.K = K) : CallR X (.type "list") (rListI K) := fun pins s σ H xs us Q I r ⟨p, ys, e, q, k⟩ =>
  call_list_of pins s σ H xs us Q I r ⟨p, ys, e, h ▸ q, fun l hl => k l _ (same_new hl) hl upd_same⟩
end
/-! lists of fractions: addresses, tops, bottoms -/
abbrev Fq := Addr × Int × Int
def refs (l : List Fq) : List V := l.map fun z => V.ref z.1
def dat (z : Fq) : PyData := .tuple [.int z.2.1, .int z.2.2]
structure FqAt (H : Hp) (n : Nat) (z : Fq) : Prop where
  at_ : H z.1 = some (.tup [.int z.2.1, .int z.2.2])
  low : IsLow z.2.1 z.2.2
  ta : z.2.1.natAbs ≤ 10 ^ 41 + n
  tb : z.2.2.natAbs ≤ 10 ^ 41 + n
def FrL (H : Hp) (n : Nat) (l : List Fq) : Prop := ∀ z ∈ l, FqAt H n z
theorem FqAt.fr {H H' : Hp} {p : Addr} {n m k : Nat} {z : Fq} (h : FqAt H n z) (B : BoxAt H p m) (f : Fr p H H') (le : n ≤ k) : FqAt H' k z := ⟨f.tup B h.at_, h.low, by have := h.ta; omega, by have := h.tb; omega⟩
theorem FqAt.same {H H' : Hp} {n : Nat} {z : Fq} (h : FqAt H n z) (s : Same H H') : FqAt H' n z := ⟨s _ _ h.at_, h.low, h.ta, h.tb⟩
theorem FrL.fr {H H' : Hp} {p : Addr} {n m k : Nat} {l : List Fq} (h : FrL H n l) (B : BoxAt H p m) (f : Fr p H H') (le : n ≤ k) : FrL H' k l := fun z hz => (h z hz).fr B f le
theorem FrL.same {H H' : Hp} {n : Nat} {l : List Fq} (h : FrL H n l) (s : Same H H') : FrL H' n l := fun z hz => (h z hz).same s
theorem FqAt.wide {H : Hp} {n : Nat} {z : Fq} (h : FqAt H n z) (le : n ≤ 1000) : z.2.1.natAbs < 2 ^ 200 ∧ z.2.2.natAbs < 2 ^ 200 := by
  have h1 := h.ta
  have h2 := h.tb
  have e : 10 ^ 41 + 1000 < 2 ^ 200 := by decide
  omega
theorem refs_len (l : List Fq) : (refs l).length = l.length := List.length_map _
theorem refs_get {l : List Fq} {i : Nat} {z : Fq} (h : l[i]? = some z) : (refs l)[i]? = some (.ref z.1) := by
  unfold refs
  rw [List.getElem?_map, h] <;> rfl
theorem refs_of {l : List Fq} {i : Nat} {x : V} (h : (refs l)[i]? = some x) : ∃ z, l[i]? = some z ∧ x = .ref z.1 := by
  unfold refs at h
  rw [List.getElem?_map] at h
  cases e : l[i]? with
  | none =>
    rw [e] at h
    cases h
  | some z =>
    rw [e] at h
    exact ⟨z, rfl, (Option.some.inj h).symm⟩
theorem dp_pair {K : PySem.W.Frag} {H : Hp} {a : Addr} {t b : Int} (h : H a = some (.tup [.int t, .int b])) : Dp K H (.ref a) (.tuple [.int t, .int b]) := .tup (SqT.of h) (.cons (.int _) (.cons (.int _) .nil))
theorem FrL.dps {K : PySem.W.Frag} {H : Hp} {n : Nat} : ∀ {l : List Fq}, FrL H n l → DpAll K H (refs l) (l.map dat)
  | [], _ => .nil
  | z :: r, h => .cons (dp_pair (h z List.mem_cons_self).at_) (FrL.dps fun y hy => h y (List.mem_cons_of_mem _ hy))
theorem dats_lay (l : List Fq) : PyData.canLayAll0 (l.map dat) = true ∧ PyData.depthAll (l.map dat) ≤ 1 := by
  induction l with
  | nil => exact ⟨rfl, by decide⟩
  | cons z r ih =>
    refine ⟨?_, ?_⟩
    · show (PyData.canLay0 (dat z) && PyData.canLayAll0 (r.map dat)) = true
      rw [ih.1]
      rfl
    · show max (PyData.depth (dat z)) (PyData.depthAll (r.map dat)) ≤ 1
      have e : PyData.depth (dat z) = 1 := rfl
      omega
theorem dats_shaped (l : List Fq) : SeqAt.shaped (.list (l.map dat)) = true := by
  obtain ⟨h1, h2⟩ := dats_lay l
  show (PyData.canLayAll0 (l.map dat) && decide (PyData.depthAll (l.map dat) + 1 ≤ 64)) = true
  rw [h1, decide_eq_true (by omega)] <;> rfl
theorem dats_nil (l : List Fq) : PyData.eqv (.list (l.map dat)) (.list []) = l.isEmpty := by
  cases l <;> rfl
theorem eqv_pair {a b c d : Int} : PyData.eqv (.tuple [.int a, .int b]) (.tuple [.int c, .int d]) = decide (a = c ∧ b = d) := by
  show ((a == c) && ((b == d) && true)) = decide (a = c ∧ b = d)
  rw [Bool.and_true, Bool.decide_and]
  rfl
/-! data of any make beside the box p -/
inductive Da (p : Addr) (H : Hp) : Nat → V → PyData → Prop
  | non (n : Nat) : Da p H (n + 1) .non .none
  | bl (n : Nat) (b : Bool) : Da p H (n + 1) (.bl b) (.bool b)
  | int (n : Nat) (i : Int) : Da p H (n + 1) (.int i) (.int i)
  | str (n : Nat) (x : Str) : Da p H (n + 1) (.str x) (.str x)
  | lst {n : Nat} {a : Addr} {xs : List V} {ds : List PyData} : a ≠ p → H a = some (.lst xs) → xs.length = ds.length → xs.length ≤ 100000 → (∀ (i : Nat) (x : V) (d : PyData), xs[i]? = some x → ds[i]? = some d → Da p H n x d) → Da p H (n + 1) (.ref a) (.list ds)
  | tup {n : Nat} {a : Addr} {xs : List V} {ds : List PyData} : a ≠ p → H a = some (.tup xs) → xs.length = ds.length → xs.length ≤ 100000 → (∀ (i : Nat) (x : V) (d : PyData), xs[i]? = some x → ds[i]? = some d → Da p H n x d) → Da p H (n + 1) (.ref a) (.tuple ds)
theorem Da.fr {p : Addr} {H H' : Hp} (s : Fr p H H') : ∀ {n : Nat} {v : V} {d : PyData}, Da p H n v d → Da p H' n v d := by
  intro n v d h
  induction h with
  | non n => exact .non n
  | bl n b => exact .bl n b
  | int n i => exact .int n i
  | str n x => exact .str n x
  | lst h0 h1 h2 h3 _ ih => exact .lst h0 (s _ _ h0 h1) h2 h3 ih
  | tup h0 h1 h2 h3 _ ih => exact .tup h0 (s _ _ h0 h1) h2 h3 ih
theorem Da.up {p : Addr} {H : Hp} {n m : Nat} {v : V} {d : PyData} (h : Da p H n v d) : n ≤ m → Da p H m v d := by
  intro le
  induction h generalizing m with
  | non n => obtain ⟨k, rfl⟩ : ∃ k, m = k + 1 := ⟨m - 1, by omega⟩; exact .non k
  | bl n b => obtain ⟨k, rfl⟩ : ∃ k, m = k + 1 := ⟨m - 1, by omega⟩; exact .bl k b
  | int n i => obtain ⟨k, rfl⟩ : ∃ k, m = k + 1 := ⟨m - 1, by omega⟩; exact .int k i
  | str n x => obtain ⟨k, rfl⟩ : ∃ k, m = k + 1 := ⟨m - 1, by omega⟩; exact .str k x
  | lst h0 h1 h2 h3 _ ih => obtain ⟨k, rfl⟩ : ∃ k, m = k + 1 := ⟨m - 1, by omega⟩; exact .lst h0 h1 h2 h3 fun i x d a b => ih i x d a b (by omega)
  | tup h0 h1 h2 h3 _ ih => obtain ⟨k, rfl⟩ : ∃ k, m = k + 1 := ⟨m - 1, by omega⟩; exact .tup h0 h1 h2 h3 fun i x d a b => ih i x d a b (by omega)
/-- each of a row is such data -/
def AllDa (p : Addr) (H : Hp) (n : Nat) (xs : List V) : Prop := ∀ x ∈ xs, ∃ d, Da p H n x d
theorem AllDa.fr {p : Addr} {H H' : Hp} {n : Nat} {xs : List V} (h : AllDa p H n xs) (s : Fr p H H') : AllDa p H' n xs := fun x hx => (h x hx).elim fun d q => ⟨d, q.fr s⟩
theorem AllDa.up {p : Addr} {H : Hp} {n m : Nat} {xs : List V} (h : AllDa p H n xs) (le : n ≤ m) : AllDa p H m xs := fun x hx => (h x hx).elim fun d q => ⟨d, q.up le⟩
theorem AllDa.nil {p : Addr} {H : Hp} {n : Nat} : AllDa p H n [] := fun x hx => absurd hx List.not_mem_nil
theorem AllDa.cons {p : Addr} {H : Hp} {n : Nat} {x : V} {xs : List V} (h : ∃ d, Da p H n x d) (t : AllDa p H n xs) : AllDa p H n (x :: xs) := fun y hy => by
  rcases List.mem_cons.mp hy with e | e
  · rw [e]
    exact h
  · exact t y e
theorem AllDa.append {p : Addr} {H : Hp} {n : Nat} {xs ys : List V} (h : AllDa p H n xs) (t : AllDa p H n ys) : AllDa p H n (xs ++ ys) := fun y hy => by
  rcases List.mem_append.mp hy with e | e
  · exact h y e
  · exact t y e
/-- what the datas of a row are -/
theorem AllDa.pick {p : Addr} {H : Hp} {n : Nat} : ∀ {xs : List V}, AllDa p H n xs → ∃ ds : List PyData, xs.length = ds.length ∧ ∀ (i : Nat) (x : V) (d : PyData), xs[i]? = some x → ds[i]? = some d → Da p H n x d
  | [], _ => ⟨[], rfl, fun i x d h => by simp at h⟩
  | x :: xs, h => by
    obtain ⟨d, q⟩ := h x List.mem_cons_self
    obtain ⟨ds, e, r⟩ := AllDa.pick (xs := xs) fun y hy => h y (List.mem_cons_of_mem _ hy)
    refine ⟨d :: ds, by rw [List.length_cons, List.length_cons, e], fun i y c h1 h2 => ?_⟩
    match i, h1, h2 with
    | 0, h1, h2 => cases h1; cases h2; exact q
    | i + 1, h1, h2 => exact r i y c h1 h2
theorem AllDa.tup {p : Addr} {H : Hp} {n : Nat} {xs : List V} {a : Addr} (h : AllDa p H n xs) (ne : a ≠ p) (e : H a = some (.tup xs)) (z : Nat.ble xs.length 100000 = true := by rfl) : ∃ d, Da p H (n + 1) (.ref a) d := by
  obtain ⟨ds, l, r⟩ := h.pick
  exact ⟨_, .tup ne e l (Nat.le_of_ble_eq_true z) r⟩
theorem AllDa.lst {p : Addr} {H : Hp} {n : Nat} {xs : List V} {a : Addr} (h : AllDa p H n xs) (ne : a ≠ p) (e : H a = some (.lst xs)) (z : Nat.ble xs.length 100000 = true := by rfl) : ∃ d, Da p H (n + 1) (.ref a) d := by
  obtain ⟨ds, l, r⟩ := h.pick
  exact ⟨_, .lst ne e l (Nat.le_of_ble_eq_true z) r⟩
theorem daI {p : Addr} {H : Hp} {n : Nat} (i : Int) : ∃ d, Da p H (n + 1) (.int i) d := ⟨_, .int n i⟩
theorem daB {p : Addr} {H : Hp} {n : Nat} (b : Bool) : ∃ d, Da p H (n + 1) (.bl b) d := ⟨_, .bl n b⟩
theorem daS {p : Addr} {H : Hp} {n : Nat} (x : Str) : ∃ d, Da p H (n + 1) (.str x) d := ⟨_, .str n x⟩
theorem daN {p : Addr} {H : Hp} {n : Nat} : ∃ d, Da p H (n + 1) .non d := ⟨_, .non n⟩
theorem AllDa.one {p : Addr} {H : Hp} {n m : Nat} {x : V} (h : ∃ d, Da p H n x d) (le : n ≤ m) : AllDa p H m [x] := .cons (h.elim fun d q => ⟨d, q.up le⟩) .nil
theorem AllDa.two {p : Addr} {H : Hp} {n : Nat} {x y : V} (h : ∃ d, Da p H n x d) (k : ∃ d, Da p H n y d) : AllDa p H n [x, y] := .cons h (.cons k .nil)
theorem da_fr {p : Addr} {H H' : Hp} {n : Nat} {v : V} (h : ∃ d, Da p H n v d) (s : Fr p H H') : ∃ d, Da p H' n v d := h.elim fun d q => ⟨d, q.fr s⟩
theorem da_up {p : Addr} {H : Hp} {n m : Nat} {v : V} (h : ∃ d, Da p H n v d) (le : n ≤ m) : ∃ d, Da p H m v d := h.elim fun d q => ⟨d, q.up le⟩
theorem BoxAt.new {H : Hp} {p a : Addr} {n : Nat} (h : BoxAt H p n) (e : H a = none) : a ≠ p := by
  obtain ⟨o, ho⟩ := h.some
  exact (ne_of_none ho e).symm
/-- an item at a place that is there -/
theorem at_some {xs : List V} {z : Int} (h0 : 0 ≤ z) (h1 : z < (xs.length : Int)) : ∃ v, atI xs z = some v ∧ v ∈ xs := by
  have g : xs[z.toNat]? = some xs[z.toNat] := List.getElem?_eq_getElem (by omega)
  exact ⟨_, at_of (j := z.toNat) (by omega) g, List.getElem_mem _⟩
/-- which kinds of built-in classes a data is of -/
def isTupD : PyData → Bool
  | .tuple _ => true
  | _ => false
def isIntD : PyData → Bool
  | .int _ => true
  | .bool _ => true
  | _ => false
def isBoolD : PyData → Bool
  | .bool _ => true
  | _ => false
def isListD : PyData → Bool
  | .list _ => true
  | _ => false
def isStrD : PyData → Bool
  | .str _ => true
  | _ => false
structure Kinds (K : PySem.W.Frag) (H : Hp) (v : V) (d : PyData) (t : String) : Prop where
  ty : TyX K H v (.type t)
  tup : kitB t "tuple" = some (isTupD d)
  lst : kitB t "list" = some (isListD d)
  int : kitB t "int" = some (isIntD d)
  bool : kitB t "bool" = some (isBoolD d)
  str : kitB t "str" = some (isStrD d)
theorem Da.kinds {K : PySem.W.Frag} {p : Addr} {H : Hp} {n : Nat} {v : V} {d : PyData} (h : Da p H n v d) : ∃ t, Kinds K H v d t := by
  cases h with
  | non => exact ⟨"NoneType", .base .non, by decide +kernel, by decide +kernel, by decide +kernel, by decide +kernel, by decide +kernel⟩
  | bl _ b => exact ⟨"bool", .base (.bl b), by show _ = some false; decide +kernel, by show _ = some false; decide +kernel, by show _ = some true; decide +kernel, by show _ = some true; decide +kernel, by show _ = some false; decide +kernel⟩
  | int _ i => exact ⟨"int", .base (.int i), by show _ = some false; decide +kernel, by show _ = some false; decide +kernel, by show _ = some true; decide +kernel, by show _ = some false; decide +kernel, by show _ = some false; decide +kernel⟩
  | str _ x => exact ⟨"str", .base (.str x), by show _ = some false; decide +kernel, by show _ = some false; decide +kernel, by show _ = some false; decide +kernel, by show _ = some false; decide +kernel, by show _ = some true; decide +kernel⟩
  | lst _ a1 => exact ⟨"list", .base (.lst a1), by show _ = some false; decide +kernel, by show _ = some true; decide +kernel, by show _ = some false; decide +kernel, by show _ = some false; decide +kernel, by show _ = some false; decide +kernel⟩
  | tup _ a1 => exact ⟨"tuple", .base (.tup a1), by show _ = some true; decide +kernel, by show _ = some false; decide +kernel, by show _ = some false; decide +kernel, by show _ = some false; decide +kernel, by show _ = some false; decide +kernel⟩
/-- repr of a truth -/
theorem cr_reprB {X : Cx} : CallR X (.builtin "repr") (fun xs H Q => ∃ b : Bool, xs = [.bl b] ∧ Q (.str (if b = true then "True" else "False")) H) := by
  intro pins s σ H xs us Q I r h
  obtain ⟨b, rfl, q⟩ := h
  cases r with
  | cons r1 r2 =>
    cases r2
    cases r1
    exact PySem.P.repr_of_bool ⟨.str _, H, I.tok _, ⟨_, rfl⟩, q⟩
/-- xs + ys, a new list -/
def rCatI : R2 := fun x y H Q => ∃ l b xs zs, x = .ref l ∧ y = .ref b ∧ H l = some (.lst xs) ∧ H b = some (.lst zs) ∧ xs.length + zs.length ≤ sizeLine ∧ ∀ p H', Same H H' → H p = none → H' p = some (.lst (xs ++ zs)) → Q (.ref p) H'
theorem op_catI {X : Cx} : OpR X (binaryOp .Add) rCatI := fun pins s σ H x y v u Q I rx ry ⟨l, b, xs, zs, e1, e2, h1, h2, z, k⟩ =>
  op_cat pins s σ H x y v u Q I rx ry ⟨l, b, xs, zs, e1, e2, h1, h2, z, fun p hp => k p _ (same_new hp) hp upd_same⟩
/-- a number; a fraction -/
def isNumD (d : PyData) : Bool := isIntD d && !isBoolD d
def isFracD : PyData → Bool
  | .tuple [.int t, .int b] => decide (0 < b) && decide (Nat.gcd t.natAbs b.natAbs = 1)
  | _ => false
theorem frac_no {d e : PyData} (h : isNumD d = false ∨ isNumD e = false) : isFracD (.tuple [d, e]) = false := by
  cases d <;> cases e <;> first | rfl | (rcases h with h | h <;> cases h)
theorem frac_len {ds : List PyData} (h : ds.length ≠ 2) : isFracD (.tuple ds) = false := by
  match ds, h with
  | [], _ => rfl
  | [d], _ => cases d <;> rfl
  | [_, _], h => exact absurd rfl h
  | d :: e :: _ :: _, _ => cases d <;> cases e <;> rfl
theorem num_int {p : Addr} {H : Hp} {n : Nat} {v : V} {d : PyData} (h : Da p H n v d) (k : isNumD d = true) : ∃ i, d = .int i ∧ v = .int i := by
  cases h with
  | int _ i => exact ⟨i, rfl, rfl⟩
  | non => cases k
  | bl => cases k
  | str => cases k
  | lst => cases k
  | tup => cases k
/-- rows of truths as data -/
theorem dps_bools {K : PySem.W.Frag} {H : Hp} : ∀ bs : List Bool, DpAll K H (bs.map V.bl) (bs.map PyData.bool)
  | [] => .nil
  | b :: r => .cons (.bl b) (dps_bools r)
theorem bools_shaped (bs : List Bool) : SeqAt.shaped (.list (bs.map PyData.bool)) = true := by
  have h : PyData.canLayAll0 (bs.map PyData.bool) = true ∧ PyData.depthAll (bs.map PyData.bool) = 0 := by
    induction bs with
    | nil => exact ⟨rfl, rfl⟩
    | cons b r ih =>
      refine ⟨?_, ?_⟩
      · show (PyData.canLay0 (.bool b) && PyData.canLayAll0 (r.map PyData.bool)) = true
        rw [ih.1] <;> rfl
      · show max (PyData.depth (.bool b)) (PyData.depthAll (r.map PyData.bool)) = 0
        rw [ih.2] <;> rfl
  show (PyData.canLayAll0 (bs.map PyData.bool) && decide (PyData.depthAll (bs.map PyData.bool) + 1 ≤ 64)) = true
  rw [h.1, h.2] <;> rfl
theorem take_one {α : Type} {l : List α} {i : Nat} {x : α} (h : l[i]? = some x) : l.take (i + 1) = l.take i ++ [x] := by
  rw [List.take_add_one, h] <;> rfl
end KR
/-! ### texts -/
namespace KR
open PySem PySem.Spec PyProof.Rows L2
theorem strs_of : ∀ {ys : List Str} {us : List Value}, Vals (ys.map V.str) us → StrsAre us ys
  | [], _, .nil => .nil
  | y :: r, _, .cons h t => by
    obtain ⟨k, rfl⟩ := h
    exact .cons y k (strs_of t)
section
variable {X : Cx} {K : PySem.W.Frag}
/-- sep.join(it), it a list walked from its end -/
theorem join_rev {prog : Program} {w : World} {A : Around} {E : Value → Shared → Prop} {s : Shared} {x : Str} {t : Tok} {it l : Addr} {items : Array Value} {ys : List Str} {Q : Value → Shared → Prop} (hh : A.handled = none)
    (hit : s.heap.IsRevIter it l ((items.size : Int) - 1)) (hl : s.heap.IsList l items) (hne : l ≠ it) (hn : items.size ≤ sizeLine)
    (hP : ∀ acc : Array Value, ItemsOf (fun i v => items[items.size - 1 - i]? = some v) acc items.size → StrsAre acc.toList ys) (hok : (ys.map (·.length)).sum + ys.length * x.length ≤ 16777216)
    (hq : ∀ (h' : Heap) (t' k : Nat), (∀ b o, b ≠ it → s.heap.get? b = some o → h'.get? b = some o) → Q (.str (Txt.join x ys) t') { s with heap := h', toks := k }) :
    wpAny (model prog w) A (call (.builtin "str.join") [.str x t, .ref it]) Q E s := by
  apply wpAny_call
  refine codeAny_call_builtin F.slot_str_join.plain F.entry_str_join (F.slot_str_join.check _ _ _ _ _ _ _ _ (typeIs_str _ _ _) (F.args_str_join_2 _ _) ?_)
  rw [join_tree_other]
  refine wpAny_bind (wpAny_typeOf hit.typeIs ?_)
  show wpAny _ A.in1 ((pyIter (.ref it)).tryCatch _ >>= fun j => collect j >>= fun vs => joinTail x vs) _ _ s
  refine wpAny_bind (wpAny_tryCatch (wpAny_pyIter_revIter hit (wpAny_bind (RT.collect_rev (A := A.in1) hh hit hl hne hn fun h' tk acc hk hacc => ?_))))
  obtain ⟨ps, e1, e2⟩ := strsAre_values (hP acc hacc)
  subst e2
  rw [e1]
  have fits := joinOk_of hok
  unfold JoinOk at fits
  rw [Bool.not_eq_true'] at fits
  have g : Gives (joinTail x (strValues ps)) (joinMade x ps) := by
    have g0 := gives_joinTail x ps fits
    rcases ps with _ | ⟨a, _ | ⟨b, r⟩⟩ <;> exact g0
  exact g prog w A (wants Q E) { s with heap := h', toks := tk } (post_join ps ⟨joinFit_length fits, fun t' k => hq h' t' k hk⟩)
/-- sep.join(reversed(xs)), xs a list of texts -/
def tJoinRev (K : PySem.W.Frag) (to te : TE) : TE := fun σ H Q => to σ H fun x H1 => (∃ a, x = .str a) ∧ te σ H1 fun v H2 => ∃ (a : Str) (q : Addr) (ys : List Str), x = .str a ∧ v = .ref q ∧ SqL K H2 q (ys.map V.str) ∧ (ys.map (·.length)).sum + ys.length * a.length ≤ 16777216 ∧ Q (.str (Txt.join a ys.reverse)) H2
theorem sum_rev (l : List Nat) : l.reverse.sum = l.sum := by
  induction l with
  | nil => rfl
  | cons a r ih =>
    rw [List.reverse_cons, List.sum_append, ih, List.sum_cons, List.sum_cons, List.sum_nil]
    omega
theorem pe_joinRev {o e : Expr} {to te : TE} {apos pos p pos2 : Pos} (hK : X.K = K) (hc : X.calm = true) (hg : Gl X "reversed") (hm : X.mg "reversed" = none) (ho : PE X o to) (he : PE X e te)
    (hs1 : starEach [.Call (.Name "reversed" p) [e] [] pos2] X.env = [(false, eval (.Call (.Name "reversed" p) [e] [] pos2) X.env)] := by rfl) (hs : starEach [e] X.env = (false, eval e X.env) :: starEach [] X.env := by rfl)
    (hbase : attributeBase o "join" X.env (eval o X.env) = eval o X.env := by rfl) (hline : (apos.endLine == pos.line) = true := by rfl) :
    PE X (.Call (.Attribute o "join" apos) [.Call (.Name "reversed" p) [e] [] pos2] [] pos) (tJoinRev K to te) := by
  subst hK
  constructor
  intro pins s σ H Q I want
  refine PySem.Call_method1 hbase hs1 hline (thn (ho.run pins s σ H _ I want) ?_)
  rintro v s1 ⟨x, H1, I1, r1, ⟨a, rfl⟩, q1⟩
  obtain ⟨t, rfl⟩ : ∃ t, v = Value.str a t := r1
  refine ⟨"str", "str.join", F.plainAttrs_str, F.slot_str_join, F.type_str_join, typeIs_str _ _ _, nofun, Calls.callWith_builtin rfl (Calls.evalArgs_plain (Calls.spliced_cons ?_))⟩
  refine Call_ (ld_blt I1 hg hm PyProof.Rows.boot_reversed (PyProof.Rows.callWith_type1 (args_cons (thn (he.run pins s1 σ H1 _ I1 q1) ?_) hs) hs rfl))
  rintro u s2 ⟨y, H2, I2, r2, a', q, ys, ea, rfl, hq, hz, k⟩
  cases ea
  cases r2
  obtain ⟨its, rv, pl, hsz⟩ := I2.list hq
  refine args_nil (call_reversed_list pl.isList (Calls.spliced_nil ?_))
  have old : ∀ b o, s2.heap.get? b = some o → (s2.heap.push (revObj q ((its.toArray.size : Int) - 1))).get? b = some o := fun b o g => Heap.get?_push_of_some _ g
  obtain ⟨oq, hoq, _⟩ := id pl.isList
  have neq : q ≠ s2.heap.objs.size := Nat.ne_of_lt (Heap.lt_size hoq)
  have len : its.toArray.size ≤ sizeLine := by rw [List.size_toArray, ← rv.length]; exact hsz
  refine join_rev (s := { s2 with heap := s2.heap.push (revObj q ((its.toArray.size : Int) - 1)) }) (ys := ys.reverse) (I2.ok.hd hc) ⟨_, Heap.get?_push_size _ rfl, rfl, rfl⟩ (pl.isList.push _) neq len (fun acc hacc => strs_of ?_) ?_ fun h' t' k' keep => ?_
  · rw [List.map_reverse]
    exact RT.vals_rev rv hacc
  · rw [List.map_reverse, sum_rev, List.length_reverse]
    exact hz
  · exact ⟨.str _, H2, I2.kept (t' := k') (fun b o g => keep b o (Nat.ne_of_lt (Heap.lt_size g)) (old b o g)), ⟨t', rfl⟩, k⟩
end
/-! texts as rows of codes -/
abbrev S (l : List Nat) : Str := ⟨l.toArray⟩
theorem tl_S (l : List Nat) : TL.tl (S l) = l := rfl
theorem S_tl (x : Str) : S (TL.tl x) = x := TL.mk_tl x
theorem S_len (l : List Nat) : (S l).length = l.length := by rw [TL.len_tl]
theorem S_app (l m : List Nat) : S l ++ S m = S (l ++ m) := TL.ext_tl (by rw [TL.tl_append])
theorem S_inj {l m : List Nat} (h : S l = S m) : l = m := congrArg TL.tl h
theorem lit_minus : ("-" : Str) = S [45] := by decide +kernel
theorem lit_stroke : ("/" : Str) = S [47] := by decide +kernel
theorem lit_one : ("1" : Str) = S [49] := by decide +kernel
theorem lit_zero : ("0" : Str) = S [48] := by decide +kernel
theorem lit_none : ("" : Str) = S [] := by decide +kernel
theorem lit_empty : Str.empty = S [] := by decide +kernel
theorem lit_digits : ("0123456789" : Str) = S [48, 49, 50, 51, 52, 53, 54, 55, 56, 57] := by decide +kernel
theorem num_S (n : Nat) : Str.ofString (toString ((n : Nat) : Int)) = S (TL.numL n) := TL.ext_tl (TL.tl_num n)
theorem numL_cut (n : Nat) : TL.numL n = (if n / 10 = 0 then [] else TL.numL (n / 10)) ++ [48 + n % 10] := by
  by_cases h : n < 10
  · rw [TL.numL_lt h, if_pos (by omega), show n % 10 = n by omega] <;> rfl
  · rw [TL.numL_step (by omega), if_neg (by omega)]
theorem dig_at {k : Int} (h0 : 0 ≤ k) (h1 : k < 10) : atI ("0123456789" : Str).cps.toList k = some (48 + k.toNat) := by
  rw [lit_digits]
  have ks : k = 0 ∨ k = 1 ∨ k = 2 ∨ k = 3 ∨ k = 4 ∨ k = 5 ∨ k = 6 ∨ k = 7 ∨ k = 8 ∨ k = 9 := by omega
  rcases ks with e | e | e | e | e | e | e | e | e | e <;> subst e <;> rfl
theorem lit_len : ("0123456789" : Str).length ≤ sizeLine := by decide +kernel
/-- text times a number from 0 -/
theorem op_mul_str {X : Cx} : OpR X (binaryOp .Mult) (fun x y H Q => ∃ (a : Str) (n : Nat), x = .str a ∧ y = .int (n : Int) ∧ a.length * n ≤ 100000 ∧ n ≤ 100000 ∧ Q (.str (Txt.mul a n)) H) := by
  intro pins s σ H x y v u Q I rx ry h
  obtain ⟨a, n, rfl, rfl, hz, hn, q⟩ := h
  obtain ⟨t, rfl⟩ := rx
  obtain ⟨t', rfl⟩ := ry
  refine SB.mul ⟨?_, fun h1 h2 => ?_, fun h1 h2 => ?_⟩ fun t2 k => ⟨.str _, H, I.tok _, ⟨_, rfl⟩, q⟩
  · rw [decide_eq_false (by omega), decide_eq_false (by omega)] <;> rfl
  · have n1 : (1 : Int) ≤ (n : Int) := by omega
    intro bad
    have b2 : ((2 ^ 63 - 1 : Int)) / (n : Int) ≥ (2 ^ 63 - 1 : Int) / 100000 := by
      refine Int.le_ediv_of_mul_le (by omega) ?_
      have e : (2 ^ 63 - 1 : Int) / 100000 * (n : Int) ≤ (2 ^ 63 - 1 : Int) / 100000 * 100000 := Int.mul_le_mul_of_nonneg_left (by omega) (by decide)
      exact Int.le_trans e (by decide)
    have a9 : a.length ≤ 100000 := by
      have : a.length * 1 ≤ a.length * n := Nat.mul_le_mul_left _ (by omega)
      omega
    have e3 : (2 ^ 63 - 1 : Int) / 100000 = 92233720368547 := by decide
    omega
  · rw [Int.toNat_natCast]
    exact decide_eq_false (by have := small hz; omega)
theorem mul_zero (a : Str) : Txt.mul a ((0 : Nat) : Int) = S [] := by
  unfold Txt.mul
  rw [if_pos (by decide), lit_empty]
theorem mul_one (a : Str) : Txt.mul a ((1 : Nat) : Int) = a := by
  unfold Txt.mul
  rw [if_neg (by decide), if_pos (by rfl)]
/-- a minus ahead, cut off -/
theorem sub_minus (l : List Nat) : Builtin.Str.subAt (S l) (S [45]) 0 = (l.head? == some 45) := by
  unfold Builtin.Str.subAt
  rcases l with _ | ⟨c, r⟩
  · rfl
  · have e : ((S (c :: r)).cps.extract 0 (0 + (S [45]).length)) = #[c] := by
      apply Array.toList_inj.mp
      rw [Array.toList_extract]
      rfl
    rw [e]
    show (#[c] == #[45]) = (some c == some 45)
    by_cases h : c = 45
    · subst h
      rfl
    · have e2 : (some c == some 45) = false := by
        rw [beq_eq_false_iff_ne]
        exact fun z => h (Option.some.inj z)
      rw [e2, beq_eq_false_iff_ne]
      intro z
      exact h (by have := congrArg (fun a => a[0]?) z; simpa using this)
theorem prefix_minus (l : List Nat) : Txt.removeprefix (S l) (S [45]) = S (if l.head? = some 45 then l.tail else l) := by
  unfold Txt.removeprefix
  rw [sub_minus]
  by_cases h : l.head? = some 45
  · rw [if_pos h, if_pos (by rw [h] <;> rfl)]
    rcases l with _ | ⟨c, r⟩
    · cases h
    · show (if ((S (c :: r)).length - (S [45]).length == (S (c :: r)).length) = true then S (c :: r) else Builtin.Str.strSub (S (c :: r)) (S [45]).length (S (c :: r)).length) = S r
      have e1 : (S (c :: r)).length = r.length + 1 := by rw [S_len] <;> rfl
      have e2 : (S [45]).length = 1 := rfl
      rw [if_neg (by rw [e1, e2, beq_iff_eq]; omega)]
      apply TL.ext_tl
      show ((S (c :: r)).cps.extract (S [45]).length (S (c :: r)).length).toList = r
      rw [Array.toList_extract, e1, e2]
      show List.take (r.length + 1 - 1) (List.drop 1 (c :: r)) = r
      rw [Nat.add_sub_cancel]
      exact List.take_length
  · rw [if_neg h, if_neg (by rw [beq_iff_eq]; exact h)]
    rfl
theorem starts_minus (l : List Nat) : Txt.startswith (S l) (S [45]) = (l.head? == some 45) := by
  unfold Txt.startswith
  rw [sub_minus]
  rcases l with _ | ⟨c, r⟩
  · rfl
  · rw [decide_eq_true (show 0 + (S [45]).length ≤ (S (c :: r)).length by rw [S_len, S_len]; show 0 + 1 ≤ r.length + 1; omega), Bool.true_and]
/-- one to so many figures -/
def figs (l : List Nat) : Bool := !l.isEmpty && l.all fun c => decide (48 ≤ c) && decide (c ≤ 57)
theorem ascii_S (l : List Nat) : Txt.isascii (S l) = l.all (· < 128) := by
  unfold Txt.isascii
  rw [← Array.all_toList]
theorem dig_code : ∀ c, c < 128 → Unicode.isDigit c = (decide (48 ≤ c) && decide (c ≤ 57)) := by decide +kernel
theorem digit_S {l : List Nat} (h : l.all (· < 128) = true) : Txt.isdigit (S l) = figs l := by
  unfold Txt.isdigit figs
  rw [← Array.all_toList, S_len]
  have e1 : decide (l.length > 0) = !l.isEmpty := by
    cases l <;> rfl
  have e2 : l.all Unicode.isDigit = l.all fun c => decide (48 ≤ c) && decide (c ≤ 57) := by
    rw [List.all_eq_true] at h
    clear e1
    induction l with
    | nil => rfl
    | cons c r ih =>
      rw [List.all_cons, List.all_cons, ih fun x hx => h x (List.mem_cons_of_mem _ hx), dig_code c (of_decide_eq_true (h c List.mem_cons_self))]
  rw [e1]
  exact congrArg _ e2
theorem figs_ascii {l : List Nat} (h : figs l = true) : l.all (· < 128) = true := by
  unfold figs at h
  rw [Bool.and_eq_true] at h
  have h3 := List.all_eq_true.mp h.2
  rw [List.all_eq_true]
  intro c hc
  have := h3 c hc
  rw [Bool.and_eq_true] at this
  have h2 := of_decide_eq_true this.2
  exact decide_eq_true (by omega)
theorem figs_num (n : Nat) : figs (TL.numL n) = true := by
  unfold figs
  rw [Bool.and_eq_true]
  refine ⟨?_, ?_⟩
  · have := TL.numL_ne n
    cases e : TL.numL n with
    | nil => exact absurd e this
    | cons _ _ => rfl
  · rw [List.all_eq_true]
    intro c hc
    have := TL.numL_digits n c hc
    rw [decide_eq_true this.1, decide_eq_true this.2] <;> rfl
theorem figs_int {l : List Nat} (h : figs l = true) (z : l.length ≤ 600) : PySem.intText? (S l) = some ((NumText.digitsVal l : Nat) : Int) := by
  unfold figs at h
  rw [Bool.and_eq_true] at h
  have d : NumText.AllDigits l := fun c hc => by
    have := List.all_eq_true.mp h.2 c hc
    rw [Bool.and_eq_true] at this
    exact ⟨of_decide_eq_true this.1, of_decide_eq_true this.2⟩
  have ne : l ≠ [] := by
    intro e
    rw [e] at h
    exact Bool.noConfusion h.1
  exact PySem.intText_digits (x := S l) d ne (by rw [S_len]; omega)
/-- a fraction's text -/
def fracL (t b : Int) : List Nat := (if t < 0 then [45] else []) ++ (TL.numL t.natAbs ++ (if b = 1 then [] else 47 :: TL.numL b.natAbs))
/-- ahead of the first stroke, whether there is one, behind it -/
def cutL : List Nat → List Nat × Bool × List Nat
  | [] => ([], false, [])
  | c :: r => if c = 47 then ([], true, r) else (c :: (cutL r).1, (cutL r).2)
theorem cut_app {a b : List Nat} (h : 47 ∉ a) : cutL (a ++ 47 :: b) = (a, true, b) := by
  induction a with
  | nil => rfl
  | cons c r ih =>
    have hc : c ≠ 47 := fun e => h (by rw [e]; exact List.mem_cons_self)
    have ih' := ih fun m => h (List.mem_cons_of_mem _ m)
    show (if c = 47 then _ else (c :: (cutL (r ++ 47 :: b)).1, (cutL (r ++ 47 :: b)).2)) = _
    rw [if_neg hc, ih']
theorem cut_none {a : List Nat} (h : 47 ∉ a) : cutL a = (a, false, []) := by
  induction a with
  | nil => rfl
  | cons c r ih =>
    have hc : c ≠ 47 := fun e => h (by rw [e]; exact List.mem_cons_self)
    have ih' := ih fun m => h (List.mem_cons_of_mem _ m)
    show (if c = 47 then _ else (c :: (cutL r).1, (cutL r).2)) = _
    rw [if_neg hc, ih']
/-- either no stroke, or the first one -/
theorem cut_ways (l : List Nat) : (47 ∉ l ∧ cutL l = (l, false, [])) ∨ ∃ a b, l = a ++ 47 :: b ∧ 47 ∉ a ∧ cutL l = (a, true, b) := by
  by_cases h : 47 ∈ l
  · obtain ⟨a, b, e, n⟩ := List.eq_append_cons_of_mem h
    exact .inr ⟨a, b, e, n, by rw [e]; exact cut_app n⟩
  · exact .inl ⟨h, cut_none h⟩
end KR
/-! ### fractions as numbers of the field -/
namespace KR
open PySem PySem.Spec PyProof.Rows L2
theorem Same.tup {K : PySem.W.Frag} {H H' : Hp} {a : Addr} {xs : List V} (e : Same H H') (h : SqT K H a xs) : SqT K H' a xs :=
  h.elim (fun h => .inl (h.elim (fun h => .inl (e _ _ h)) fun ⟨o, h⟩ => .inr ⟨o, e _ _ h⟩)) fun h => .inr h
theorem sqT_ty {K : PySem.W.Frag} {H : Hp} {a : Addr} {xs : List V} (h : SqT K H a xs) : TyX K H (.ref a) (.type "tuple") := by
  rcases h with (h | ⟨o, h⟩) | ⟨o, its, n, h1, h2, _⟩
  · exact .base (.tup h)
  · exact .fTuple h
  · exact .kTuple h1 h2
theorem sqT_frL {K : PySem.W.Frag} {H H' : Hp} {a p : Addr} {xs ys : List V} (h : SqT K H a xs) (hp : H p = some (.lst ys)) (f : Fr p H H') : SqT K H' a xs := by
  rcases h with (h | ⟨o, h⟩) | h
  · exact .inl (.inl (f _ _ (ne_of h hp (by intro z; cases z)) h))
  · exact .inl (.inr ⟨o, f _ _ (ne_of h hp (by intro z; cases z)) h⟩)
  · exact .inr h
theorem sqT_fr {K : PySem.W.Frag} {H H' : Hp} {a p : Addr} {n : Nat} {xs : List V} (h : SqT K H a xs) (B : BoxAt H p n) (f : Fr p H H') : SqT K H' a xs := by
  obtain ⟨i, j, k, hp, _⟩ := B
  exact sqT_frL h hp f
theorem fr_upd {p : Addr} {H : Hp} {o : HO} : Fr p H (upd H p o) := Fr.put Fr.refl
theorem BoxAt.upd {H : Hp} {p D : Addr} {n : Nat} {o : HO} (h : BoxAt H p n) (ne : D ≠ p) : BoxAt (L2.upd H D o) p n := by
  obtain ⟨a, b, c, h1, h2⟩ := h
  exact ⟨a, b, c, by rw [upd_ne ne.symm]; exact h1, h2⟩
def rq (t b : Int) : Rat := (t : Rat) / (b : Rat)
theorem rat_nd (q : Rat) : (q.num : Rat) / ((q.den : Int) : Rat) = q := by rw [← Rat.divInt_eq_div, Rat.num_divInt_den]
theorem den_ne (q : Rat) : ((q.den : Int) : Rat) ≠ 0 := by
  intro h
  have k := q.den_pos
  have h2 : ((q.den : Int) : Rat) = ((0 : Int) : Rat) := h
  have e := Rat.intCast_inj.mp h2
  omega
theorem den_ne' (q : Rat) : (q.den : Int) ≠ 0 := by
  have k := q.den_pos
  omega
theorem int_ne {b : Int} (h : b ≠ 0) : (b : Rat) ≠ 0 := fun z => h (Rat.intCast_inj.mp (z.trans (by rfl : (0 : Rat) = ((0 : Int) : Rat))))
theorem rat_low (q : Rat) : IsLow q.num q.den := ⟨by have k := q.den_pos; omega, by rw [Int.natAbs_natCast]; exact q.reduced⟩
theorem rq_cross {t b : Int} (hb : b ≠ 0) : t * ((rq t b).den : Int) = (rq t b).num * b := by
  have e := rat_nd (rq t b)
  have h1 := den_ne (rq t b)
  have h2 := int_ne hb
  refine Rat.intCast_inj.mp ?_
  rw [Rat.intCast_mul, Rat.intCast_mul]
  generalize ((rq t b).den : Int) = d at *
  generalize (rq t b).num = n at *
  unfold rq at e
  grind
theorem rq_low {t b : Int} (hb : b ≠ 0) : low t b = ((rq t b).num, ((rq t b).den : Int)) := low_eq hb (rat_low _) (rq_cross hb)
theorem cast_pos {b : Int} (h : 0 < b) : (0 : Rat) < (b : Rat) := (Rat.intCast_lt_intCast (a := 0)).mpr h
theorem cast_nn {b : Int} (h : 0 ≤ b) : (0 : Rat) ≤ (b : Rat) := (Rat.intCast_le_intCast (a := 0)).mpr h
theorem le_div {a b c : Rat} (h : 0 < c) (k : a * c ≤ b) : a ≤ b / c := Rat.not_lt.mp fun z => absurd ((Rat.div_lt_iff h).mp z) (Rat.not_lt.mpr k)
theorem div_le {a b c : Rat} (h : 0 < c) (k : b ≤ a * c) : b / c ≤ a := Rat.not_lt.mp fun z => absurd ((Rat.lt_div_iff h).mp z) (Rat.not_lt.mpr k)
theorem rq_nn {t b : Int} (ht : 0 ≤ t) (hb : 0 < b) : 0 ≤ rq t b := by
  have h1 := cast_nn ht
  have h2 := cast_pos hb
  unfold rq
  generalize (t : Rat) = x at *
  generalize (b : Rat) = y at *
  exact le_div h2 (by grind)
theorem rq_pos {t b : Int} (ht : 0 < t) (hb : 0 < b) : 0 < rq t b := by
  have h1 := cast_pos ht
  have h2 := cast_pos hb
  unfold rq
  generalize (t : Rat) = x at *
  generalize (b : Rat) = y at *
  exact (Rat.lt_div_iff h2).mpr (by grind)
theorem rq_lt_one {t b : Int} (ht : t < b) (hb : 0 < b) : rq t b < 1 := by
  have h1 := Rat.intCast_lt_intCast.mpr ht
  have h2 := cast_pos hb
  unfold rq
  generalize (t : Rat) = x at *
  generalize (b : Rat) = y at *
  exact (Rat.div_lt_iff h2).mpr (by grind)
theorem rq_le_one {t b : Int} (ht : t ≤ b) (hb : 0 < b) : rq t b ≤ 1 := by
  have h1 := Rat.intCast_le_intCast.mpr ht
  have h2 := cast_pos hb
  unfold rq
  generalize (t : Rat) = x at *
  generalize (b : Rat) = y at *
  exact div_le h2 (by grind)
theorem rq_add (p q : Rat) : rq (p.num * q.den + q.num * p.den) (p.den * q.den) = p + q := by
  have e1 := rat_nd p
  have e2 := rat_nd q
  have h1 := den_ne p
  have h2 := den_ne q
  unfold rq
  rw [Rat.intCast_add, Rat.intCast_mul, Rat.intCast_mul, Rat.intCast_mul]
  generalize ((p.den : Int) : Rat) = d at *
  generalize (p.num : Rat) = n at *
  generalize ((q.den : Int) : Rat) = d2 at *
  generalize (q.num : Rat) = n2 at *
  grind
theorem rq_sub (p q : Rat) : rq (p.num * q.den - q.num * p.den) (p.den * q.den) = p - q := by
  have e1 := rat_nd p
  have e2 := rat_nd q
  have h1 := den_ne p
  have h2 := den_ne q
  unfold rq
  rw [Rat.intCast_sub, Rat.intCast_mul, Rat.intCast_mul, Rat.intCast_mul]
  generalize ((p.den : Int) : Rat) = d at *
  generalize (p.num : Rat) = n at *
  generalize ((q.den : Int) : Rat) = d2 at *
  generalize (q.num : Rat) = n2 at *
  grind
theorem rq_mul (p q : Rat) : rq (p.num * q.num) (p.den * q.den) = p * q := by
  have e1 := rat_nd p
  have e2 := rat_nd q
  have h1 := den_ne p
  have h2 := den_ne q
  unfold rq
  rw [Rat.intCast_mul, Rat.intCast_mul]
  generalize ((p.den : Int) : Rat) = d at *
  generalize (p.num : Rat) = n at *
  generalize ((q.den : Int) : Rat) = d2 at *
  generalize (q.num : Rat) = n2 at *
  grind
theorem rq_div (p q : Rat) : rq (p.num * q.den) (p.den * q.num) = p / q := by
  have e1 := rat_nd p
  have e2 := rat_nd q
  have h1 := den_ne p
  have h2 := den_ne q
  unfold rq
  rw [Rat.intCast_mul, Rat.intCast_mul]
  generalize ((p.den : Int) : Rat) = d at *
  generalize (p.num : Rat) = n at *
  generalize ((q.den : Int) : Rat) = d2 at *
  generalize (q.num : Rat) = n2 at *
  grind
theorem rq_self (q : Rat) : rq q.num q.den = q := rat_nd q
theorem num_ne {q : Rat} (h : q ≠ 0) : q.num ≠ 0 := fun z => h (by
  have e := rat_nd q
  rw [z] at e
  rw [← e]
  grind)
theorem num_zero {q : Rat} : q.num = 0 ↔ q = 0 := ⟨fun z => Classical.byContradiction fun y => num_ne y z, fun z => by rw [z] <;> rfl⟩
theorem num_pos {q : Rat} : 0 < q.num ↔ 0 < q := by
  have k := Rat.lt_iff 0 q
  simp at k
  exact k.symm
theorem num_nn {q : Rat} : 0 ≤ q.num ↔ 0 ≤ q := Rat.num_nonneg
theorem lt_cross (p q : Rat) : (p.num * q.den < q.num * p.den) ↔ p < q := (Rat.lt_iff p q).symm
/-- top and bottom fit so many bits -/
def Sz (n : Nat) (q : Rat) : Prop := q.num.natAbs < 2 ^ n ∧ (q.den : Int).natAbs < 2 ^ n
theorem Sz.up {n m : Nat} {q : Rat} (h : Sz n q) (le : n ≤ m) : Sz m q := ⟨lt_up h.1 le, lt_up h.2 le⟩
theorem sz_rq {t b : Int} {n : Nat} (hb : b ≠ 0) (h1 : t.natAbs < 2 ^ n) (h2 : b.natAbs < 2 ^ n) : Sz n (rq t b) := by
  have k := low_lt h1 h2
  rw [rq_low hb] at k
  exact k
theorem Sz.int {z : Int} {n : Nat} (h : z.natAbs < 2 ^ n) (h0 : 0 < n) : Sz n (z : Rat) := ⟨h, Nat.lt_of_lt_of_le (by decide : (1 : Nat) < 2 ^ 1) (Nat.pow_le_pow_right (by decide) h0)⟩
theorem Sz.neg {n : Nat} {q : Rat} (h : Sz n q) : Sz n (-q) := ⟨by
  show (-q.num).natAbs < 2 ^ n
  rw [Int.natAbs_neg]
  exact h.1, h.2⟩
/-- a fraction that is read -/
def FrQ (K : PySem.W.Frag) (H : Hp) (x : Addr) (q : Rat) : Prop := SqT K H x [.int q.num, .int (q.den : Int)]
theorem FrQ.same {K : PySem.W.Frag} {H H' : Hp} {x : Addr} {q : Rat} (h : FrQ K H x q) (s : Same H H') : FrQ K H' x q := Same.tup s h
theorem FrQ.fr {K : PySem.W.Frag} {H H' : Hp} {x p : Addr} {n : Nat} {q : Rat} (h : FrQ K H x q) (B : BoxAt H p n) (f : Fr p H H') : FrQ K H' x q := sqT_fr h B f
theorem FrQ.of {K : PySem.W.Frag} {H : Hp} {x : Addr} {q : Rat} (h : H x = some (.tup [.int q.num, .int (q.den : Int)])) : FrQ K H x q := SqT.of h
theorem FrQ.int {K : PySem.W.Frag} {H : Hp} {x : Addr} {z : Int} (h : H x = some (.tup [.int z, .int 1])) : FrQ K H x (z : Rat) := SqT.of h
/-- a juice that is read -/
def JuQ (K : PySem.W.Frag) (H : Hp) (x : Addr) (s w : Rat) : Prop := ∃ a b, SqT K H x [.ref a, .ref b] ∧ FrQ K H a s ∧ FrQ K H b w
theorem JuQ.same {K : PySem.W.Frag} {H H' : Hp} {x : Addr} {s w : Rat} (h : JuQ K H x s w) (e : Same H H') : JuQ K H' x s w := by
  obtain ⟨a, b, h1, h2, h3⟩ := h
  exact ⟨a, b, Same.tup e h1, h2.same e, h3.same e⟩
theorem JuQ.fr {K : PySem.W.Frag} {H H' : Hp} {x p : Addr} {n : Nat} {s w : Rat} (h : JuQ K H x s w) (B : BoxAt H p n) (f : Fr p H H') : JuQ K H' x s w := by
  obtain ⟨a, b, h1, h2, h3⟩ := h
  exact ⟨a, b, sqT_fr h1 B f, h2.fr B f, h3.fr B f⟩
theorem JuQ.new {K : PySem.W.Frag} {H : Hp} {x a b : Addr} {s w : Rat} (h : H x = some (.tup [.ref a, .ref b])) (ha : FrQ K H a s) (hb : FrQ K H b w) : JuQ K H x s w := ⟨a, b, SqT.of h, ha, hb⟩
/-- a new pair of two numbers' lowest terms -/
def sp_lowQ (K : PySem.W.Frag) : Sp := fun vs H Q _ => ∃ (t b : Int) (n : Nat), vs = [.int t, .int b] ∧ b ≠ 0 ∧ t.natAbs < 2 ^ n ∧ b.natAbs < 2 ^ n ∧ n ≤ 2000 ∧ ∀ p H', Same H H' → H p = none → FrQ K H' p (rq t b) → Sz n (rq t b) → Q (.ref p) H'
theorem lowQ {K : PySem.W.Frag} {vs : List V} {H : Hp} {Q : VK} {E : XK} (h : sp_lowQ K vs H Q E) : sp_low vs H Q E := by
  obtain ⟨t, b, n, e, hb, h1, h2, hn, q⟩ := h
  refine ⟨t, b, e, hb, lt_up h1 hn, lt_up h2 hn, fun p H' s hp h' => q p H' s hp ?_ (sz_rq hb h1 h2)⟩
  rw [rq_low hb] at h'
  exact .of h'
/-- two fractions in, one out -/
def sp_q2 (K : PySem.W.Frag) (f : Rat → Rat → Rat) (ok : Rat → Rat → Prop) : Sp := fun vs H Q _ => ∃ (x y : Addr) (p q : Rat) (m n : Nat), vs = [.ref x, .ref y] ∧ FrQ K H x p ∧ FrQ K H y q ∧ Sz m p ∧ Sz n q ∧ m + n ≤ 1900 ∧ ok p q ∧
  ∀ z H', Same H H' → H z = none → FrQ K H' z (f p q) → Sz (m + n + 1) (f p q) → Q (.ref z) H'
def sp_less (K : PySem.W.Frag) : Sp := fun vs H Q _ => ∃ (x y : Addr) (p q : Rat), vs = [.ref x, .ref y] ∧ FrQ K H x p ∧ FrQ K H y q ∧ Sz 1900 p ∧ Sz 1900 q ∧ Q (.bl (decide (p < q))) H
theorem mulZ {i j : Int} {a b : Nat} (ha : i.natAbs < 2 ^ a) (hb : j.natAbs < 2 ^ b) (h : a + b ≤ 100000) : IntMulOk i j :=
  mulW (lt_up ha (by omega : a ≤ a + 1)) (lt_up hb (by omega : b ≤ b + 1)) (by omega) (by omega) (by omega)
/-! data of the law's own making, tuples of the written part among them -/
inductive Dk (K : PySem.W.Frag) (H : Hp) : Nat → V → PyData → Prop
  | non (n : Nat) : Dk K H (n + 1) .non .none
  | bl (n : Nat) (b : Bool) : Dk K H (n + 1) (.bl b) (.bool b)
  | int (n : Nat) (i : Int) : Dk K H (n + 1) (.int i) (.int i)
  | str (n : Nat) (x : Str) (ok : PyData.canLay0 (.str x) = true) : Dk K H (n + 1) (.str x) (.str x)
  | lst {n : Nat} {a : Addr} {xs : List V} {ds : List PyData} : H a = some (.lst xs) → xs.length = ds.length → xs.length ≤ 100000 → (∀ (i : Nat) (x : V) (d : PyData), xs[i]? = some x → ds[i]? = some d → Dk K H n x d) → Dk K H (n + 1) (.ref a) (.list ds)
  | tup {n : Nat} {a : Addr} {xs : List V} {ds : List PyData} : SqT K H a xs → xs.length = ds.length → xs.length ≤ 100000 → (∀ (i : Nat) (x : V) (d : PyData), xs[i]? = some x → ds[i]? = some d → Dk K H n x d) → Dk K H (n + 1) (.ref a) (.tuple ds)
theorem Dk.same {K : PySem.W.Frag} {H H' : Hp} (s : Same H H') : ∀ {n : Nat} {v : V} {d : PyData}, Dk K H n v d → Dk K H' n v d := by
  intro n v d h
  induction h with
  | non n => exact .non n
  | bl n b => exact .bl n b
  | int n i => exact .int n i
  | str n x ok => exact .str n x ok
  | lst h1 h2 h3 _ ih => exact .lst (s _ _ h1) h2 h3 ih
  | tup h1 h2 h3 _ ih => exact .tup (Same.tup s h1) h2 h3 ih
theorem Dk.up {K : PySem.W.Frag} {H : Hp} {n m : Nat} {v : V} {d : PyData} (h : Dk K H n v d) : n ≤ m → Dk K H m v d := by
  intro le
  induction h generalizing m with
  | non n => obtain ⟨k, rfl⟩ : ∃ k, m = k + 1 := ⟨m - 1, by omega⟩; exact .non k
  | bl n b => obtain ⟨k, rfl⟩ : ∃ k, m = k + 1 := ⟨m - 1, by omega⟩; exact .bl k b
  | int n i => obtain ⟨k, rfl⟩ : ∃ k, m = k + 1 := ⟨m - 1, by omega⟩; exact .int k i
  | str n x ok => obtain ⟨k, rfl⟩ : ∃ k, m = k + 1 := ⟨m - 1, by omega⟩; exact .str k x ok
  | lst h1 h2 h3 _ ih => obtain ⟨k, rfl⟩ : ∃ k, m = k + 1 := ⟨m - 1, by omega⟩; exact .lst h1 h2 h3 fun i x d a b => ih i x d a b (by omega)
  | tup h1 h2 h3 _ ih => obtain ⟨k, rfl⟩ : ∃ k, m = k + 1 := ⟨m - 1, by omega⟩; exact .tup h1 h2 h3 fun i x d a b => ih i x d a b (by omega)
/-- rows of data beside their values -/
def DkAll (K : PySem.W.Frag) (H : Hp) (n : Nat) (xs : List V) (ds : List PyData) : Prop := xs.length = ds.length ∧ ∀ (i : Nat) (x : V) (d : PyData), xs[i]? = some x → ds[i]? = some d → Dk K H n x d
theorem DkAll.nil {K : PySem.W.Frag} {H : Hp} {n : Nat} : DkAll K H n [] [] := ⟨rfl, fun i x d h => by simp at h⟩
theorem DkAll.cons {K : PySem.W.Frag} {H : Hp} {n : Nat} {x : V} {d : PyData} {xs : List V} {ds : List PyData} (h : Dk K H n x d) (t : DkAll K H n xs ds) : DkAll K H n (x :: xs) (d :: ds) :=
  ⟨by rw [List.length_cons, List.length_cons, t.1], fun i u v hu hv => match i, hu, hv with
    | 0, hu, hv => by cases hu; cases hv; exact h
    | i + 1, hu, hv => t.2 i u v hu hv⟩
theorem DkAll.tup {K : PySem.W.Frag} {H : Hp} {n : Nat} {xs : List V} {ds : List PyData} {a : Addr} (t : DkAll K H n xs ds) (h : SqT K H a xs) (z : Nat.ble xs.length 100000 = true := by rfl) : Dk K H (n + 1) (.ref a) (.tuple ds) := .tup h t.1 (Nat.le_of_ble_eq_true z) t.2
theorem DkAll.lst {K : PySem.W.Frag} {H : Hp} {n : Nat} {xs : List V} {ds : List PyData} {a : Addr} (t : DkAll K H n xs ds) (h : H a = some (.lst xs)) (z : Nat.ble xs.length 100000 = true := by rfl) : Dk K H (n + 1) (.ref a) (.list ds) := .lst h t.1 (Nat.le_of_ble_eq_true z) t.2
/-- the data of a fraction, of a juice -/
def dq (q : Rat) : PyData := .tuple [.int q.num, .int (q.den : Int)]
def dj (s w : Rat) : PyData := .tuple [dq s, dq w]
theorem FrQ.dk {K : PySem.W.Frag} {H : Hp} {x : Addr} {q : Rat} (h : FrQ K H x q) (n : Nat := 0) : Dk K H (n + 2) (.ref x) (dq q) := DkAll.tup (.cons (.int _ _) (.cons (.int _ _) .nil)) h
theorem JuQ.dk {K : PySem.W.Frag} {H : Hp} {x : Addr} {s w : Rat} (h : JuQ K H x s w) (n : Nat := 0) : Dk K H (n + 3) (.ref x) (dj s w) := by
  obtain ⟨a, b, h1, h2, h3⟩ := h
  exact DkAll.tup (.cons (h2.dk n) (.cons (h3.dk n) .nil)) h1
/-- forty figures -/
theorem b133 {n : Nat} (h : n < 10 ^ 40) : n < 2 ^ 133 := Nat.lt_trans h (by decide)
/-- a fraction or None -/
def OQ (K : PySem.W.Frag) (H : Hp) (v : V) : Option Rat → Prop
  | none => v = .non
  | some q => ∃ x, v = .ref x ∧ FrQ K H x q
theorem OQ.same {K : PySem.W.Frag} {H H' : Hp} {v : V} {o : Option Rat} (h : OQ K H v o) (e : Same H H') : OQ K H' v o := by
  cases o with
  | none => exact h
  | some q =>
    obtain ⟨x, e1, h1⟩ := h
    exact ⟨x, e1, h1.same e⟩
def oq : Option Rat → PyData
  | none => .none
  | some q => dq q
theorem OQ.dk {K : PySem.W.Frag} {H : Hp} {v : V} {o : Option Rat} (h : OQ K H v o) (n : Nat := 0) : Dk K H (n + 2) v (oq o) := by
  cases o with
  | none => rw [show v = .non from h]; exact .non _
  | some q =>
    obtain ⟨x, e1, h1⟩ := h
    rw [e1]
    exact h1.dk n
/-- the strength of a juice -/
def stren (s w : Rat) : Option Rat := if s + w = 0 then none else some (s / (s + w))
theorem stren_part {s w t : Rat} (h : t ≠ 0) : stren (s * t) (w * t) = stren s w := by
  unfold stren
  by_cases c : s + w = 0
  · rw [if_pos c, if_pos (by grind)]
  · rw [if_neg c, if_neg (by grind)]
    congr 1
    grind
theorem stren_more {s w t : Rat} (h : 0 ≤ t) : stren (s + s * t) (w + w * t) = stren s w := by
  have e1 : s + s * t = s * (1 + t) := by grind
  have e2 : w + w * t = w * (1 + t) := by grind
  rw [e1, e2]
  exact stren_part (by grind)
theorem strength_between {s w x y : Rat} (hs : 0 ≤ s) (hw : 0 ≤ w) (hx : 0 ≤ x) (hy : 0 ≤ y) (h1 : s + w ≠ 0) (h2 : x + y ≠ 0) (le : s / (s + w) ≤ x / (x + y)) :
    s / (s + w) ≤ (s + x) / (s + x + (w + y)) ∧ (s + x) / (s + x + (w + y)) ≤ x / (x + y) := by
  have p1 : 0 < s + w := by grind
  have p2 : 0 < x + y := by grind
  have p3 : 0 < s + x + (w + y) := by grind
  generalize ea : s / (s + w) = a at *
  generalize eb : x / (x + y) = b at *
  have sa : s = a * (s + w) := by grind
  have xb : x = b * (x + y) := by grind
  have d : 0 ≤ b - a := by grind
  constructor
  · refine le_div p3 ?_
    have k := Rat.mul_nonneg d (Rat.le_of_lt p2)
    grind
  · refine div_le p3 ?_
    have k := Rat.mul_nonneg d (Rat.le_of_lt p1)
    grind
theorem is_zero {q : Rat} : decide (q.num = 0 ∧ (q.den : Int) = 1) = decide (q = 0) := by
  rw [decide_eq_decide]
  constructor
  · rintro ⟨h, _⟩
    exact num_zero.mp h
  · rintro rfl
    exact ⟨rfl, rfl⟩
/-- boiling -/
def wat (s u : Rat) : Rat := s / u - s
def boil (s w : Rat) (f : Int) (u h : Rat) : Rat := if wat s u < w then (if w - f * h < wat s u then wat s u else w - f * h) else w
theorem rq_wat (s u : Rat) (hu : u ≠ 0) : rq (s.num * ((u.den : Int) - u.num)) (s.den * u.num) = wat s u := by
  have e1 := rat_nd s
  have e2 := rat_nd u
  have h1 := den_ne s
  have h2 := den_ne u
  have h3 := int_ne (num_ne hu)
  unfold rq wat
  rw [Rat.intCast_mul, Rat.intCast_mul, Rat.intCast_sub]
  generalize ((s.den : Int) : Rat) = d at *
  generalize (s.num : Rat) = n at *
  generalize ((u.den : Int) : Rat) = d2 at *
  generalize (u.num : Rat) = n2 at *
  rw [← e1, ← e2]
  grind
theorem Sz.add {m n : Nat} {p q : Rat} (h : Sz m p) (k : Sz n q) : Sz (m + n + 1) (p + q) := by
  rw [← rq_add]
  exact sz_rq (Int.mul_ne_zero (den_ne' p) (den_ne' q)) (lt_up (add_lt (wide_lt h.1 k.2) (lt_up (wide_lt k.1 h.2) (by omega : n + m ≤ m + n))) (by omega)) (lt_up (wide_lt h.2 k.2) (by omega))
theorem Sz.sub {m n : Nat} {p q : Rat} (h : Sz m p) (k : Sz n q) : Sz (m + n + 1) (p - q) := by
  rw [← rq_sub]
  exact sz_rq (Int.mul_ne_zero (den_ne' p) (den_ne' q)) (lt_up (sub_lt (wide_lt h.1 k.2) (lt_up (wide_lt k.1 h.2) (by omega : n + m ≤ m + n))) (by omega)) (lt_up (wide_lt h.2 k.2) (by omega))
theorem Sz.mul {m n : Nat} {p q : Rat} (h : Sz m p) (k : Sz n q) : Sz (m + n) (p * q) := by
  rw [← rq_mul]
  exact sz_rq (Int.mul_ne_zero (den_ne' p) (den_ne' q)) (wide_lt h.1 k.1) (wide_lt h.2 k.2)
theorem Sz.wat {m n : Nat} {s u : Rat} (h : Sz m s) (k : Sz n u) (hu : u ≠ 0) : Sz (m + n + 1) (wat s u) := by
  rw [← rq_wat s u hu]
  exact sz_rq (Int.mul_ne_zero (den_ne' s) (num_ne hu)) (lt_up (wide_lt h.1 (sub_lt k.2 k.1)) (by omega)) (lt_up (wide_lt h.2 k.1) (by omega))
theorem Sz.boil {a b c n N : Nat} {s w u h : Rat} {f : Int} (zs : Sz a s) (zu : Sz n u) (hu : u ≠ 0) (zw : Sz b w) (zh : Sz c h) (hf : f.natAbs < 2 ^ 14) (h1 : a + n + 1 ≤ N) (h2 : b + (14 + c) + 1 ≤ N) : Sz N (KR.boil s w f u h) := by
  unfold KR.boil
  split
  · split
    · exact (Sz.wat zs zu hu).up h1
    · exact (Sz.sub zw (Sz.mul (Sz.int hf (by decide)) zh)).up h2
  · exact zw.up (by omega)
theorem boil_zero {s w u : Rat} {f : Int} : boil s w f u 0 = w := by
  unfold boil
  rw [Rat.mul_zero]
  split <;> grind
theorem boil_boil {s w u h k : Rat} {f : Int} (hf : 0 ≤ f) (hh : 0 ≤ h) (hk : 0 ≤ k) : boil s (boil s w f u h) f u k = boil s w f u (h + k) := by
  have f0 := cast_nn hf
  have a0 := Rat.mul_nonneg f0 hh
  have b0 := Rat.mul_nonneg f0 hk
  unfold boil
  rw [Rat.mul_add]
  generalize (f : Rat) * h = a at *
  generalize (f : Rat) * k = b at *
  generalize wat s u = L
  grind
theorem boil_fire {s w u h : Rat} {f g : Int} (hf : f ≤ g) (hh : 0 ≤ h) : boil s w g u h ≤ boil s w f u h := by
  have k := Rat.mul_nonneg (cast_nn (show 0 ≤ g - f by omega)) hh
  rw [Rat.intCast_sub] at k
  unfold boil
  generalize wat s u = L
  have e : ((g : Rat) - (f : Rat)) * h = (g : Rat) * h - (f : Rat) * h := by grind
  rw [e] at k
  generalize (f : Rat) * h = a at *
  generalize (g : Rat) * h = b at *
  grind
theorem boil_two {s w u h : Rat} {f : Int} : boil (s + s) (w + w) (2 * f) u h = boil s w f u h + boil s w f u h := by
  unfold boil
  have e : wat (s + s) u = wat s u + wat s u := by
    unfold wat
    grind
  rw [e, Rat.intCast_mul]
  have e2 : ((2 : Int) : Rat) * (f : Rat) * h = (f : Rat) * h + (f : Rat) * h := by
    have e3 : ((2 : Int) : Rat) = 2 := rfl
    rw [e3]
    grind
  rw [e2]
  generalize (f : Rat) * h = a at *
  generalize wat s u = L at *
  grind
theorem Sz.div {m n : Nat} {p q : Rat} (h : Sz m p) (k : Sz n q) (hq : q ≠ 0) : Sz (m + n) (p / q) := by
  rw [← rq_div]
  exact sz_rq (Int.mul_ne_zero (den_ne' p) (num_ne hq)) (wide_lt h.1 k.2) (wide_lt h.2 k.1)
theorem rq_divi (r : Rat) (f : Int) : rq r.num (r.den * f) = r / (f : Rat) := by
  have e := rq_div r (f : Rat)
  rw [← e]
  show rq r.num (r.den * f) = rq (r.num * 1) (r.den * f)
  rw [Int.mul_one]
theorem FrQ.dp {K : PySem.W.Frag} {H : Hp} {x : Addr} {q : Rat} (h : FrQ K H x q) : Dp K H (.ref x) (dq q) := .tup h (.cons (.int _) (.cons (.int _) .nil))
theorem JuQ.dp {K : PySem.W.Frag} {H : Hp} {x : Addr} {s w : Rat} (h : JuQ K H x s w) : Dp K H (.ref x) (dj s w) := by
  obtain ⟨a, b, h1, h2, h3⟩ := h
  exact .tup h1 (.cons h2.dp (.cons h3.dp .nil))
theorem eqv_dq (a b : Rat) : PyData.eqv (dq a) (dq b) = decide (a = b) := by
  refine eqv_pair.trans ?_
  rw [decide_eq_decide]
  constructor
  · rintro ⟨h1, h2⟩
    exact Rat.ext h1 (by omega)
  · rintro rfl
    exact ⟨rfl, rfl⟩
theorem OQ.dp {K : PySem.W.Frag} {H : Hp} {v : V} {o : Option Rat} (h : OQ K H v o) : Dp K H v (oq o) := by
  cases o with
  | none => rw [show v = .non from h]; exact .non
  | some q =>
    obtain ⟨x, e1, h1⟩ := h
    rw [e1]
    exact h1.dp
theorem oq_fit (o : Option Rat) : PyData.canLay0 (oq o) = true ∧ PyData.depth (oq o) ≤ 60 := by
  cases o with
  | none => exact ⟨rfl, by decide⟩
  | some q => exact ⟨rfl, by show 1 ≤ 60; decide⟩
/-- when a juice is ready -/
def ready (s w : Rat) (f : Int) (u : Rat) : Option Rat := if s = 0 then none else if wat s u < w then (if f = 0 then none else some ((w - wat s u) / (f : Rat))) else some 0
theorem wat_nn {s u : Rat} (hs : 0 ≤ s) (u0 : 0 < u) (u1 : u < 1) : 0 ≤ wat s u := by
  have k := Rat.mul_nonneg hs (show 0 ≤ 1 - u by grind)
  have h : s ≤ s / u := le_div u0 (by grind)
  unfold wat
  grind
theorem on_way {s w u : Rat} {f : Int} (hs : 0 < s) (u0 : 0 < u) (u1 : u < 1) (hf : 0 < f) (lt : wat s u < w) {t : Rat} (et : t = (w - wat s u) / (f : Rat)) :
    boil s w f u t = wat s u ∧ stren s (wat s u) = some u ∧ 0 < t ∧ ∀ h : Rat, 0 < h → (boil s w f u (t + h) = wat s u ∧ (h ≤ 1 → ∃ q, stren s (boil s w f u (t * h)) = some q ∧ (q = u ↔ h = 1) ∧ ready s (boil s w f u (t * h)) f u = some (t - t * h))) := by
  have f0 := cast_pos hf
  have fne : (f : Rat) ≠ 0 := by grind
  have ft : (f : Rat) * t = w - wat s u := by rw [et]; grind
  have wn := wat_nn (Rat.le_of_lt hs) u0 u1
  have tp : 0 < t := by
    rw [et]
    exact (Rat.lt_div_iff f0).mpr (by grind)
  refine ⟨?_, ?_, tp, fun h hh => ⟨?_, fun h1 => ?_⟩⟩
  · unfold boil
    rw [ft]
    grind
  · have e : s + wat s u = s / u := by
      unfold wat
      grind
    have ne : s / u ≠ 0 := by grind
    unfold stren
    rw [e, if_neg ne]
    congr 1
    grind
  · have k := Rat.mul_pos f0 hh
    unfold boil
    rw [Rat.mul_add, ft]
    grind
  · have d : 0 < w - wat s u := by grind
    have k := Rat.mul_nonneg (Rat.le_of_lt d) (show 0 ≤ 1 - h by grind)
    have e : (f : Rat) * (t * h) = (w - wat s u) * h := by rw [← ft]; grind
    have eb : boil s w f u (t * h) = w - (w - wat s u) * h := by
      unfold boil
      rw [e]
      grind
    have xge : wat s u ≤ w - (w - wat s u) * h := by grind
    have sx : s + (w - (w - wat s u) * h) ≠ 0 := by grind
    rw [eb]
    refine ⟨s / (s + (w - (w - wat s u) * h)), if_neg sx, ⟨fun q => ?_, fun q => ?_⟩, ?_⟩
    · have q2 : s = u * (s + (w - (w - wat s u) * h)) := by grind
      have q3 : wat s u = w - (w - wat s u) * h := by
        unfold wat at *
        grind
      have q4 : (w - wat s u) * (1 - h) = 0 := by grind
      have q5 : 1 - h = 0 := by
        rcases Rat.mul_eq_zero.mp q4 with z | z
        · grind
        · exact z
      grind
    · rw [q]
      have e2 : s + (w - (w - wat s u) * 1) = s / u := by
        unfold wat
        grind
      rw [e2]
      grind
    · unfold ready
      rw [if_neg (by grind)]
      by_cases c : wat s u < w - (w - wat s u) * h
      · rw [if_pos c, if_neg (by omega)]
        congr 1
        rw [et]
        grind
      · rw [if_neg c]
        have q4 : (w - wat s u) * (1 - h) = 0 := by grind
        have q5 : 1 - h = 0 := by
          rcases Rat.mul_eq_zero.mp q4 with z | z
          · grind
          · exact z
        have q6 : h = 1 := by grind
        rw [q6]
        congr 1
        grind
/-- a thing is not among those of a tuple -/
def rNoTup (K : PySem.W.Frag) : R2 := fun x y H Q => ∃ d ds, Dp K H x d ∧ Dp K H y (.tuple ds) ∧ PyData.canLay0 d = true ∧ PyData.canLayAll0 ds = true ∧ PyData.depth d ≤ 60 ∧ Q (.bl (!ds.any fun z => PyData.eqv z d)) H
theorem notTup {X : Cx} {K : PySem.W.Frag} (hK : X.K = K) (room : X.A.units + 64 < cLine) : OpR X (compareOp .NotIn) (rNoTup K) := by
  subst hK
  intro pn s0 σ H x y v1 v2 Q I a1 a2 h
  obtain ⟨d, ds, h1, h2, h3, h4, h5, q⟩ := h
  obtain ⟨as1, r1⟩ := Dp.reads I d x v1 h1 a1
  obtain ⟨as2, r2⟩ := Dp.reads I (.tuple ds) y v2 h2 a2
  exact SeqAt.notIn_tuple_reads r2 r1 h4 h3 (by omega) ⟨.bl _, H, I, rfl, q⟩
/-- a juice in, a juice and a share in, two juices in -/
def sp_j2 (K : PySem.W.Frag) : Sp := fun vs H Q _ => ∃ (x y : Addr) (s w s' w' : Rat) (m n : Nat), vs = [.ref x, .ref y] ∧ JuQ K H x s w ∧ JuQ K H y s' w' ∧ Sz m s ∧ Sz m w ∧ Sz n s' ∧ Sz n w' ∧ m + n ≤ 1900 ∧
  ∀ z H', Same H H' → JuQ K H' z (s + s') (w + w') → Sz (m + n + 1) (s + s') → Sz (m + n + 1) (w + w') → Q (.ref z) H'
def sp_jt (K : PySem.W.Frag) (f : Rat → Rat) : Sp := fun vs H Q _ => ∃ (x y : Addr) (s w t : Rat) (m n : Nat), vs = [.ref x, .ref y] ∧ JuQ K H x s w ∧ FrQ K H y t ∧ Sz m s ∧ Sz m w ∧ Sz n t ∧ m + n ≤ 900 ∧ n ≤ 400 ∧
  ∀ z H', Same H H' → JuQ K H' z (s * f t) (w * f t) → Sz (m + n + 10) (s * f t) → Sz (m + n + 10) (w * f t) → Q (.ref z) H'
def sp_vol (K : PySem.W.Frag) : Sp := fun vs H Q _ => ∃ (x : Addr) (s w : Rat) (m : Nat), vs = [.ref x] ∧ JuQ K H x s w ∧ Sz m s ∧ Sz m w ∧ m ≤ 900 ∧ ∀ z H', Same H H' → FrQ K H' z (s + w) → Sz (m + m + 1) (s + w) → Q (.ref z) H'
def sp_str (K : PySem.W.Frag) : Sp := fun vs H Q _ => ∃ (x : Addr) (s w : Rat) (m : Nat), vs = [.ref x] ∧ JuQ K H x s w ∧ Sz m s ∧ Sz m w ∧ m ≤ 600 ∧ ∀ v H', Same H H' → OQ K H' v (stren s w) → (∀ q, stren s w = some q → Sz (3 * m + 2) q) → Q v H'
end KR
/-! ### walks over things that may be lists or tuples: for, enumerate, zip -/
namespace KR
open PySem PySem.Spec PyProof.Rows L2
/-- a list, or a tuple -/
def SqB (K : PySem.W.Frag) (H : Hp) (a : Addr) (xs : List V) : Bool → Prop
  | true => SqL K H a xs
  | false => SqT K H a xs
def ItB (h : Heap) (it a : Addr) (i : Nat) : Bool → Prop
  | true => h.IsListIter it a i
  | false => h.IsTupleIter it a i
def IsB (h : Heap) (a : Addr) (items : Array Value) : Bool → Prop
  | true => h.IsList a items
  | false => h.IsTuple a items
def objB (a : Addr) : Bool → Obj
  | true => { cls := .type "list_iterator", data := .fields #[.ref a, .int 0 0] }
  | false => { cls := .type "tuple_iterator", data := .fields #[.ref a, .int 0 0] }
theorem SqB.same {K : PySem.W.Frag} {H H' : Hp} {a : Addr} {xs : List V} {b : Bool} (h : SqB K H a xs b) (s : Same H H') : SqB K H' a xs b := by
  cases b with
  | true => exact s.seq h
  | false => exact Same.tup s h
theorem draws_b {prog : Program} {w : World} {A : Around} (hh : A.handled = none) (it a : Addr) (ne : a ≠ it) (items : Array Value) (b : Bool) :
    Draws prog w A it [it, a] items.size (fun i v => items[i]? = some v) (fun i h => ItB h it a i b ∧ IsB h a items b) := by
  cases b with
  | true => exact Draws.list hh it a ne items
  | false => exact Draws.tuple hh it a ne items
theorem begins_b (a : Addr) (items : Array Value) (b : Bool) : Begins (.ref a) (objB a b) fun h => IsB h a items b := by
  cases b with
  | true => exact begins_list a items
  | false => exact begins_tuple a items
theorem first_b {h : Heap} {it a : Addr} {b : Bool} (e : h.get? it = some (objB a b)) : ItB h it a 0 b := by
  cases b with
  | true => exact ⟨_, e, rfl, rfl⟩
  | false => exact ⟨_, e, rfl, rfl⟩
theorem ItB.obj {h : Heap} {it a : Addr} {i : Nat} {b : Bool} (t : ItB h it a i b) : ∃ o, h.get? it = some o ∧ ∀ v, o.data ≠ .cell v := by
  cases b with
  | true =>
    obtain ⟨o, e, _, d⟩ := t
    exact ⟨o, e, fun v q => by rw [d] at q; cases q⟩
  | false =>
    obtain ⟨o, e, _, d⟩ := t
    exact ⟨o, e, fun v q => by rw [d] at q; cases q⟩
theorem ItB.keep {h h' : Heap} {it a : Addr} {i : Nat} {b : Bool} (t : ItB h it a i b) (k : ∀ o, h.get? it = some o → h'.get? it = some o) : ItB h' it a i b := by
  cases b with
  | true =>
    obtain ⟨o, e, r⟩ := t
    exact ⟨o, k _ e, r⟩
  | false =>
    obtain ⟨o, e, r⟩ := t
    exact ⟨o, k _ e, r⟩
section
variable {X : Cx} {pins : List (Addr × Obj)} {σ : L2.St} {H : Hp} {s : Shared} {a : Addr} {xs ys : List V} {b : Bool}
theorem inv_b (I : Inv X pins σ H s) (h : SqB X.K H a xs b) : ∃ its : List Value, Vals xs its ∧ IsB s.heap a its.toArray b ∧ a < s.heap.objs.size := by
  cases b with
  | true =>
    obtain ⟨its, rv, p, _⟩ := I.list h
    exact ⟨its, rv, p.isList, p.lt⟩
  | false =>
    obtain ⟨its, rv, p, _⟩ := I.tuple h
    obtain ⟨o, e, _⟩ := id p
    exact ⟨its, rv, p, Heap.lt_size e⟩
theorem inj_b (I : Inv X pins σ H s) (h : SqB X.K H a xs b) (k : SqB X.K H a ys b) : xs = ys := by
  cases b with
  | true => exact I.list_inj h k
  | false => exact I.tuple_inj h k
end
/-- pairs of what two things hold -/
def ItzB (K : PySem.W.Frag) (a b : Addr) (p q : Bool) : It :=
  ⟨fun i H => ∃ (xs ys : List V) (x y : V), SqB K H a xs p ∧ SqB K H b ys q ∧ xs[i]? = some x ∧ ys[i]? = some y,
    fun i H v H' => ∃ T x y, v = .ref T ∧ H T = none ∧ H' = upd H T (.tup [x, y]) ∧ (∀ xs, SqB K H a xs p → xs[i]? = some x) ∧ ∀ ys, SqB K H b ys q → ys[i]? = some y,
    fun i H => ∃ xs ys : List V, SqB K H a xs p ∧ SqB K H b ys q ∧ xs.length = i ∧ ys.length = i⟩
theorem turn_zipB {P : Program} {w : World} {K : PySem.W.Frag} {elts : List Expr} {kk : Nat} {tpos : Pos} {a b : Addr} {p q : Bool} {N : Nat} (la : a < N) (lb : b < N) :
    Turn P w K (.Tuple elts kk tpos) (ItzB K a b p q) [N + 4, N + 2, N + 3, N, N + 1] (N + 4) (fun i h => IsZip h (N + 4) (N + 2) (N + 3) .none ∧ IsTupOf2 h (N + 2) (.ref N) (.ref (N + 1)) ∧ (∃ x y, IsTupOf2 h (N + 3) x y) ∧ ItB h N a i p ∧ ItB h (N + 1) b i q) where
  mem := List.mem_cons_self
  obj := fun i h st c hc => by
    obtain ⟨st1, st2, ⟨x, y, st3⟩, st4, st5⟩ := st
    have cs : c = N + 4 ∨ c = N + 2 ∨ c = N + 3 ∨ c = N ∨ c = N + 1 := by simpa using hc
    rcases cs with rfl | rfl | rfl | rfl | rfl
    · exact ⟨_, st1, nofun⟩
    · exact ⟨_, st2, nofun⟩
    · exact ⟨_, st3, nofun⟩
    · exact st4.obj
    · exact st5.obj
  keep := fun i h h' st k => by
    obtain ⟨st1, st2, ⟨x, y, st3⟩, st4, st5⟩ := st
    exact ⟨k _ (by simp) _ st1, k _ (by simp) _ st2, ⟨x, y, k _ (by simp) _ st3⟩, st4.keep (k _ (by simp)), st5.keep (k _ (by simp))⟩
  item := by
    intro X hP hw hK hc i pins s σ H E I hf st hg
    subst hP hw hK
    obtain ⟨st1, st2, ⟨x0, y0, st3⟩, st4, st5⟩ := st
    obtain ⟨xs, ys, x, y, sx, sy, gx, gy⟩ := hg
    obtain ⟨its, rv, ia, _⟩ := inv_b I sx
    obtain ⟨its2, rv2, ib, _⟩ := inv_b I sy
    obtain ⟨u, hu, ru⟩ := rv.get gx
    obtain ⟨u2, hu2, ru2⟩ := rv2.get gy
    have calm : X.A.in1.handled = none := I.ok.hd hc
    have S : ZipSep2 (N + 4) (N + 2) (N + 3) N (N + 1) [N, a] [N + 1, b] := zip_sep2 (fun c z => by rw [List.mem_singleton.mp z]; exact la) (fun c z => by rw [List.mem_singleton.mp z]; exact lb)
    have zlt : N + 4 < s.heap.objs.size := Heap.lt_size st1
    have i1 : i < its.toArray.size := by
      rw [List.size_toArray]
      exact (List.getElem?_eq_some_iff.mp hu).1
    have i2 : i < its2.toArray.size := by
      rw [List.size_toArray]
      exact (List.getElem?_eq_some_iff.mp hu2).1
    refine wpAny_pyNext_zipD2_item S (draws_b calm N a (Nat.ne_of_lt la) its.toArray p) (draws_b calm (N + 1) b (Nat.ne_of_lt (Nat.lt_succ_of_lt lb)) its2.toArray q) st1 st2 st3 ⟨st4, ia⟩ ⟨st5, ib⟩ i1 i2 fun v1 v2 h' tk p1 p2 z' TO' t1' t2' hT hsz hk => ?_
    have p1' : its.toArray[i]? = some v1 := p1
    have p2' : its2.toArray[i]? = some v2 := p2
    rw [List.getElem?_toArray, hu] at p1'
    rw [List.getElem?_toArray, hu2] at p2'
    obtain rfl := Option.some.inj p1'
    obtain rfl := Option.some.inj p2'
    refine ⟨_, rfl, wpAny_letOwnedTupleGo_zip (s := { s with heap := h', toks := tk }) z' fun h'' z'' sb => ?_⟩
    have hT2 : h''.get? s.heap.objs.size = some { cls := .type "tuple", data := .seq #[u, u2] } := (sb.2 _ (Nat.ne_of_gt zlt)).trans hT
    have new : ObjOk X.prog X.w (upd H s.heap.objs.size (.tup [x, y])) h'' s.heap.objs.size (.tup [x, y]) :=
      ⟨small (by show 2 ≤ 100000; decide), [u, u2], .cons ru (.cons ru2 .nil), ⟨_, hT2, rfl, _, rfl⟩⟩
    have out : ∀ {c : Nat}, c ∉ [N + 4, N + 2, N + 3, N, N + 1] → c ≠ N + 4 ∧ c ≠ N + 3 ∧ c ≠ N ∧ c ≠ N + 1 := fun {c} n => ⟨fun q => n (by simp [q]), fun q => n (by simp [q]), fun q => n (by simp [q]), fun q => n (by simp [q])⟩
    have I1 : Inv X pins σ (upd H s.heap.objs.size (.tup [x, y])) { s with heap := h'', toks := tk } :=
      I.turnedNew (t' := tk) (ch := [N + 4, N + 2, N + 3, N, N + 1]) (fun c o hb q => by
        obtain ⟨n1, n2, n3, n4⟩ := out hb
        exact (sb.2 c n1).trans (hk c o n1 n2 n3 n4 q)) hf (Nat.le_refl _) new
    have d1 : (N + 2 : Nat) ≠ N + 4 := by omega
    have d2 : (N + 3 : Nat) ≠ N + 4 := by omega
    have d3 : (N : Nat) ≠ N + 4 := by omega
    have d4 : (N + 1 : Nat) ≠ N + 4 := by omega
    have d5 : (N + 2 : Nat) ≠ N + 3 ∧ (N + 2 : Nat) ≠ N ∧ (N + 2 : Nat) ≠ N + 1 := by omega
    refine ⟨.ref s.heap.objs.size, _, I1, rfl, ⟨_, x, y, rfl, I.hok.fresh (Nat.le_refl _), rfl, fun l hl => by rw [inj_b I hl sx]; exact gx, fun l hl => by rw [inj_b I hl sy]; exact gy⟩, ⟨z'', ?_, ⟨u, u2, ?_⟩, ?_, ?_⟩, fun c hcm => ?_⟩
    · exact (sb.2 _ d1).trans (hk _ _ d1 d5.1 d5.2.1 d5.2.2 st2)
    · exact (sb.2 _ d2).trans TO'
    · exact t1'.1.keep fun o e => (sb.2 _ d3).trans e
    · exact t2'.1.keep fun o e => (sb.2 _ d4).trans e
    · have hlt : c < s.heap.objs.size := by
        have cs : c = N + 4 ∨ c = N + 2 ∨ c = N + 3 ∨ c = N ∨ c = N + 1 := by simpa using hcm
        have : (c : Nat) ≤ N + 4 := by
          rcases cs with q | q | q | q | q <;> rw [q]
          · exact Nat.le_refl _
          · exact Nat.add_le_add_left (by decide : 2 ≤ 4) N
          · exact Nat.add_le_add_left (by decide : 3 ≤ 4) N
          · exact Nat.le_add_right _ _
          · exact Nat.add_le_add_left (by decide : 1 ≤ 4) N
        exact Nat.lt_of_le_of_lt this zlt
      rw [upd_ne (Nat.ne_of_lt hlt)]
      exact (hf c hcm).1
  done := by
    intro X hP hw hK hc i pins s σ H E I hf st hg
    subst hP hw hK
    obtain ⟨st1, st2, ⟨x0, y0, st3⟩, st4, st5⟩ := st
    obtain ⟨xs, ys, sx, sy, l1, l2⟩ := hg
    obtain ⟨its, rv, ia, _⟩ := inv_b I sx
    obtain ⟨its2, rv2, ib, _⟩ := inv_b I sy
    have k1 := rv.length
    have k2 := rv2.length
    have calm : X.A.in1.handled = none := I.ok.hd hc
    have S : ZipSep2 (N + 4) (N + 2) (N + 3) N (N + 1) [N, a] [N + 1, b] := zip_sep2 (fun c z => by rw [List.mem_singleton.mp z]; exact la) (fun c z => by rw [List.mem_singleton.mp z]; exact lb)
    have i1 : its.toArray.size = i := by rw [List.size_toArray]; omega
    have i2 : its2.toArray.size = i := by rw [List.size_toArray]; omega
    refine wpAny_pyNext_zipD2_end S (draws_b calm N a (Nat.ne_of_lt la) its.toArray p) (draws_b calm (N + 1) b (Nat.ne_of_lt (Nat.lt_succ_of_lt lb)) its2.toArray q) st1 st2 st3 ⟨st4, ia⟩ ⟨st5, ib⟩ (by omega) (by omega) (by omega) fun h' tk hk => ⟨rfl, ?_⟩
    exact I.turnedL (t' := tk) (ch := [N + 4, N + 2, N + 3, N, N + 1]) (fun c o hb q => hk c o (fun z => hb (by simp [z])) (fun z => hb (by simp [z])) (fun z => hb (by simp [z])) (fun z => hb (by simp [z])) q) hf
  self := fun A i s Q E st h => wpAny_pyIter_zip st.1 h
def iZipB (K : PySem.W.Frag) (ta : TA) : TI := fun σ H R => ta σ H fun vs H1 => ∃ (a b : Addr) (xs ys : List V) (p q : Bool), vs = [.ref a, .ref b] ∧ SqB K H1 a xs p ∧ SqB K H1 b ys q ∧ R (ItzB K a b p q) H1
theorem pi_zipB {X : Cx} {K : PySem.W.Frag} {e e2 : Expr} {ta : TA} {p pos tpos : Pos} {elts : List Expr} {kk : Nat} (hK : X.K = K) (glob : Gl X "zip") (free : X.mg "zip" = none) (args : PA X [e, e2] ta)
    (st : starEach [e, e2] X.env = (false, eval e X.env) :: starEach [e2] X.env := by rfl) (bk : (backTo pos (starEach [e2] X.env)).any (·.1) = false := by rfl) : PI X (.Tuple elts kk tpos) (.Call (.Name "zip" p) [e, e2] [] pos) (iZipB K ta) := by
  subst hK
  constructor
  intro pins s σ H R I ask
  refine Call_ (ld_blt I glob free PyProof.Rows.boot_zip (PyProof.Rows.callWith_type1 (thn (args.run pos pins s σ H _ I ask) ?_) st bk))
  rintro us s1 ⟨vs, H1, I1, rel, a, b, xs, ys, p, q, ev, sx, sy, k⟩
  subst ev
  cases rel with
  | cons r rr =>
    cases rr with
    | cons r' rr =>
      cases rr
      cases r
      cases r'
      have fresh5 : ∀ c, c ∈ [s1.heap.objs.size + 4, s1.heap.objs.size + 2, s1.heap.objs.size + 3, s1.heap.objs.size, s1.heap.objs.size + 1] → FpOk X pins H1 c := fun c hcm => by
        have cs : c = s1.heap.objs.size + 4 ∨ c = s1.heap.objs.size + 2 ∨ c = s1.heap.objs.size + 3 ∨ c = s1.heap.objs.size ∨ c = s1.heap.objs.size + 1 := by simpa using hcm
        have low : s1.heap.objs.size ≤ c := by rcases cs with q | q | q | q | q <;> rw [q] <;> first | exact Nat.le_refl _ | exact Nat.le_add_right _ _
        exact I1.fpOk low (I1.hok.fresh low)
      obtain ⟨its, _, ia, la⟩ := inv_b I1 sx
      obtain ⟨its2, _, ib, lb⟩ := inv_b I1 sy
      refine zip_begins2 (begins_b a its.toArray p) (begins_b b its2.toArray q) ia ib fun h' hz hTI hTO h1 h2 hsz hk => wpAny_pyIter_zip hz ?_
      have I2 : Inv X pins σ H1 { s1 with heap := h' } := I1.kept (t' := s1.toks) hk
      exact ⟨s1.heap.objs.size + 4, [s1.heap.objs.size + 4, s1.heap.objs.size + 2, s1.heap.objs.size + 3, s1.heap.objs.size, s1.heap.objs.size + 1], _, _, H1, rfl, I2, turn_zipB la lb, ⟨hz, hTI, ⟨_, _, hTO⟩, first_b h1, first_b h2⟩, fresh5, k⟩
theorem walk_zipB {K : PySem.W.Frag} {a b : Addr} {xs ys : List V} {p q : Bool} {n : Nat} (hx : xs.length = n) (hy : ys.length = n) :
    Walk (ItzB K a b p q) n (fun H => SqB K H a xs p ∧ SqB K H b ys q) (YPair (fun i => xs[i]?) (fun i => ys[i]?)) where
  goes := fun i H hi g => ⟨xs, ys, xs[i]'(by omega), ys[i]'(by omega), g.1, g.2, List.getElem?_eq_getElem _, List.getElem?_eq_getElem _⟩
  stops := fun H g => ⟨xs, ys, g.1, g.2, hx, hy⟩
  yields := fun i H v H' hi g y => by
    obtain ⟨T, x, y, rfl, hT, e, f1, f2⟩ := y
    exact ⟨T, x, y, rfl, hT, e, f1 _ g.1, f2 _ g.2⟩
/-- what a thing holds, counted -/
def IteB (K : PySem.W.Frag) (a : Addr) (p : Bool) : It :=
  ⟨fun i H => ∃ (xs : List V) (x : V), SqB K H a xs p ∧ xs[i]? = some x, fun i H v H' => ∃ T x, v = .ref T ∧ H T = none ∧ H' = upd H T (.tup [.int (i : Nat), x]) ∧ ∀ xs, SqB K H a xs p → xs[i]? = some x, fun i H => ∃ xs : List V, SqB K H a xs p ∧ xs.length = i⟩
theorem turn_enumB {P : Program} {w : World} {K : PySem.W.Frag} {elts : List Expr} {kk : Nat} {tpos : Pos} {a : Addr} {p : Bool} {N : Nat} (la : a < N) :
    Turn P w K (.Tuple elts kk tpos) (IteB K a p) [N + 1, N] (N + 1) (fun i h => (∃ old, IsEnum h (N + 1) N ((i : Nat) : Int) old) ∧ ItB h N a i p) where
  mem := List.mem_cons_self
  obj := fun i h st c hc => by
    obtain ⟨⟨old, st1⟩, st2⟩ := st
    have cs : c = N + 1 ∨ c = N := by simpa using hc
    rcases cs with rfl | rfl
    · exact ⟨_, st1, nofun⟩
    · exact st2.obj
  keep := fun i h h' st k => by
    obtain ⟨⟨old, st1⟩, st2⟩ := st
    exact ⟨⟨old, k _ (by simp) _ st1⟩, st2.keep (k _ (by simp))⟩
  item := by
    intro X hP hw hK hc i pins s σ H E I hf st hg
    subst hP hw hK
    obtain ⟨⟨old, st1⟩, st2⟩ := st
    obtain ⟨xs, x, sx, gx⟩ := hg
    obtain ⟨its, rv, ia, _⟩ := inv_b I sx
    obtain ⟨u, hu, ru⟩ := rv.get gx
    have calm : X.A.in1.handled = none := I.ok.hd hc
    have elt : N + 1 < s.heap.objs.size := Heap.lt_size st1
    have i1 : i < its.toArray.size := by
      rw [List.size_toArray]
      exact (List.getElem?_eq_some_iff.mp hu).1
    refine wpAny_pyNext_enum_itemC (draws_b calm N a (Nat.ne_of_lt la) its.toArray p) st1 ⟨st2, ia⟩ i1 (Nat.succ_ne_self N) (by
      intro z
      have cs : N + 1 = N ∨ N + 1 = a := by simpa using z
      have : ¬ (N + 1 = N) := Nat.succ_ne_self N
      rcases cs with q | q
      · exact this q
      · have la' : (a : Nat) < N := la
        rw [← q] at la'
        exact Nat.lt_irrefl N (Nat.lt_trans (Nat.lt_succ_self N) la')) fun v h' tk p1 out t1 hT hsz hk => ?_
    have p1' : its.toArray[i]? = some v := p1
    rw [List.getElem?_toArray, hu] at p1'
    obtain rfl := Option.some.inj p1'
    refine ⟨_, rfl, wpAny_letOwnedTupleGo_enum (s := { s with heap := h', toks := tk + 1 }) out fun h'' he' sb => ?_⟩
    have hT2 : h''.get? s.heap.objs.size = some { cls := .type "tuple", data := .seq #[.int i tk, u] } := (sb.2 _ (Nat.ne_of_gt elt)).trans hT
    have new : ObjOk X.prog X.w (upd H s.heap.objs.size (.tup [.int (i : Nat), x])) h'' s.heap.objs.size (.tup [.int (i : Nat), x]) :=
      ⟨small (by show 2 ≤ 100000; decide), [.int i tk, u], .cons ⟨_, rfl⟩ (.cons ru .nil), ⟨_, hT2, rfl, _, rfl⟩⟩
    have I1 : Inv X pins σ (upd H s.heap.objs.size (.tup [.int (i : Nat), x])) { s with heap := h'', toks := tk + 1 } :=
      I.turnedNew (t' := tk + 1) (ch := [N + 1, N]) (fun c o hb q => (sb.2 c (fun z => hb (by simp [z]))).trans (hk c o (fun z => hb (by simp [z])) (fun z => hb (by simp [z])) q)) hf (Nat.le_refl _) new
    refine ⟨.ref s.heap.objs.size, _, I1, rfl, ⟨_, x, rfl, I.hok.fresh (Nat.le_refl _), rfl, fun l hl => by rw [inj_b I hl sx]; exact gx⟩, ⟨⟨u, ?_⟩, ?_⟩, fun c hcm => ?_⟩
    · have e1 : ((i + 1 : Nat) : Int) = (i : Int) + 1 := by omega
      rw [e1]
      exact he'
    · exact t1.1.keep fun o e => (sb.2 _ (Nat.ne_of_lt (Nat.lt_succ_self N))).trans e
    · have hlt : c < s.heap.objs.size := by
        have cs : c = N + 1 ∨ c = N := by simpa using hcm
        rcases cs with q | q <;> rw [q]
        · exact elt
        · exact Nat.lt_trans (Nat.lt_succ_self N) elt
      rw [upd_ne (Nat.ne_of_lt hlt)]
      exact (hf c hcm).1
  done := by
    intro X hP hw hK hc i pins s σ H E I hf st hg
    subst hP hw hK
    obtain ⟨⟨old, st1⟩, st2⟩ := st
    obtain ⟨xs, sx, l1⟩ := hg
    obtain ⟨its, rv, ia, _⟩ := inv_b I sx
    have k1 := rv.length
    have calm : X.A.in1.handled = none := I.ok.hd hc
    have i1 : its.toArray.size = i := by rw [List.size_toArray]; omega
    refine wpAny_pyNext_enum_endD (draws_b calm N a (Nat.ne_of_lt la) its.toArray p) st1 (by rw [i1]; exact ⟨st2, ia⟩) fun h' hx => ⟨rfl, ?_⟩
    exact I.turnedL (t' := s.toks) (ch := [N + 1, N]) (fun c o hb q => hx c o (fun z => hb (by simp [z])) q) hf
  self := fun A i s Q E st h => by
    obtain ⟨⟨old, st1⟩, _⟩ := st
    exact wpAny_pyIter_enum st1 h
theorem enum1_meets {v : Value} {o : Obj} {G : Heap → Prop} (B : Begins v o G) :
    Meets (Builtin.«enumerate.__new__» ⟨[.type "enumerate", v], []⟩) (fun _ R s => G s.heap ∧ R (.ok (.ret (.ref (s.heap.push o).objs.size))) { s with heap := (s.heap.push o).push { cls := .type "enumerate", data := .fields #[.none, .bool false, .ref s.heap.objs.size, rawInt 0, .none, .none] } }) :=
  .of_wp fun prog w A R s ask => by
    obtain ⟨hp, g, d, tk, os⟩ := s; obtain ⟨g1, ask⟩ := ask
    have hsub := sub_enumerate
    have way : ∀ {A' : Around} {E : Value → Shared → Prop} {Q : Value → Shared → Prop}, Q (.ref hp.objs.size) ⟨hp.push o, g, d, tk, os⟩ → wpAny (model prog w) A' (pyIter v) Q E ⟨hp, g, d, tk, os⟩ := fun k => B.iter prog w _ _ ⟨hp, g, d, tk, os⟩ _ g1 k
    wp_walk using way
    refine wpAny_stack_any fun st => wpAny_pure ?_
    split
    · rename_i c _ _ _ _ _
      cases (c == Value.type "enumerate") <;> (wp_walk using way; exact ⟨_, rfl, ask⟩)
    · wp_walk using way
      exact ⟨_, rfl, ask⟩
theorem enum1_begins {prog : Program} {w : World} {A : Around} {E : Value → Shared → Prop} {s : Shared} {v : Value} {o : Obj} {G : Heap → Prop} {Q : Value → Shared → Prop} (B : Begins v o G) (g1 : G s.heap)
    (ask : ∀ h', IsEnum h' (s.heap.objs.size + 1) s.heap.objs.size 0 .none → h'.get? s.heap.objs.size = some o → h'.objs.size = s.heap.objs.size + 2 → (∀ b o, s.heap.get? b = some o → h'.get? b = some o) → Q (.ref (s.heap.objs.size + 1)) { s with heap := h' }) :
    wpAny (model prog w) A (call (.type "enumerate") [v]) Q E s := by
  refine callType_new F.called_enumerate (by decide) (F.typeCall_enumerate_1 _) (F.newCall_enumerate_1 _) (fun obj => F.args_object_init_2 obj _) F.entry_enumerate_new (enum1_meets B) ⟨g1, ?_⟩
  have sz : (s.heap.push o).objs.size = s.heap.objs.size + 1 := Heap.size_push ..
  show _ ∧ _
  rw [sz]
  have he : IsEnum ((s.heap.push o).push { cls := .type "enumerate", data := .fields #[.none, .bool false, .ref s.heap.objs.size, rawInt 0, .none, .none] }) (s.heap.objs.size + 1) s.heap.objs.size 0 .none := by
    have k := Heap.get?_push_size (s.heap.push o) (o := { cls := .type "enumerate", data := .fields #[.none, .bool false, .ref s.heap.objs.size, rawInt 0, .none, .none] }) rfl
    rw [sz] at k; exact k
  exact ⟨⟨_, he, rfl⟩, ask _ he (Heap.get?_push_of_some _ (Heap.get?_push_size _ B.free)) (by rw [Heap.size_push, sz]) fun b o x => Heap.get?_push_of_some _ (Heap.get?_push_of_some _ x)⟩
def iEnumB (K : PySem.W.Frag) (ta : TA) : TI := fun σ H R => ta σ H fun vs H1 => ∃ (a : Addr) (xs : List V) (p : Bool), vs = [.ref a] ∧ SqB K H1 a xs p ∧ R (IteB K a p) H1
theorem pi_enumB {X : Cx} {K : PySem.W.Frag} {e : Expr} {ta : TA} {p pos tpos : Pos} {elts : List Expr} {kk : Nat} (hK : X.K = K) (glob : Gl X "enumerate") (free : X.mg "enumerate" = none) (args : PA X [e] ta) (st : starEach [e] X.env = [(false, eval e X.env)] := by rfl) :
    PI X (.Tuple elts kk tpos) (.Call (.Name "enumerate" p) [e] [] pos) (iEnumB K ta) := by
  subst hK
  constructor
  intro pins s σ H R I ask
  refine Call_ (ld_blt I glob free boot_enumerate (PyProof.Rows.callWith_type1 (thn (args.run pos pins s σ H _ I ask) ?_) st rfl))
  rintro us s1 ⟨vs, H1, I1, rel, a, xs, p, ev, sx, k⟩
  subst ev
  cases rel with
  | cons r rr =>
    cases rr
    cases r
    obtain ⟨its, _, ia, la⟩ := inv_b I1 sx
    refine enum1_begins (begins_b a its.toArray p) ia fun h' he h1 hsz hk => wpAny_pyIter_enum he ?_
    have I2 : Inv X pins σ H1 { s1 with heap := h' } := I1.kept (t' := s1.toks) hk
    refine ⟨s1.heap.objs.size + 1, [s1.heap.objs.size + 1, s1.heap.objs.size], _, _, H1, rfl, I2, turn_enumB la, ⟨⟨.none, he⟩, first_b h1⟩, fun c hcm => ?_, k⟩
    have cs : c = s1.heap.objs.size + 1 ∨ c = s1.heap.objs.size := by simpa using hcm
    have low : s1.heap.objs.size ≤ c := by rcases cs with q | q <;> rw [q] <;> first | exact Nat.le_refl _ | exact Nat.le_add_right _ _
    exact I1.fpOk low (I1.hok.fresh low)
theorem walk_enumB {K : PySem.W.Frag} {a : Addr} {xs : List V} {p : Bool} : Walk (IteB K a p) xs.length (fun H => SqB K H a xs p) (YPair (fun i => some (.int (i : Nat))) (fun i => xs[i]?)) where
  goes := fun i H hi g => ⟨xs, xs[i]'(by omega), g, List.getElem?_eq_getElem _⟩
  stops := fun H g => ⟨xs, g, rfl⟩
  yields := fun i H v H' hi g y => by
    obtain ⟨T, x, rfl, hT, e, f⟩ := y
    exact ⟨T, _, x, rfl, hT, e, rfl, f _ g⟩
/-- for over a list or a tuple -/
def iSeqB (K : PySem.W.Frag) (tl : TE) : TI := fun σ H R => tl σ H fun x H1 => ∃ a, x = .ref a ∧ (((∃ xs, SqL K H1 a xs) ∧ R (Itl K a) H1) ∨ ((∃ xs, SqT K H1 a xs) ∧ R (Itt K a) H1))
theorem pi_seqB {X : Cx} {K : PySem.W.Frag} {tg l : Expr} {tl : TE} (hK : X.K = K) (hl : PE X l tl) : PI X tg l (iSeqB K tl) := by
  subst hK
  constructor
  intro pins s σ H R I ask
  refine thn (hl.run pins s σ H _ I ask) fun v s1 ⟨x, H1, I1, r1, a, e, q⟩ => ?_
  subst e
  have e1 : v = Value.ref a := r1
  subst e1
  rcases q with ⟨⟨xs, sx⟩, k⟩ | ⟨⟨xs, sx⟩, k⟩
  · obtain ⟨its, _, ia, _⟩ := I1.list sx
    refine wpAny_pyIter_list ia.isList ⟨s1.heap.objs.size, [s1.heap.objs.size], _, _, H1, rfl, I1.kept (t' := s1.toks) (fun b o e => Heap.get?_push_of_some _ e), turn_list a _, ⟨_, Heap.get?_push_size _ rfl, rfl, rfl⟩, fun c hc => ?_, k⟩
    rw [List.mem_singleton.mp hc]; exact I1.fpOk (Nat.le_refl _) (I1.hok.fresh (Nat.le_refl _))
  · obtain ⟨its, _, ia, _⟩ := I1.tuple sx
    refine wpAny_pyIter_tuple (show s1.heap.IsTuple a its.toArray from ia) ⟨s1.heap.objs.size, [s1.heap.objs.size], _, _, H1, rfl, I1.kept (t' := s1.toks) (fun b o e => Heap.get?_push_of_some _ e), turn_tuple a _, ⟨_, Heap.get?_push_size _ rfl, rfl, rfl⟩, fun c hc => ?_, k⟩
    rw [List.mem_singleton.mp hc]; exact I1.fpOk (Nat.le_refl _) (I1.hok.fresh (Nat.le_refl _))
/-- one rule for a list and a tuple -/
def ItsB (K : PySem.W.Frag) (a : Addr) : Bool → It
  | true => Itl K a
  | false => Itt K a
def iSeqU (K : PySem.W.Frag) (tl : TE) : TI := fun σ H R => tl σ H fun x H1 => ∃ (a : Addr) (xs : List V) (p : Bool), x = .ref a ∧ SqB K H1 a xs p ∧ R (ItsB K a p) H1
theorem pi_seqU {X : Cx} {K : PySem.W.Frag} {tg l : Expr} {tl : TE} (hK : X.K = K) (hl : PE X l tl) : PI X tg l (iSeqU K tl) := by
  subst hK
  constructor
  intro pins s σ H R I ask
  refine thn (hl.run pins s σ H _ I ask) fun v s1 ⟨x, H1, I1, r1, a, xs, p, e, sx, k⟩ => ?_
  subst e
  have e1 : v = Value.ref a := r1
  subst e1
  cases p with
  | true =>
    obtain ⟨its, _, ia, _⟩ := I1.list sx
    refine wpAny_pyIter_list ia.isList ⟨s1.heap.objs.size, [s1.heap.objs.size], _, _, H1, rfl, I1.kept (t' := s1.toks) (fun b o e => Heap.get?_push_of_some _ e), turn_list a _, ⟨_, Heap.get?_push_size _ rfl, rfl, rfl⟩, fun c hc => ?_, k⟩
    rw [List.mem_singleton.mp hc]; exact I1.fpOk (Nat.le_refl _) (I1.hok.fresh (Nat.le_refl _))
  | false =>
    obtain ⟨its, _, ia, _⟩ := I1.tuple sx
    refine wpAny_pyIter_tuple (show s1.heap.IsTuple a its.toArray from ia) ⟨s1.heap.objs.size, [s1.heap.objs.size], _, _, H1, rfl, I1.kept (t' := s1.toks) (fun b o e => Heap.get?_push_of_some _ e), turn_tuple a _, ⟨_, Heap.get?_push_size _ rfl, rfl, rfl⟩, fun c hc => ?_, k⟩
    rw [List.mem_singleton.mp hc]; exact I1.fpOk (Nat.le_refl _) (I1.hok.fresh (Nat.le_refl _))
theorem walk_seqU {K : PySem.W.Frag} {a : Addr} {xs : List V} {p : Bool} : Walk (ItsB K a p) xs.length (fun H => SqB K H a xs p) (YAt xs) := by
  cases p with
  | true => exact walk_list
  | false => exact walk_tup
end KR
/-! ### fractions of many bits: a common bottom, a bound -/
namespace KR
open PySem PySem.Spec PyProof.Rows L2
def sp_lowV : Sp := fun vs H Q _ => ∃ t b : Int, vs = [.int t, .int b] ∧ b ≠ 0 ∧ t.natAbs < 2 ^ 8900 ∧ b.natAbs < 2 ^ 8900 ∧ ∀ p H', Same H H' → H p = none → H' p = some (.tup [.int (low t b).1, .int (low t b).2]) → Q (.ref p) H'
def sp_lowW (K : PySem.W.Frag) : Sp := fun vs H Q _ => ∃ t b : Int, vs = [.int t, .int b] ∧ b ≠ 0 ∧ t.natAbs < 2 ^ 8900 ∧ b.natAbs < 2 ^ 8900 ∧ ∀ p H', Same H H' → H p = none → FrQ K H' p (rq t b) → Q (.ref p) H'
theorem lowW {K : PySem.W.Frag} {vs : List V} {H : Hp} {Q : VK} {E : XK} (h : sp_lowW K vs H Q E) : sp_lowV vs H Q E := by
  obtain ⟨t, b, e, hb, h1, h2, q⟩ := h
  refine ⟨t, b, e, hb, h1, h2, fun p H' s hp h' => q p H' s hp ?_⟩
  rw [rq_low hb] at h'
  exact .of h'
abbrev Big (q : Rat) : Prop := Sz 4400 q
def sp_w2 (K : PySem.W.Frag) (f : Rat → Rat → Rat) (ok : Rat → Rat → Prop) : Sp := fun vs H Q _ => ∃ (x y : Addr) (p q : Rat), vs = [.ref x, .ref y] ∧ FrQ K H x p ∧ FrQ K H y q ∧ Big p ∧ Big q ∧ ok p q ∧ ∀ z H', Same H H' → H z = none → FrQ K H' z (f p q) → Q (.ref z) H'
/-- so often as M tells it is a whole number -/
def Dv (M : Nat) (q : Rat) : Prop := ∃ z : Int, q * ((M : Int) : Rat) = (z : Rat)
theorem Dv.zero {M : Nat} : Dv M 0 := ⟨0, by rw [Rat.zero_mul]; rfl⟩
theorem Dv.int {M : Nat} (i : Int) : Dv M (i : Rat) := ⟨i * M, by rw [Rat.intCast_mul]⟩
theorem Dv.add {M : Nat} {p q : Rat} (h : Dv M p) (k : Dv M q) : Dv M (p + q) := by
  obtain ⟨a, ea⟩ := h
  obtain ⟨b, eb⟩ := k
  exact ⟨a + b, by rw [Rat.add_mul, ea, eb, Rat.intCast_add]⟩
theorem Dv.neg {M : Nat} {p : Rat} (h : Dv M p) : Dv M (-p) := by
  obtain ⟨a, ea⟩ := h
  exact ⟨-a, by rw [Rat.neg_mul, ea, Rat.intCast_neg]⟩
theorem Dv.sub {M : Nat} {p q : Rat} (h : Dv M p) (k : Dv M q) : Dv M (p - q) := by
  rw [Rat.sub_eq_add_neg]
  exact h.add k.neg
theorem Dv.mul {M N : Nat} {p q : Rat} (h : Dv M p) (k : Dv N q) : Dv (M * N) (p * q) := by
  obtain ⟨a, ea⟩ := h
  obtain ⟨b, eb⟩ := k
  refine ⟨a * b, ?_⟩
  rw [Rat.intCast_mul, ← ea, ← eb, Int.natCast_mul, Rat.intCast_mul]
  generalize ((M : Int) : Rat) = m
  generalize ((N : Int) : Rat) = n
  grind
theorem Dv.up {M N : Nat} {q : Rat} (h : Dv M q) (d : M ∣ N) : Dv N q := by
  obtain ⟨a, ea⟩ := h
  obtain ⟨k, rfl⟩ := d
  refine ⟨a * k, ?_⟩
  rw [Rat.intCast_mul, ← ea, Int.natCast_mul, Rat.intCast_mul]
  generalize ((M : Int) : Rat) = m
  generalize ((k : Int) : Rat) = n
  grind
theorem Dv.rq {t b : Int} (hb : 0 < b) : Dv b.natAbs (KR.rq t b) := by
  refine ⟨t, ?_⟩
  have e : ((b.natAbs : Nat) : Int) = b := by omega
  rw [e]
  have h := int_ne (show b ≠ 0 by omega)
  unfold KR.rq
  generalize (t : Rat) = x
  generalize (b : Rat) = y at *
  grind
theorem Dv.den (q : Rat) : Dv q.den q := by
  have k := Dv.rq (t := q.num) (b := (q.den : Int)) (by have := q.den_pos; omega)
  rw [rq_self, Int.natAbs_natCast] at k
  exact k
theorem rat_le_abs {z : Int} {M B : Nat} {q : Rat} (e : q * ((M : Int) : Rat) = (z : Rat)) (lo : -((B : Int) : Rat) ≤ q) (hi : q ≤ ((B : Int) : Rat)) : z.natAbs ≤ B * M := by
  have m0 := cast_nn (show (0 : Int) ≤ (M : Int) by omega)
  have k1 := Rat.mul_le_mul_of_nonneg_right hi m0
  have k2 := Rat.mul_le_mul_of_nonneg_right lo m0
  rw [e, ← Rat.intCast_mul] at k1
  rw [e, ← Rat.intCast_neg, ← Rat.intCast_mul] at k2
  have h1 := Rat.intCast_le_intCast.mp k1
  have h2 := Rat.intCast_le_intCast.mp k2
  have h3 : -(B : Int) * (M : Int) = -((B : Int) * (M : Int)) := Int.neg_mul _ _
  rw [h3] at h2
  have h4 : ((B * M : Nat) : Int) = (B : Int) * (M : Int) := Int.natCast_mul _ _
  omega
/-- what has a common bottom and a bound is not long -/
theorem Dv.sz {M B n : Nat} {q : Rat} (h : Dv M q) (hM : 0 < M) (lo : -((B : Int) : Rat) ≤ q) (hi : q ≤ ((B : Int) : Rat)) (b1 : 1 ≤ B) (fit : B * M < 2 ^ n) : Sz n q := by
  obtain ⟨z, e⟩ := h
  have k := rat_le_abs e lo hi
  have m1 : M ≤ B * M := Nat.le_mul_of_pos_left M b1
  have eq : q = KR.rq z (M : Int) := by
    have h := int_ne (show (M : Int) ≠ 0 by omega)
    unfold KR.rq
    rw [← e]
    generalize ((M : Int) : Rat) = y at *
    grind
  rw [eq]
  exact sz_rq (by omega) (Nat.lt_of_le_of_lt k fit) (by rw [Int.natAbs_natCast]; exact Nat.lt_of_le_of_lt m1 fit)
theorem fit_lt {M B m b n : Nat} (hM : M < 2 ^ m) (hB : B < 2 ^ b) (h : b + m ≤ n) : B * M < 2 ^ n :=
  Nat.lt_of_lt_of_le (by rw [Nat.pow_add]; exact Nat.mul_lt_mul'' hB hM) (Nat.pow_le_pow_right (by decide) h)
theorem Dv.szN {M B n : Nat} {q : Rat} (h : Dv M q) (hM : 0 < M) (lo : 0 ≤ q) (hi : q ≤ ((B : Int) : Rat)) (b1 : 1 ≤ B) (fit : B * M < 2 ^ n) : Sz n q := by
  refine h.sz hM ?_ hi b1 fit
  have := cast_nn (show (0 : Int) ≤ (B : Int) by omega)
  grind
/-- rows of fractions -/
abbrev Fz := Addr × Rat
def rz (l : List Fz) : List V := l.map fun z => V.ref z.1
def FL (K : PySem.W.Frag) (H : Hp) (l : List Fz) : Prop := ∀ z ∈ l, FrQ K H z.1 z.2
theorem FL.same {K : PySem.W.Frag} {H H' : Hp} {l : List Fz} (h : FL K H l) (e : Same H H') : FL K H' l := fun z hz => (h z hz).same e
theorem FL.fr {K : PySem.W.Frag} {H H' : Hp} {p : Addr} {n : Nat} {l : List Fz} (h : FL K H l) (B : BoxAt H p n) (f : Fr p H H') : FL K H' l := fun z hz => (h z hz).fr B f
theorem FL.nil {K : PySem.W.Frag} {H : Hp} : FL K H [] := fun z hz => absurd hz List.not_mem_nil
theorem FL.snoc {K : PySem.W.Frag} {H : Hp} {l : List Fz} {z : Fz} (h : FL K H l) (k : FrQ K H z.1 z.2) : FL K H (l ++ [z]) := fun y hy => by
  rcases List.mem_append.mp hy with m | m
  · exact h y m
  · rw [List.mem_singleton.mp m]
    exact k
theorem FL.put {K : PySem.W.Frag} {H : Hp} {l : List Fz} {p : Addr} {xs ys : List V} (h : FL K H l) (hp : H p = some (.lst xs)) : FL K (upd H p (.lst ys)) l := fun z hz => sqT_frL (h z hz) hp fr_upd
theorem rz_len (l : List Fz) : (rz l).length = l.length := List.length_map _
theorem rz_get {l : List Fz} {i : Nat} {x : V} (h : (rz l)[i]? = some x) : ∃ z, l[i]? = some z ∧ x = .ref z.1 := by
  unfold rz at h
  rw [List.getElem?_map] at h
  cases e : l[i]? with
  | none =>
    rw [e] at h
    cases h
  | some z =>
    rw [e] at h
    exact ⟨z, rfl, (Option.some.inj h).symm⟩
theorem rz_snoc (l : List Fz) (z : Fz) : rz (l ++ [z]) = rz l ++ [.ref z.1] := by
  unfold rz
  rw [List.map_append] <;> rfl
/-- all together -/
def zsum : List Rat → Rat
  | [] => 0
  | q :: r => q + zsum r
theorem zsum_app (a b : List Rat) : zsum (a ++ b) = zsum a + zsum b := by
  induction a with
  | nil =>
    show zsum b = 0 + zsum b
    rw [Rat.zero_add]
  | cons q r ih =>
    show q + zsum (r ++ b) = q + zsum r + zsum b
    rw [ih, Rat.add_assoc]
theorem zsum_one (q : Rat) : zsum [q] = q := Rat.add_zero q
theorem zsum_take {l : List Rat} {i : Nat} {q : Rat} (h : l[i]? = some q) : zsum (l.take (i + 1)) = zsum (l.take i) + q := by
  rw [take_one h, zsum_app, zsum_one]
theorem Dv.all {M : Nat} {l : List Rat} (h : ∀ q ∈ l, Dv M q) : Dv M (zsum l) := by
  induction l with
  | nil => exact .zero
  | cons q r ih => exact (h q List.mem_cons_self).add (ih fun y hy => h y (List.mem_cons_of_mem _ hy))
theorem zsum_nn {l : List Rat} (h : ∀ q ∈ l, 0 ≤ q) : 0 ≤ zsum l := by
  induction l with
  | nil => exact Rat.le_refl
  | cons q r ih =>
    have h1 := h q List.mem_cons_self
    have h2 := ih fun y hy => h y (List.mem_cons_of_mem _ hy)
    show 0 ≤ q + zsum r
    grind
theorem zsum_le {B : Rat} {l : List Rat} (h : ∀ q ∈ l, q ≤ B) : zsum l ≤ ((l.length : Int) : Rat) * B := by
  induction l with
  | nil =>
    show (0 : Rat) ≤ ((0 : Int) : Rat) * B
    have : ((0 : Int) : Rat) = 0 := rfl
    rw [this, Rat.zero_mul]
    exact Rat.le_refl
  | cons q r ih =>
    have h1 := h q List.mem_cons_self
    have h2 := ih fun y hy => h y (List.mem_cons_of_mem _ hy)
    show q + zsum r ≤ (((r.length + 1 : Nat) : Int) : Rat) * B
    have e : (((r.length + 1 : Nat) : Int) : Rat) = ((r.length : Int) : Rat) + 1 := by
      rw [Int.natCast_add, Rat.intCast_add] <;> rfl
    rw [e]
    generalize ((r.length : Int) : Rat) = n at *
    grind
theorem zsum_take_le {l : List Rat} (h : ∀ q ∈ l, 0 ≤ q) (i : Nat) : zsum (l.take i) ≤ zsum l := by
  have e : zsum l = zsum (l.take i) + zsum (l.drop i) := by rw [← zsum_app, List.take_append_drop]
  have k := zsum_nn (l := l.drop i) fun q hq => h q (List.mem_of_mem_drop hq)
  grind
/-- rows of fractions that may be added one after another -/
def AddOk (l : List Rat) : Prop := ∀ i, i ≤ l.length → Big (zsum (l.take i))
/-- a part: from 0 to 1, its bottom at most 12 -/
structure Part (q : Rat) : Prop where
  lo : 0 ≤ q
  hi : q ≤ 1
  bt : q.den ≤ 12
theorem Part.dv {q : Rat} (h : Part q) : Dv 27720 q := by
  refine (Dv.den q).up ?_
  have h1 := h.bt
  have h0 := q.den_pos
  generalize q.den = d at *
  have all : ∀ d, d ≤ 12 → 0 < d → d ∣ 27720 := by decide
  exact all d h1 h0
theorem Part.zero : Part 0 := ⟨Rat.le_refl, by decide, by decide⟩
theorem den_le {t b : Int} (hb : 0 < b) : ((rq t b).den : Int) ≤ b := by
  have e := rq_low (t := t) (b := b) (by omega)
  have k : (low t b).2 = ((rq t b).den : Int) := by rw [e]
  rw [← k]
  show (b.natAbs : Int) / (Nat.gcd t.natAbs b.natAbs : Int) ≤ b
  have g : (0 : Int) < (Nat.gcd t.natAbs b.natAbs : Int) := by
    have := Nat.gcd_pos_of_pos_right t.natAbs (show 0 < b.natAbs by omega)
    omega
  have h := Int.ediv_le_self (a := (b.natAbs : Int)) (Nat.gcd t.natAbs b.natAbs : Int) (by omega)
  omega
theorem Part.rq {t b : Int} (h0 : 0 ≤ t) (h1 : t ≤ b) (hb : 0 < b) (b12 : b ≤ 12) : Part (KR.rq t b) :=
  ⟨rq_nn h0 hb, rq_le_one h1 hb, by have := den_le (t := t) hb; omega⟩
end KR
/-! ### rounds: rows of fractions added, kinds -/
namespace KR
open PySem PySem.Spec PyProof.Rows L2
theorem rz_q {l : List Fz} {i : Nat} {z : Fz} (h : l[i]? = some z) : (l.map (·.2))[i]? = some z.2 := by rw [List.getElem?_map, h] <;> rfl
/-- one after another is added -/
theorem all_loop {K : PySem.W.Frag} {J : It} {G : Hp → Prop} {l : List Fz} {a z0 : Addr} {H H1 : Hp} {D : Ends} {v : Option V} (hw : Walk J (rz l).length G (YAt (rz l))) (hG : ∀ H', Same H H' → G H') (s1 : Same H H1) (h0 : FrQ K H1 z0 0) (hf : FL K H l) (big : ∀ z ∈ l, Big z.2) (add : AddOk (l.map (·.2)))
    (q : ∀ z v H', Same H H' → FrQ K H' z (zsum (l.map (·.2))) → D.nx [some (.ref a), some (.ref z), v] H') :
    ∃ W : Nat → Nat → L2.St → Hp → Prop, (∃ m, W 0 m [some (.ref a), some (.ref z0), v] H1) ∧ ∀ i m σ H, W i m σ H →
      (J.stop i H ∧ D.nx σ H) ∨ (J.go i H ∧ ∃ N : L2.St → Hp → Prop, (∀ σ' H', N σ' H' → ∃ m', m' < m ∧ W (i + 1) m' σ' H') ∧ ∀ x H', J.yld i H x H' → gName 2 x σ H' fun σ2 H2 =>
        tAsg (tCall (sp_w2 K (fun p q => p + q) fun _ _ => True) [] E0 (tCons (tVar 1) (tCons (tVar 2) tNil))) (gName 1) { D with nx := N, ct := N, bk := D.nx } σ2 H2) := by
  refine for_it hw (fun i σ H' => ∃ (z : Addr) (v : Option V), σ = [some (.ref a), some (.ref z), v] ∧ Same H H' ∧ FrQ K H' z (zsum ((l.map (·.2)).take i))) ⟨z0, v, rfl, s1, h0⟩ ?_ ?_ ?_
  · rintro i σ H' _ ⟨z, v, _, s, _⟩
    exact hG H' s
  · rintro i x σ H' H'' hi ⟨z, v, rfl, s, hz⟩ ⟨rfl, hx⟩
    obtain ⟨y, hy, rfl⟩ := rz_get hx
    have my := List.mem_of_getElem? hy
    have il : i < (l.map (·.2)).length := by
      rw [List.length_map]
      exact (List.getElem?_eq_some_iff.mp hy).1
    refine ⟨_, rfl, _, rfl, z, y.1, _, y.2, rfl, hz, (hf y my).same s, add i (Nat.le_of_lt il), big y my, trivial, fun z' H2 s2 n2 h2 => ?_⟩
    refine ⟨z', _, rfl, s.trans s2, ?_⟩
    rw [zsum_take (rz_q hy)]
    exact h2
  · rintro σ H' ⟨z, v, rfl, s, hz⟩
    rw [rz_len] at hz
    have e : (l.map (·.2)).take l.length = l.map (·.2) := by
      rw [← List.length_map (as := l) (·.2), List.take_length]
    rw [e] at hz
    exact q z v H' s hz
theorem part_sz {q : Rat} (h : Part q) : Sz 4 q := by
  have h0 := h.lo
  have h1 := h.hi
  have b := h.bt
  have d0 := q.den_pos
  have n0 : 0 ≤ q.num := Rat.num_nonneg.mpr h0
  have n1 : q.num ≤ (q.den : Int) := by
    have k := (lt_cross 1 q)
    have e : ¬ ((1 : Rat).num * (q.den : Int) < q.num * ((1 : Rat).den : Int)) := fun z => absurd (k.mp z) (by grind)
    have e1 : (1 : Rat).num = 1 := rfl
    have e2 : (((1 : Rat).den : Nat) : Int) = 1 := rfl
    rw [e1, e2] at e
    omega
  exact ⟨by omega, by omega⟩
theorem part_big {q : Rat} (h : Part q) : Big q := (part_sz h).up (by decide)
theorem le_one_iff (q : Rat) : q.num ≤ (q.den : Int) ↔ q ≤ 1 := by
  have k := (lt_cross 1 q)
  have e1 : (1 : Rat).num = 1 := rfl
  have e2 : (((1 : Rat).den : Nat) : Int) = 1 := rfl
  rw [e1, e2, Int.one_mul, Int.mul_one] at k
  constructor
  · intro h
    exact Rat.not_lt.mp fun z => by
      have := k.mpr z
      omega
  · intro h
    exact Int.not_lt.mp fun z => absurd (k.mp z) (Rat.not_lt.mpr h)
theorem sum_big {M B : Nat} {l : List Rat} (dv : ∀ q ∈ l, Dv M q) (lo : ∀ q ∈ l, 0 ≤ q) (hi : zsum l ≤ ((B : Int) : Rat)) (hM : 0 < M) (hB : 1 ≤ B) (fit : B * M < 2 ^ 4400) : AddOk l := fun i _ => by
  have sub : ∀ q ∈ l.take i, q ∈ l := fun q h => List.mem_of_mem_take h
  exact (Dv.all fun q h => dv q (sub q h)).szN hM (zsum_nn fun q h => lo q (sub q h)) (Rat.le_trans (zsum_take_le lo i) hi) hB fit
theorem parts_add {l : List Rat} (h : ∀ q ∈ l, Part q) (len : l.length ≤ 7) : AddOk l := by
  refine sum_big (M := 27720) (B := 7) (fun q hq => (h q hq).dv) (fun q hq => (h q hq).lo) ?_ (by decide) (by decide) (Nat.lt_of_lt_of_le (by decide : 7 * 27720 < 2 ^ 20) (Nat.pow_le_pow_right (by decide) (by decide)))
  have k := zsum_le (B := 1) fun q hq => (h q hq).hi
  have c : ((l.length : Int) : Rat) ≤ ((7 : Int) : Rat) := Rat.intCast_le_intCast.mpr (by omega)
  rw [Rat.mul_one] at k
  exact Rat.le_trans k c
theorem zsum_set {l : List Rat} {i : Nat} {q : Rat} (r : Rat) (h : l[i]? = some q) : zsum (l.set i r) = zsum l - q + r := by
  have lt := (List.getElem?_eq_some_iff.mp h).1
  have e1 : l = l.take i ++ (q :: l.drop (i + 1)) := by
    have := List.take_append_drop i l
    rw [List.drop_eq_getElem_cons lt, (List.getElem?_eq_some_iff.mp h).2] at this
    exact this.symm
  rw [List.set_eq_take_append_cons_drop, if_pos lt, zsum_app]
  have e2 : zsum l = zsum (l.take i) + zsum (q :: l.drop (i + 1)) := by
    rw [← zsum_app, ← e1]
  rw [e2]
  show zsum (l.take i) + (r + zsum (l.drop (i + 1))) = zsum (l.take i) + (q + zsum (l.drop (i + 1))) - q + r
  grind
theorem rz_set (l : List Fz) (i : Nat) (z : Fz) : (rz l).set i (.ref z.1) = rz (l.set i z) := by
  unfold rz
  rw [List.map_set]
theorem cut_rz (l : List Fz) (lo hi : Option Int) : ∃ a b, cutV (rz l) lo hi = rz ((l.drop a).take b) := by
  refine ⟨HT.sIx (rz l).length 0 lo, HT.sIx (rz l).length (rz l).length hi - HT.sIx (rz l).length 0 lo, ?_⟩
  unfold cutV rz
  rw [List.map_take, List.map_drop]
theorem cut_to {xs : List V} {n : Nat} (h : n ≤ xs.length) : cutV xs none (some (n : Int)) = xs.take n := by
  unfold cutV
  rw [HT.sIx_none, HT.sIx_nat, Nat.min_eq_left h, Nat.sub_zero, List.drop_zero]
theorem cut_from {xs : List V} {n : Nat} (h : n ≤ xs.length) : cutV xs (some (n : Int)) none = xs.drop n := by
  unfold cutV
  rw [HT.sIx_none, HT.sIx_nat, Nat.min_eq_left h]
  exact List.take_of_length_le (by rw [List.length_drop]; omega)
theorem rep_rz (k : Nat) (z : Fz) : (List.replicate ((k : Int)).toNat [V.ref z.1]).flatten = rz (List.replicate k z) := by
  rw [Int.toNat_natCast]
  unfold rz
  rw [List.map_replicate]
  induction k with
  | zero => rfl
  | succ k ih =>
    rw [List.replicate_succ, List.flatten_cons, ih, List.replicate_succ] <;> rfl
theorem zsum_rep (k : Nat) : zsum (List.replicate k (0 : Rat)) = 0 := by
  induction k with
  | zero => rfl
  | succ k ih =>
    rw [List.replicate_succ]
    show 0 + zsum (List.replicate k 0) = 0
    rw [ih, Rat.add_zero]
/-- what of drips goes where, as it is drawn -/
structure GoOk (K : PySem.W.Frag) (H : Hp) (k : Nat) (l : List Fz) : Prop where
  fl : FL K H l
  len : l.length = k
  pa : ∀ z ∈ l, Part z.2
  one : zsum (l.map (·.2)) ≤ 1
theorem GoOk.same {K : PySem.W.Frag} {H H' : Hp} {k : Nat} {l : List Fz} (h : GoOk K H k l) (s : Same H H') : GoOk K H' k l := ⟨h.fl.same s, h.len, h.pa, h.one⟩
theorem GoOk.fr {K : PySem.W.Frag} {H H' : Hp} {k n : Nat} {p : Addr} {l : List Fz} (h : GoOk K H k l) (B : BoxAt H p n) (f : Fr p H H') : GoOk K H' k l := ⟨h.fl.fr B f, h.len, h.pa, h.one⟩
theorem mem_q {l : List Fz} {P : Rat → Prop} (h : ∀ z ∈ l, P z.2) : ∀ q ∈ l.map (·.2), P q := fun q hq => by
  obtain ⟨z, hz, rfl⟩ := List.mem_map.mp hq
  exact h z hz
theorem mem_set {l : List Fz} {i : Nat} {z y : Fz} (h : y ∈ l.set i z) : y ∈ l ∨ y = z := List.mem_or_eq_of_mem_set h
theorem rz_take (l : List Fz) (n : Nat) : (rz l).take n = rz (l.take n) := by
  unfold rz
  rw [List.map_take]
theorem rz_drop (l : List Fz) (n : Nat) : (rz l).drop n = rz (l.drop n) := by
  unfold rz
  rw [List.map_drop]
theorem rz_app (l m : List Fz) : rz (l ++ m) = rz l ++ rz m := by
  unfold rz
  rw [List.map_append]
theorem fr_new {p c : Addr} {H H' : Hp} (F : Fr p H H') (n : H' c = none) (ne : c ≠ p) : H c = none := by
  cases e : H c with
  | none => rfl
  | some o =>
    have k := F _ _ ne e
    rw [n] at k
    cases k
theorem goes_sum {l : List Fz} {an : Nat} {y : Fz} {d : Addr} {bt lf tp : Int} (ga : l[an]? = some y) (y0 : y.2 = 0) (inv : zsum (l.map (·.2)) * ((bt : Int) : Rat) = ((bt - lf : Int) : Rat)) (t0 : 0 ≤ tp) (t1 : tp ≤ lf) (lf1 : lf ≤ bt) (b0 : 0 < bt) :
    zsum ((l.set an (d, rq tp bt)).map (·.2)) * ((bt : Int) : Rat) = ((bt - (lf - tp) : Int) : Rat) ∧ zsum ((l.set an (d, rq tp bt)).map (·.2)) ≤ 1 := by
  have e : (l.set an (d, rq tp bt)).map (·.2) = (l.map (·.2)).set an (rq tp bt) := by rw [List.map_set]
  have k := zsum_set (rq tp bt) (rz_q ga)
  rw [e, k, y0]
  have hb := int_ne (show bt ≠ 0 by omega)
  have er : rq tp bt * (bt : Rat) = (tp : Rat) := by
    unfold rq
    generalize (tp : Rat) = x
    generalize (bt : Rat) = z at *
    grind
  have e1 : (zsum (l.map (·.2)) - 0 + rq tp bt) * (bt : Rat) = ((bt - (lf - tp) : Int) : Rat) := by
    rw [Rat.intCast_sub] at inv
    rw [Rat.intCast_sub, Rat.intCast_sub]
    generalize zsum (l.map (·.2)) = s at *
    generalize rq tp bt = r at *
    generalize (tp : Rat) = x at *
    generalize (bt : Rat) = z at *
    generalize (lf : Rat) = w at *
    grind
  refine ⟨e1, ?_⟩
  have bp := cast_pos b0
  have le : ((bt - (lf - tp) : Int) : Rat) ≤ ((bt : Int) : Rat) := Rat.intCast_le_intCast.mpr (by omega)
  refine Rat.not_lt.mp fun z => ?_
  have m := Rat.mul_lt_mul_of_pos_right z bp
  rw [e1, Rat.one_mul] at m
  exact absurd le (Rat.not_le.mpr m)
/-- a kind: where it stands, what it tells -/
structure Kn where
  a : Addr
  d : Addr
  g : Addr
  fresh : Int
  drip : Rat
  goes : List Fz
structure KnOk (K : PySem.W.Frag) (H : Hp) (n : Nat) (k : Kn) : Prop where
  at_ : SqT K H k.a [.int k.fresh, .ref k.d, .ref k.g]
  dr : FrQ K H k.d k.drip
  gs : SqT K H k.g (rz k.goes)
  go : GoOk K H n k.goes
  pd : Part k.drip
  f0 : 0 ≤ k.fresh
  f1 : k.fresh ≤ 1000000
def KnL (K : PySem.W.Frag) (H : Hp) (n : Nat) (ks : List Kn) : Prop := ∀ k ∈ ks, KnOk K H n k
def rk (ks : List Kn) : List V := ks.map fun k => V.ref k.a
theorem rk_len (l : List Kn) : (rk l).length = l.length := List.length_map _
theorem rk_get {l : List Kn} {i : Nat} {x : V} (h : (rk l)[i]? = some x) : ∃ k, l[i]? = some k ∧ x = .ref k.a := by
  unfold rk at h
  rw [List.getElem?_map] at h
  cases e : l[i]? with
  | none =>
    rw [e] at h
    cases h
  | some k =>
    rw [e] at h
    exact ⟨k, rfl, (Option.some.inj h).symm⟩
theorem KnOk.same {K : PySem.W.Frag} {H H' : Hp} {n : Nat} {k : Kn} (h : KnOk K H n k) (s : Same H H') : KnOk K H' n k := ⟨Same.tup s h.at_, h.dr.same s, Same.tup s h.gs, h.go.same s, h.pd, h.f0, h.f1⟩
theorem KnOk.fr {K : PySem.W.Frag} {H H' : Hp} {n m : Nat} {p : Addr} {k : Kn} (h : KnOk K H n k) (B : BoxAt H p m) (f : Fr p H H') : KnOk K H' n k := ⟨sqT_fr h.at_ B f, h.dr.fr B f, sqT_fr h.gs B f, h.go.fr B f, h.pd, h.f0, h.f1⟩
theorem KnOk.put {K : PySem.W.Frag} {H : Hp} {n : Nat} {k : Kn} {q : Addr} {xs ys : List V} (h : KnOk K H n k) (hq : H q = some (.lst xs)) : KnOk K (upd H q (.lst ys)) n k :=
  ⟨sqT_frL h.at_ hq fr_upd, sqT_frL h.dr hq fr_upd, sqT_frL h.gs hq fr_upd, ⟨h.go.fl.put hq, h.go.len, h.go.pa, h.go.one⟩, h.pd, h.f0, h.f1⟩
theorem KnL.same {K : PySem.W.Frag} {H H' : Hp} {n : Nat} {ks : List Kn} (h : KnL K H n ks) (s : Same H H') : KnL K H' n ks := fun k hk => (h k hk).same s
theorem KnL.fr {K : PySem.W.Frag} {H H' : Hp} {n m : Nat} {p : Addr} {ks : List Kn} (h : KnL K H n ks) (B : BoxAt H p m) (f : Fr p H H') : KnL K H' n ks := fun k hk => (h k hk).fr B f
/-- an amount that is drawn -/
structure AmQ (q : Rat) : Prop where
  lo : 0 ≤ q
  hi : q ≤ (((10 ^ 40 : Nat) : Int) : Rat)
  bt : q.den ≤ 10 ^ 40
theorem rq_le {t b : Int} (h0 : 0 ≤ t) (hb : 1 ≤ b) : rq t b ≤ (t : Rat) := by
  have h1 := cast_pos (show 0 < b by omega)
  have h2 : ((1 : Int) : Rat) ≤ (b : Rat) := Rat.intCast_le_intCast.mpr hb
  have h3 := cast_nn h0
  unfold rq
  refine div_le h1 ?_
  have k := Rat.mul_le_mul_of_nonneg_left h2 h3
  have e : (t : Rat) * ((1 : Int) : Rat) = (t : Rat) := Rat.mul_one _
  rw [e] at k
  exact k
theorem AmQ.rq {t b : Int} (t0 : 0 ≤ t) (t1 : t ≤ 10 ^ 40) (b1 : 1 ≤ b) (b2 : b ≤ 10 ^ 40) : AmQ (KR.rq t b) := by
  refine ⟨rq_nn t0 (by omega), Rat.le_trans (rq_le t0 b1) (Rat.intCast_le_intCast.mpr (by omega)), ?_⟩
  have k := den_le (t := t) (show 0 < b by omega)
  omega
theorem AmQ.zero : AmQ 0 := ⟨Rat.le_refl, by decide, by decide⟩
/-- what a kind tells -/
structure Kq where
  fresh : Int
  drip : Rat
  goes : List Rat
def Kn.q (k : Kn) : Kq := ⟨k.fresh, k.drip, k.goes.map (·.2)⟩
def comes (ks : List Kq) (qs : List Rat) (p : Nat) : List Rat := List.zipWith (fun q k => q * k.drip * k.goes.getD p 0) qs ks
def onceAt (ks : List Kq) (qs : List Rat) (p : Nat) : Rat := (((ks.map (·.fresh)).getD p 0 : Int) : Rat) + zsum (comes ks qs p)
def onceQ (ks : List Kq) (qs : List Rat) : List Rat := (List.range ks.length).map (onceAt ks qs)
theorem once_len (ks : List Kq) (qs : List Rat) : (onceQ ks qs).length = ks.length := by
  unfold onceQ
  rw [List.length_map, List.length_range]
theorem once_get {ks : List Kq} {qs : List Rat} {i : Nat} (h : i < ks.length) : (onceQ ks qs)[i]? = some (onceAt ks qs i) := by
  unfold onceQ
  rw [List.getElem?_map, List.getElem?_range h] <;> rfl
theorem comes_get {ks : List Kq} {qs : List Rat} {p j : Nat} {q : Rat} {k : Kq} (h1 : qs[j]? = some q) (h2 : ks[j]? = some k) : (comes ks qs p)[j]? = some (q * k.drip * k.goes.getD p 0) := by
  unfold comes
  rw [List.getElem?_zipWith, h1, h2]
theorem comes_len {ks : List Kq} {qs : List Rat} {p : Nat} (h : qs.length = ks.length) : (comes ks qs p).length = ks.length := by
  unfold comes
  rw [List.length_zipWith, h, Nat.min_self]
theorem comes_mem {ks : List Kq} {qs : List Rat} {p : Nat} {r : Rat} (h : r ∈ comes ks qs p) : ∃ q ∈ qs, ∃ k ∈ ks, r = q * k.drip * k.goes.getD p 0 := by
  obtain ⟨j, hj, e⟩ := List.getElem_of_mem h
  have hj' : j < (List.zipWith (fun q (k : Kq) => q * k.drip * k.goes.getD p 0) qs ks).length := hj
  rw [List.length_zipWith] at hj'
  have a : j < qs.length := by omega
  have b : j < ks.length := by omega
  have g := comes_get (p := p) (List.getElem?_eq_getElem a) (List.getElem?_eq_getElem b)
  rw [List.getElem?_eq_getElem hj, e] at g
  exact ⟨_, List.getElem_mem a, _, List.getElem_mem b, Option.some.inj g⟩
/-- kinds as they may be -/
structure KqOk (k : Kq) : Prop where
  pd : Part k.drip
  pg : ∀ q ∈ k.goes, Part q
  f0 : 0 ≤ k.fresh
  f1 : k.fresh ≤ 1000000
theorem KnOk.q {K : PySem.W.Frag} {H : Hp} {n : Nat} {k : Kn} (h : KnOk K H n k) : KqOk k.q := ⟨h.pd, mem_q h.go.pa, h.f0, h.f1⟩
theorem KqOk.at_ {k : Kq} (h : KqOk k) (p : Nat) : Part (k.goes.getD p 0) := by
  by_cases lt : p < k.goes.length
  · rw [List.getD_eq_getElem?_getD, List.getElem?_eq_getElem lt]
    exact h.pg _ (List.getElem_mem lt)
  · rw [List.getD_eq_getElem?_getD, List.getElem?_eq_none (by omega)]
    exact Part.zero
/-- amounts that have a common bottom and a bound -/
structure AmOk (M B : Nat) (qs : List Rat) : Prop where
  dv : ∀ q ∈ qs, Dv M q
  lo : ∀ q ∈ qs, 0 ≤ q
  hi : ∀ q ∈ qs, q ≤ ((B : Int) : Rat)
  hM : 0 < M
  hB : 1 ≤ B
  fit0 : (6 * B + 1000000) * (M * 768398400) < 2 ^ 4300
section
variable {M B : Nat} {qs : List Rat}
theorem AmOk.fit (a : AmOk M B qs) : (6 * B + 1000000) * (M * 768398400) < 2 ^ 4400 := Nat.lt_of_lt_of_le a.fit0 (Nat.pow_le_pow_right (by decide) (by decide))
theorem AmOk.big (a : AmOk M B qs) {N : Nat} {q : Rat} (h : Dv N q) (d : N ∣ M * 768398400) (lo : 0 ≤ q) (hi : q ≤ ((6 * B + 1000000 : Nat) : Int)) : Big q :=
  (h.up d).szN (Nat.mul_pos a.hM (by decide)) lo hi (by omega) a.fit
theorem AmOk.up {a : AmOk M B qs} {q : Rat} (h : q ≤ ((B : Int) : Rat)) : q ≤ ((6 * B + 1000000 : Nat) : Int) := Rat.le_trans h (Rat.intCast_le_intCast.mpr (by omega))
theorem AmOk.one (a : AmOk M B qs) {q : Rat} (h : q ∈ qs) : Big q := a.big (a.dv q h) (Nat.dvd_mul_right _ _) (a.lo q h) (AmOk.up (a := a) (a.hi q h))
theorem mul_part {q r : Rat} {b : Rat} (q0 : 0 ≤ q) (qb : q ≤ b) (r0 : 0 ≤ r) (r1 : r ≤ 1) : 0 ≤ q * r ∧ q * r ≤ b := by
  have k1 := Rat.mul_nonneg q0 r0
  have k2 := Rat.mul_nonneg q0 (show 0 ≤ 1 - r by grind)
  have e : q * (1 - r) = q - q * r := by grind
  rw [e] at k2
  exact ⟨k1, by grind⟩
theorem AmOk.drips (a : AmOk M B qs) {q r : Rat} (h : q ∈ qs) (p : Part r) : Dv (M * 27720) (q * r) ∧ 0 ≤ q * r ∧ q * r ≤ ((B : Int) : Rat) :=
  ⟨(a.dv q h).mul p.dv, mul_part (a.lo q h) (a.hi q h) p.lo p.hi⟩
theorem AmOk.drips_big (a : AmOk M B qs) {q r : Rat} (h : q ∈ qs) (p : Part r) : Big (q * r) := by
  obtain ⟨d, l, u⟩ := a.drips h p
  exact a.big d ⟨27720, by rw [Nat.mul_assoc]⟩ l (AmOk.up (a := a) u)
theorem AmOk.comes (a : AmOk M B qs) {q r g : Rat} (h : q ∈ qs) (p : Part r) (pg : Part g) : Dv (M * 768398400) (q * r * g) ∧ 0 ≤ q * r * g ∧ q * r * g ≤ ((B : Int) : Rat) := by
  obtain ⟨d, l, u⟩ := a.drips h p
  have k := d.mul pg.dv
  rw [Nat.mul_assoc] at k
  exact ⟨k, mul_part l u pg.lo pg.hi⟩
theorem AmOk.comes_big (a : AmOk M B qs) {q r g : Rat} (h : q ∈ qs) (p : Part r) (pg : Part g) : Big (q * r * g) := by
  obtain ⟨d, l, u⟩ := a.comes h p pg
  exact a.big d (Nat.dvd_refl _) l (AmOk.up (a := a) u)
theorem AmOk.all (a : AmOk M B qs) {ks : List Kq} (hk : ∀ k ∈ ks, KqOk k) (p : Nat) (r : Rat) (h : r ∈ KR.comes ks qs p) : Dv (M * 768398400) r ∧ 0 ≤ r ∧ r ≤ ((B : Int) : Rat) := by
  obtain ⟨q, hq, k, hkm, rfl⟩ := comes_mem h
  exact a.comes hq (hk k hkm).pd ((hk k hkm).at_ p)
theorem AmOk.sum_le (a : AmOk M B qs) {ks : List Kq} (hk : ∀ k ∈ ks, KqOk k) (l6 : ks.length ≤ 6) (lq : qs.length = ks.length) (p : Nat) : zsum (KR.comes ks qs p) ≤ ((6 * B : Nat) : Int) := by
  have k := zsum_le (B := ((B : Int) : Rat)) fun r h => (a.all hk p r h).2.2
  rw [comes_len lq, ← Rat.intCast_mul] at k
  refine Rat.le_trans k (Rat.intCast_le_intCast.mpr ?_)
  have : ks.length * B ≤ 6 * B := Nat.mul_le_mul_right _ l6
  exact_mod_cast this
theorem AmOk.add (a : AmOk M B qs) {ks : List Kq} (hk : ∀ k ∈ ks, KqOk k) (l6 : ks.length ≤ 6) (lq : qs.length = ks.length) (p : Nat) : AddOk (KR.comes ks qs p) :=
  sum_big (M := M * 768398400) (B := 6 * B) (fun r h => (a.all hk p r h).1) (fun r h => (a.all hk p r h).2.1) (a.sum_le hk l6 lq p) (Nat.mul_pos a.hM (by decide)) (by have := a.hB; omega)
    (Nat.lt_of_le_of_lt (Nat.mul_le_mul_right _ (by omega)) a.fit)
theorem AmOk.sum_big (a : AmOk M B qs) {ks : List Kq} (hk : ∀ k ∈ ks, KqOk k) (l6 : ks.length ≤ 6) (lq : qs.length = ks.length) (p : Nat) : Big (zsum (KR.comes ks qs p)) :=
  a.big (Dv.all fun r h => (a.all hk p r h).1) (Nat.dvd_refl _) (zsum_nn fun r h => (a.all hk p r h).2.1) (Rat.le_trans (a.sum_le hk l6 lq p) (Rat.intCast_le_intCast.mpr (by omega)))
end
theorem fresh_big {z : Int} (h0 : 0 ≤ z) (h1 : z ≤ 1000000) : Big (z : Rat) := Sz.up (n := 20) (Sz.int (by omega) (by decide)) (by decide)
theorem getD_fresh {ks : List Kn} {i : Nat} {k : Kn} (h : ks[i]? = some k) : ((ks.map Kn.q).map (·.fresh)).getD i 0 = k.fresh := by
  rw [List.getD_eq_getElem?_getD, List.getElem?_map, List.getElem?_map, h] <;> rfl
theorem getD_goes {k : Kn} {i : Nat} {z : Fz} (h : k.goes[i]? = some z) : k.q.goes.getD i 0 = z.2 := by
  show (k.goes.map (·.2)).getD i 0 = z.2
  rw [List.getD_eq_getElem?_getD, rz_q h] <;> rfl
theorem kq_mem {K : PySem.W.Frag} {H : Hp} {n : Nat} {ks : List Kn} (L : KnL K H n ks) : ∀ k ∈ ks.map Kn.q, KqOk k := fun k h => by
  obtain ⟨y, hy, rfl⟩ := List.mem_map.mp h
  exact (L y hy).q
/-- what drips of each -/
def dripsQ (ks : List Kq) (qs : List Rat) : List Rat := List.zipWith (fun q k => q * k.drip) qs ks
theorem drips_get {ks : List Kq} {qs : List Rat} {j : Nat} {q : Rat} {k : Kq} (h1 : qs[j]? = some q) (h2 : ks[j]? = some k) : (dripsQ ks qs)[j]? = some (q * k.drip) := by
  unfold dripsQ
  rw [List.getElem?_zipWith, h1, h2]
theorem drips_len {ks : List Kq} {qs : List Rat} (h : qs.length = ks.length) : (dripsQ ks qs).length = ks.length := by
  unfold dripsQ
  rw [List.length_zipWith, h, Nat.min_self]
/-- what stays of each in the round -/
def keptQ (ks : List Kq) (qs : List Rat) : List Rat := List.zipWith (fun q k => q * k.drip * zsum k.goes) qs ks
theorem kept_get {ks : List Kq} {qs : List Rat} {j : Nat} {q : Rat} {k : Kq} (h1 : qs[j]? = some q) (h2 : ks[j]? = some k) : (keptQ ks qs)[j]? = some (q * k.drip * zsum k.goes) := by
  unfold keptQ
  rw [List.getElem?_zipWith, h1, h2]
theorem kept_len {ks : List Kq} {qs : List Rat} (h : qs.length = ks.length) : (keptQ ks qs).length = ks.length := by
  unfold keptQ
  rw [List.length_zipWith, h, Nat.min_self]
theorem kept_mem {ks : List Kq} {qs : List Rat} {r : Rat} (h : r ∈ keptQ ks qs) : ∃ q ∈ qs, ∃ k ∈ ks, r = q * k.drip * zsum k.goes := by
  obtain ⟨j, hj, e⟩ := List.getElem_of_mem h
  have hj' : j < (List.zipWith (fun q (k : Kq) => q * k.drip * zsum k.goes) qs ks).length := hj
  rw [List.length_zipWith] at hj'
  have g := kept_get (List.getElem?_eq_getElem (show j < qs.length by omega)) (List.getElem?_eq_getElem (show j < ks.length by omega))
  rw [List.getElem?_eq_getElem hj, e] at g
  exact ⟨_, List.getElem_mem _, _, List.getElem_mem _, Option.some.inj g⟩
theorem zsum_add {α : Type} (f g : α → Rat) (l : List α) : zsum (l.map fun x => f x + g x) = zsum (l.map f) + zsum (l.map g) := by
  induction l with
  | nil => exact (Rat.add_zero 0).symm
  | cons x r ih =>
    show f x + g x + zsum (r.map fun x => f x + g x) = f x + zsum (r.map f) + (g x + zsum (r.map g))
    rw [ih]
    grind
theorem zsum_mul {α : Type} (c : Rat) (f : α → Rat) (l : List α) : zsum (l.map fun x => c * f x) = c * zsum (l.map f) := by
  induction l with
  | nil => exact (Rat.mul_zero c).symm
  | cons x r ih =>
    show c * f x + zsum (r.map fun x => c * f x) = c * (f x + zsum (r.map f))
    rw [ih]
    grind
theorem zsum_nil {α : Type} (l : List α) : zsum (l.map fun _ => (0 : Rat)) = 0 := by
  induction l with
  | nil => rfl
  | cons x r ih =>
    show 0 + zsum (r.map fun _ => (0 : Rat)) = 0
    rw [ih, Rat.add_zero]
theorem range_getD (l : List Rat) : (List.range l.length).map (fun p => l.getD p 0) = l := by
  refine List.ext_getElem (by rw [List.length_map, List.length_range]) fun i h1 h2 => ?_
  rw [List.getElem_map, List.getElem_range, List.getD_eq_getElem?_getD, List.getElem?_eq_getElem h2] <;> rfl
theorem comes_sum (n : Nat) : ∀ (ks : List Kq) (qs : List Rat), (∀ k ∈ ks, k.goes.length = n) → zsum ((List.range n).map fun p => zsum (comes ks qs p)) = zsum (keptQ ks qs)
  | [], qs, _ => by
    have e : ∀ p, comes [] qs p = [] := fun p => by
      unfold comes
      cases qs <;> rfl
    have e2 : keptQ [] qs = [] := by
      unfold keptQ
      cases qs <;> rfl
    rw [e2]
    simp only [e]
    exact zsum_nil _
  | k :: ks, [], _ => by
    have e : ∀ p, comes (k :: ks) [] p = [] := fun p => rfl
    simp only [e]
    exact zsum_nil _
  | k :: ks, q :: qs, h => by
    have ih := comes_sum n ks qs fun y hy => h y (List.mem_cons_of_mem _ hy)
    have e : ∀ p, zsum (comes (k :: ks) (q :: qs) p) = q * k.drip * k.goes.getD p 0 + zsum (comes ks qs p) := fun p => rfl
    simp only [e]
    rw [zsum_add, ih, zsum_mul]
    have hk := h k List.mem_cons_self
    have eg := range_getD k.goes
    rw [hk] at eg
    rw [eg] <;> rfl
theorem isum_cast (l : List Int) : zsum (l.map fun z : Int => (z : Rat)) = ((l.sum : Int) : Rat) := by
  induction l with
  | nil => rfl
  | cons z r ih =>
    show (z : Rat) + zsum (r.map fun z : Int => (z : Rat)) = _
    rw [ih, List.sum_cons, Rat.intCast_add]
theorem once_sum {ks : List Kq} {qs : List Rat} (hg : ∀ k ∈ ks, k.goes.length = ks.length) : zsum (onceQ ks qs) = zsum (keptQ ks qs) + (((ks.map (·.fresh)).sum : Int) : Rat) := by
  unfold onceQ onceAt
  rw [zsum_add, comes_sum _ ks qs hg, Rat.add_comm]
  congr 1
  rw [← isum_cast]
  congr 1
  refine List.ext_getElem (by rw [List.length_map, List.length_range, List.length_map, List.length_map]) fun i h1 h2 => ?_
  have hi : i < ks.length := by
    rw [List.length_map, List.length_range] at h1
    exact h1
  rw [List.getElem_map, List.getElem_range, List.getElem_map, List.getD_eq_getElem?_getD, List.getElem?_eq_getElem (by rw [List.length_map]; exact hi)] <;> rfl
section
variable {M B : Nat} {qs : List Rat}
theorem AmOk.kept (a : AmOk M B qs) {q r : Rat} {g : List Rat} (h : q ∈ qs) (p : Part r) (pg : ∀ x ∈ g, Part x) (g1 : zsum g ≤ 1) : Dv (M * 768398400) (q * r * zsum g) ∧ 0 ≤ q * r * zsum g ∧ q * r * zsum g ≤ ((B : Int) : Rat) := by
  obtain ⟨d, l, u⟩ := a.drips h p
  have k := d.mul (Dv.all fun x hx => (pg x hx).dv)
  rw [Nat.mul_assoc] at k
  exact ⟨k, mul_part l u (zsum_nn fun x hx => (pg x hx).lo) g1⟩
theorem AmOk.once (a : AmOk M B qs) {ks : List Kq} (hk : ∀ k ∈ ks, KqOk k) (l6 : ks.length ≤ 6) (lq : qs.length = ks.length) (r : Rat) (h : r ∈ onceQ ks qs) : Dv (M * 768398400) r ∧ 0 ≤ r ∧ r ≤ ((6 * B + 1000000 : Nat) : Int) := by
  unfold onceQ at h
  obtain ⟨p, hp, rfl⟩ := List.mem_map.mp h
  have fr : 0 ≤ (ks.map (·.fresh)).getD p 0 ∧ (ks.map (·.fresh)).getD p 0 ≤ 1000000 := by
    rw [List.getD_eq_getElem?_getD, List.getElem?_map]
    cases e : ks[p]? with
    | none => exact ⟨by decide, by decide⟩
    | some k =>
      have m := List.mem_of_getElem? e
      exact ⟨(hk k m).f0, (hk k m).f1⟩
  have c1 := Dv.all fun r h => (a.all hk p r h).1
  have c2 := zsum_nn fun r h => (a.all hk p r h).2.1
  have c3 := a.sum_le hk l6 lq p
  have f0 := cast_nn fr.1
  have f1 : (((ks.map (·.fresh)).getD p 0 : Int) : Rat) ≤ ((1000000 : Int) : Rat) := Rat.intCast_le_intCast.mpr fr.2
  refine ⟨(Dv.int _).add c1, ?_, ?_⟩
  · unfold onceAt
    grind
  · have e : ((6 * B + 1000000 : Nat) : Int) = ((6 * B : Nat) : Int) + (1000000 : Int) := by omega
    unfold onceAt
    rw [e, Rat.intCast_add]
    grind
theorem AmOk.once_big (a : AmOk M B qs) {ks : List Kq} (hk : ∀ k ∈ ks, KqOk k) (l6 : ks.length ≤ 6) (lq : qs.length = ks.length) (r : Rat) (h : r ∈ onceQ ks qs) : Big r := by
  obtain ⟨d, l, u⟩ := a.once hk l6 lq r h
  exact a.big d (Nat.dvd_refl _) l u
/-- several of them together -/
theorem AmOk.many (a : AmOk M B qs) {l : List Rat} (h : ∀ r ∈ l, Dv (M * 768398400) r ∧ 0 ≤ r ∧ r ≤ ((6 * B + 1000000 : Nat) : Int)) (len : l.length ≤ 20) : AddOk l ∧ Dv (M * 768398400) (zsum l) ∧ 0 ≤ zsum l ∧ Big (zsum l) := by
  have s : zsum l ≤ ((20 * (6 * B + 1000000) : Nat) : Int) := by
    have k := zsum_le fun r hr => (h r hr).2.2
    rw [← Rat.intCast_mul] at k
    refine Rat.le_trans k (Rat.intCast_le_intCast.mpr ?_)
    have : l.length * (6 * B + 1000000) ≤ 20 * (6 * B + 1000000) := Nat.mul_le_mul_right _ len
    exact_mod_cast this
  have fit : 20 * (6 * B + 1000000) * (M * 768398400) < 2 ^ 4400 := by
    have k := a.fit0
    rw [Nat.mul_assoc]
    have e : (2 : Nat) ^ 4400 = 2 ^ 100 * 2 ^ 4300 := by rw [← Nat.pow_add]
    rw [e]
    exact Nat.lt_of_lt_of_le (Nat.mul_lt_mul_of_pos_left k (by decide)) (Nat.mul_le_mul_right _ (by decide))
  have pos := Nat.mul_pos a.hM (show 0 < 768398400 by decide)
  have d := Dv.all fun r hr => (h r hr).1
  have nn := zsum_nn fun r hr => (h r hr).2.1
  exact ⟨KR.sum_big (fun r hr => (h r hr).1) (fun r hr => (h r hr).2.1) s pos (by omega) fit, d, nn, d.szN pos nn s (by omega) fit⟩
end
/-- all bottoms together -/
def prodD : List Rat → Nat
  | [] => 1
  | q :: r => q.den * prodD r
theorem prodD_pos : ∀ l : List Rat, 0 < prodD l
  | [] => Nat.one_pos
  | q :: r => Nat.mul_pos q.den_pos (prodD_pos r)
theorem prodD_dvd : ∀ {l : List Rat} {q : Rat}, q ∈ l → q.den ∣ prodD l
  | x :: r, q, h => by
    rcases List.mem_cons.mp h with e | e
    · rw [e]
      exact Nat.dvd_mul_right _ _
    · exact Nat.dvd_trans (prodD_dvd e) (Nat.dvd_mul_left _ _)
theorem prodD_lt : ∀ {l : List Rat}, (∀ q ∈ l, q.den ≤ 10 ^ 40) → prodD l ≤ (10 ^ 40) ^ l.length
  | [], _ => Nat.le_refl _
  | q :: r, h => by
    have ih := prodD_lt (l := r) fun y hy => h y (List.mem_cons_of_mem _ hy)
    rw [List.length_cons, Nat.pow_succ, Nat.mul_comm ((10 ^ 40) ^ r.length)]
    exact Nat.mul_le_mul (h q List.mem_cons_self) ih
theorem am_ok {qs : List Rat} (h : ∀ q ∈ qs, AmQ q) (len : qs.length ≤ 6) : AmOk (prodD qs) (10 ^ 40) qs where
  dv := fun q hq => (Dv.den q).up (prodD_dvd hq)
  lo := fun q hq => (h q hq).lo
  hi := fun q hq => (h q hq).hi
  hM := prodD_pos qs
  hB := by decide
  fit0 := by
    have k := prodD_lt fun q hq => (h q hq).bt
    have k2 : prodD qs ≤ (10 ^ 40) ^ 6 := Nat.le_trans k (Nat.pow_le_pow_right (by decide) len)
    refine Nat.lt_of_le_of_lt (Nat.mul_le_mul_left _ (Nat.mul_le_mul_right _ k2)) (Nat.lt_of_lt_of_le (by decide : (6 * 10 ^ 40 + 1000000) * ((10 ^ 40) ^ 6 * 768398400) < 2 ^ 1000) (Nat.pow_le_pow_right (by decide) (by decide)))
/-! data -/
def dkn (k : Kn) : PyData := .tuple [.int k.fresh, dq k.drip, .tuple (k.goes.map fun z => dq z.2)]
theorem FL.dps {K : PySem.W.Frag} {H : Hp} : ∀ {l : List Fz}, FL K H l → DpAll K H (rz l) (l.map fun z => dq z.2)
  | [], _ => .nil
  | z :: r, h => .cons (h z List.mem_cons_self).dp (FL.dps fun y hy => h y (List.mem_cons_of_mem _ hy))
theorem KnOk.dp {K : PySem.W.Frag} {H : Hp} {n : Nat} {k : Kn} (h : KnOk K H n k) : Dp K H (.ref k.a) (dkn k) := .tup h.at_ (.cons (.int _) (.cons h.dr.dp (.cons (.tup h.gs h.go.fl.dps) .nil)))
theorem KnL.dps {K : PySem.W.Frag} {H : Hp} {n : Nat} : ∀ {ks : List Kn}, KnL K H n ks → DpAll K H (rk ks) (ks.map dkn)
  | [], _ => .nil
  | z :: r, h => .cons (h z List.mem_cons_self).dp (KnL.dps fun y hy => h y (List.mem_cons_of_mem _ hy))
/-- data that can be compared -/
def Flat (m : Nat) (d : PyData) : Prop := PyData.canLay0 d = true ∧ PyData.depth d ≤ m
theorem flat_all {m : Nat} : ∀ {ds : List PyData}, (∀ d ∈ ds, Flat m d) → PyData.canLayAll0 ds = true ∧ PyData.depthAll ds ≤ m
  | [], _ => ⟨rfl, Nat.zero_le _⟩
  | d :: r, h => by
    obtain ⟨h1, h2⟩ := h d List.mem_cons_self
    obtain ⟨i1, i2⟩ := flat_all (ds := r) fun y hy => h y (List.mem_cons_of_mem _ hy)
    refine ⟨?_, Nat.max_le.mpr ⟨h2, i2⟩⟩
    show (PyData.canLay0 d && PyData.canLayAll0 r) = true
    rw [h1, i1] <;> rfl
theorem flat_list {m : Nat} {ds : List PyData} (h : ∀ d ∈ ds, Flat m d) : Flat (m + 1) (.list ds) := ⟨(flat_all h).1, Nat.succ_le_succ (flat_all h).2⟩
theorem flat_tup {m : Nat} {ds : List PyData} (h : ∀ d ∈ ds, Flat m d) : Flat (m + 1) (.tuple ds) := ⟨(flat_all h).1, Nat.succ_le_succ (flat_all h).2⟩
theorem flat_shaped {m : Nat} {d : PyData} (h : Flat m d) (le : m ≤ 64) : SeqAt.shaped d = true := by
  show (PyData.canLay0 d && decide (PyData.depth d ≤ 64)) = true
  rw [h.1, decide_eq_true (Nat.le_trans h.2 le)] <;> rfl
theorem flat_q (q : Rat) : Flat 1 (dq q) := ⟨rfl, Nat.le_refl _⟩
theorem flat_up {m n : Nat} {d : PyData} (h : Flat m d) (le : m ≤ n) : Flat n d := ⟨h.1, Nat.le_trans h.2 le⟩
theorem flat_qs (l : List Fz) : ∀ d ∈ (l.map fun z => dq z.2), Flat 1 d := fun d hd => by
  obtain ⟨z, _, rfl⟩ := List.mem_map.mp hd
  exact flat_q z.2
theorem flat_kn (k : Kn) : Flat 3 (dkn k) := flat_tup fun d hd => by
  simp only [List.mem_cons, List.not_mem_nil, or_false] at hd
  rcases hd with rfl | rfl | rfl
  · exact ⟨rfl, by show 0 ≤ 2; decide⟩
  · exact flat_up (flat_q _) (by decide)
  · exact flat_tup (flat_qs _)
theorem flat_kns (ks : List Kn) : ∀ d ∈ ks.map dkn, Flat 3 d := fun d hd => by
  obtain ⟨k, _, rfl⟩ := List.mem_map.mp hd
  exact flat_kn k
/-- kinds and amounts beside one another -/
def dka (ks : List Kn) (am : List Fz) : PyData := .list [.list (ks.map dkn), .list (am.map fun z => dq z.2)]
theorem dka_shaped (ks : List Kn) (am : List Fz) : SeqAt.shaped (dka ks am) = true := flat_shaped (m := 5) (flat_list fun d hd => by
  simp only [List.mem_cons, List.not_mem_nil, or_false] at hd
  rcases hd with rfl | rfl
  · exact flat_list (flat_kns ks)
  · exact flat_up (flat_list (flat_qs am)) (by decide)) (by decide)
/-- what doesn't drip of each; what is sold of each -/
def loavesQ (ks : List Kq) (qs : List Rat) : List Rat := List.zipWith (fun q k => q - q * k.drip) qs ks
def soldQ (ks : List Kq) (qs : List Rat) : List Rat := List.zipWith (fun q k => q * k.drip * (1 - zsum k.goes)) qs ks
theorem zw_get {f : Rat → Kq → Rat} {ks : List Kq} {qs : List Rat} {j : Nat} {q : Rat} {k : Kq} (h1 : qs[j]? = some q) (h2 : ks[j]? = some k) : (List.zipWith f qs ks)[j]? = some (f q k) := by
  rw [List.getElem?_zipWith, h1, h2]
theorem zw_len {f : Rat → Kq → Rat} {ks : List Kq} {qs : List Rat} (h : qs.length = ks.length) : (List.zipWith f qs ks).length = ks.length := by
  rw [List.length_zipWith, h, Nat.min_self]
theorem zw_mem {f : Rat → Kq → Rat} {ks : List Kq} {qs : List Rat} {r : Rat} (h : r ∈ List.zipWith f qs ks) : ∃ q ∈ qs, ∃ k ∈ ks, r = f q k := by
  obtain ⟨j, hj, e⟩ := List.getElem_of_mem h
  have hj' := hj
  rw [List.length_zipWith] at hj'
  have g := zw_get (f := f) (List.getElem?_eq_getElem (show j < qs.length by omega)) (List.getElem?_eq_getElem (show j < ks.length by omega))
  rw [List.getElem?_eq_getElem hj, e] at g
  exact ⟨_, List.getElem_mem _, _, List.getElem_mem _, Option.some.inj g⟩
theorem all_parts : ∀ (ks : List Kq) (qs : List Rat), qs.length = ks.length → zsum (keptQ ks qs) + zsum (loavesQ ks qs ++ soldQ ks qs) = zsum qs
  | [], [], _ => by
    show (0 : Rat) + 0 = 0
    exact Rat.add_zero 0
  | k :: ks, q :: qs, h => by
    have ih := all_parts ks qs (Nat.succ.inj h)
    have e1 : zsum (keptQ (k :: ks) (q :: qs)) = q * k.drip * zsum k.goes + zsum (keptQ ks qs) := rfl
    have e2 : zsum (loavesQ (k :: ks) (q :: qs)) = q - q * k.drip + zsum (loavesQ ks qs) := rfl
    have e3 : zsum (soldQ (k :: ks) (q :: qs)) = q * k.drip * (1 - zsum k.goes) + zsum (soldQ ks qs) := rfl
    have e4 : zsum (q :: qs) = q + zsum qs := rfl
    rw [zsum_app] at ih ⊢
    rw [e1, e2, e3, e4, ← ih]
    grind
  | [], _ :: _, h => by simp at h
  | _ :: _, [], h => by simp at h
section
variable {M B : Nat} {qs : List Rat}
theorem AmOk.loaf (a : AmOk M B qs) {q r : Rat} (h : q ∈ qs) (p : Part r) : Dv (M * 768398400) (q - q * r) ∧ 0 ≤ q - q * r ∧ q - q * r ≤ ((B : Int) : Rat) := by
  obtain ⟨d, l, u⟩ := a.drips h p
  have d1 := a.dv q h
  have k := mul_part (a.lo q h) Rat.le_refl p.lo p.hi
  have hi := a.hi q h
  exact ⟨(d1.up (Nat.dvd_mul_right _ _)).sub (d.up ⟨27720, by rw [Nat.mul_assoc]⟩), by grind, by grind⟩
theorem AmOk.sold (a : AmOk M B qs) {q r : Rat} {g : List Rat} (h : q ∈ qs) (p : Part r) (pg : ∀ x ∈ g, Part x) (g1 : zsum g ≤ 1) : Dv (M * 768398400) (q * r * (1 - zsum g)) ∧ 0 ≤ q * r * (1 - zsum g) ∧ q * r * (1 - zsum g) ≤ ((B : Int) : Rat) := by
  obtain ⟨d, l, u⟩ := a.drips h p
  have g0 := zsum_nn fun x hx => (pg x hx).lo
  have k := d.mul ((Dv.int (M := 27720) 1).sub (Dv.all fun x hx => (pg x hx).dv))
  rw [Nat.mul_assoc] at k
  exact ⟨k, mul_part l u (show (0 : Rat) ≤ 1 - zsum g by grind) (show 1 - zsum g ≤ 1 by grind)⟩
end
/-- the rest of a part -/
theorem rest_frac (d : Rat) : (1 - d).num = (d.den : Int) - d.num ∧ ((1 - d).den : Int) = (d.den : Int) := by
  have hb := den_ne' d
  have lo := rat_low d
  have low2 : IsLow ((d.den : Int) - d.num) (d.den : Int) := ⟨lo.pos, by
    have c := lo.cop
    rw [Int.natAbs_natCast] at c ⊢
    have h1 : ((Nat.gcd ((d.den : Int) - d.num).natAbs d.den : Nat) : Int) ∣ (d.den : Int) - d.num := Int.ofNat_dvd_left.mpr (Nat.gcd_dvd_left _ _)
    have h2 : ((Nat.gcd ((d.den : Int) - d.num).natAbs d.den : Nat) : Int) ∣ (d.den : Int) := Int.ofNat_dvd_left.mpr (by rw [Int.natAbs_natCast]; exact Nat.gcd_dvd_right _ _)
    have h3 := Int.dvd_sub h2 h1
    rw [show (d.den : Int) - ((d.den : Int) - d.num) = d.num by omega] at h3
    have h4 := Nat.dvd_gcd (Int.ofNat_dvd_left.mp h3) (Nat.gcd_dvd_right ((d.den : Int) - d.num).natAbs d.den)
    rw [c] at h4
    exact Nat.dvd_one.mp h4⟩
  have er : rq ((d.den : Int) - d.num) (d.den : Int) = 1 - d := by
    have k := rat_nd d
    have h1 := den_ne d
    unfold rq
    rw [Rat.intCast_sub]
    generalize ((d.den : Int) : Rat) = y at *
    generalize (d.num : Rat) = x at *
    rw [← k]
    grind
  have l1 := rq_low (t := (d.den : Int) - d.num) hb
  have l2 := low_eq hb low2 rfl
  rw [l1, er] at l2
  exact ⟨congrArg Prod.fst l2, congrArg Prod.snd l2⟩
theorem rq_rest (d : Rat) : rq ((d.den : Int) - d.num) (d.den : Int) = 1 - d := by
  have k := rat_nd d
  have h1 := den_ne d
  unfold rq
  rw [Rat.intCast_sub]
  generalize ((d.den : Int) : Rat) = y at *
  generalize (d.num : Rat) = x at *
  rw [← k]
  grind
theorem rest_at {K : PySem.W.Frag} {H : Hp} {t : Addr} {d : Rat} (h : H t = some (.tup [.int ((d.den : Int) - d.num), .int (d.den : Int)])) : FrQ K H t (1 - d) := by
  obtain ⟨e1, e2⟩ := rest_frac d
  exact .of (by rw [e1, e2]; exact h)
theorem rest_part {d : Rat} (h : Part d) : Part (1 - d) := by
  refine ⟨?_, ?_, ?_⟩
  · have := h.hi
    grind
  · have := h.lo
    grind
  · have k := (rest_frac d).2
    have b := h.bt
    omega
theorem same_none {H H' : Hp} {a : Addr} (s : Same H H') (n : H' a = none) : H a = none := by
  cases e : H a with
  | none => rfl
  | some o =>
    have k := s _ _ e
    rw [n] at k
    cases k
theorem fresh_sum {K : PySem.W.Frag} {H : Hp} {n : Nat} {ks : List Kn} (L : KnL K H n ks) : 0 ≤ (ks.map (·.fresh)).sum ∧ (ks.map (·.fresh)).sum ≤ 1000000 * (ks.length : Int) := by
  have all : ∀ l : List Kn, (∀ k ∈ l, 0 ≤ k.fresh ∧ k.fresh ≤ 1000000) → 0 ≤ (l.map (·.fresh)).sum ∧ (l.map (·.fresh)).sum ≤ 1000000 * (l.length : Int) := fun l => by
    induction l with
    | nil => exact fun _ => ⟨Int.le_refl _, Int.le_refl _⟩
    | cons k r ih =>
      intro h
      have h1 := h k List.mem_cons_self
      have h2 := ih fun y hy => h y (List.mem_cons_of_mem _ hy)
      rw [List.map_cons, List.sum_cons, List.length_cons]
      omega
  exact all ks fun k hk => ⟨(L k hk).f0, (L k hk).f1⟩
theorem sum_parts_big {l : List Fz} (pa : ∀ z ∈ l, Part z.2) (gl : l.length ≤ 7) : Big (zsum (l.map (·.2))) := by
  have k := parts_add (mem_q pa) (by rw [List.length_map]; exact gl) (l.map (·.2)).length (Nat.le_refl _)
  rw [List.take_length] at k
  exact k
theorem rest_sum_big {l : List Fz} (pa : ∀ z ∈ l, Part z.2) (one : zsum (l.map (·.2)) ≤ 1) : Big (1 - zsum (l.map (·.2))) := by
  have d := (Dv.int (M := 27720) 1).sub (Dv.all fun x hx => (mem_q pa x hx).dv)
  have g0 := zsum_nn fun x hx => (mem_q pa x hx).lo
  exact Dv.szN (B := 1) d (by decide) (show (0 : Rat) ≤ 1 - _ by grind) (show (1 : Rat) - _ ≤ ((1 : Int) : Rat) by have : ((1 : Int) : Rat) = 1 := rfl; grind) (by decide) (Nat.lt_of_lt_of_le (by decide : 1 * 27720 < 2 ^ 20) (Nat.pow_le_pow_right (by decide) (by decide)))
/-- round after round -/
def roundsQ (ks : List Kq) : Nat → List Rat → List Rat
  | 0, qs => qs
  | r + 1, qs => onceQ ks (roundsQ ks r qs)
theorem rounds_len {ks : List Kq} {qs : List Rat} (h : qs.length = ks.length) : ∀ r, (roundsQ ks r qs).length = ks.length
  | 0 => h
  | r + 1 => once_len _ _
theorem rounds_add (ks : List Kq) (qs : List Rat) (b : Nat) : ∀ a, roundsQ ks a (roundsQ ks b qs) = roundsQ ks (a + b) qs
  | 0 => by rw [Nat.zero_add] <;> rfl
  | a + 1 => by
    rw [Nat.add_right_comm]
    show onceQ ks (roundsQ ks a (roundsQ ks b qs)) = onceQ ks (roundsQ ks (a + b) qs)
    rw [rounds_add ks qs b a]
def bR (B : Nat) : Nat → Nat
  | 0 => B
  | r + 1 => 6 * bR B r + 1000000
theorem bR_mono (B : Nat) : ∀ {a b : Nat}, a ≤ b → bR B a ≤ bR B b
  | a, 0, h => by rw [Nat.le_zero.mp h]; exact Nat.le_refl _
  | a, b + 1, h => by
    rcases Nat.lt_or_ge a (b + 1) with l | l
    · have k := bR_mono B (show a ≤ b by omega)
      show _ ≤ 6 * bR B b + 1000000
      omega
    · rw [show a = b + 1 by omega]
      exact Nat.le_refl _
theorem bR_pos {B : Nat} (h : 1 ≤ B) (r : Nat) : 1 ≤ bR B r := Nat.le_trans h (bR_mono B (Nat.zero_le r))
/-- amounts that may be walked on so many rounds -/
theorem rounds_ok {M B N : Nat} {ks : List Kq} {qs : List Rat} (hk : ∀ k ∈ ks, KqOk k) (l6 : ks.length ≤ 6) (lq : qs.length = ks.length) (dv : ∀ q ∈ qs, Dv M q) (lo : ∀ q ∈ qs, 0 ≤ q) (hi : ∀ q ∈ qs, q ≤ ((B : Int) : Rat)) (hM : 0 < M) (hB : 1 ≤ B)
    (fit : (6 * bR B N + 1000000) * (M * 768398400 ^ (N + 1)) < 2 ^ 4300) : ∀ r, r ≤ N → AmOk (M * 768398400 ^ r) (bR B r) (roundsQ ks r qs) := by
  have fitr : ∀ r, r ≤ N → (6 * bR B r + 1000000) * (M * 768398400 ^ r * 768398400) < 2 ^ 4300 := fun r hr => by
    refine Nat.lt_of_le_of_lt (Nat.mul_le_mul ?_ ?_) fit
    · have := bR_mono B hr
      omega
    · rw [Nat.mul_assoc, ← Nat.pow_succ]
      exact Nat.mul_le_mul_left _ (Nat.pow_le_pow_right (by decide) (by omega))
  intro r
  induction r with
  | zero =>
    intro h
    exact ⟨fun q hq => by rw [Nat.pow_zero, Nat.mul_one]; exact dv q hq, lo, hi, Nat.mul_pos hM (Nat.pow_pos (by decide)), hB, fitr 0 h⟩
  | succ r ih =>
    intro h
    have a := ih (by omega)
    have k := a.once hk l6 (rounds_len lq r)
    refine ⟨fun q hq => ?_, fun q hq => (k q hq).2.1, fun q hq => (k q hq).2.2, Nat.mul_pos hM (Nat.pow_pos (by decide)), bR_pos hB _, fitr _ h⟩
    have e := (k q hq).1
    rw [Nat.mul_assoc, ← Nat.pow_succ] at e
    exact e
structure AmS (q : Rat) : Prop where
  lo : 0 ≤ q
  hi : q ≤ ((1000 : Int) : Rat)
  bt : q.den ≤ 60
theorem AmS.rq {t b : Int} (t0 : 0 ≤ t) (t1 : t ≤ 1000) (b1 : 1 ≤ b) (b2 : b ≤ 60) : AmS (KR.rq t b) := by
  refine ⟨rq_nn t0 (by omega), Rat.le_trans (rq_le t0 b1) (Rat.intCast_le_intCast.mpr (by omega)), ?_⟩
  have k := den_le (t := t) (show 0 < b by omega)
  omega
theorem prodD_60 : ∀ {l : List Rat}, (∀ q ∈ l, q.den ≤ 60) → prodD l ≤ 60 ^ l.length
  | [], _ => Nat.le_refl _
  | q :: r, h => by
    have ih := prodD_60 (l := r) fun y hy => h y (List.mem_cons_of_mem _ hy)
    rw [List.length_cons, Nat.pow_succ, Nat.mul_comm (60 ^ r.length)]
    exact Nat.mul_le_mul (h q List.mem_cons_self) ih
theorem am_rounds {ks : List Kq} {qs : List Rat} (hk : ∀ k ∈ ks, KqOk k) (l6 : ks.length ≤ 6) (lq : qs.length = ks.length) (h : ∀ q ∈ qs, AmS q) (r : Nat) (hr : r ≤ 40) : ∃ M B, AmOk M B (roundsQ ks r qs) := by
  have k := prodD_60 fun q hq => (h q hq).bt
  have k2 : prodD qs ≤ 60 ^ 6 := Nat.le_trans k (Nat.pow_le_pow_right (by decide) (by omega))
  exact ⟨_, _, rounds_ok (M := prodD qs) (B := 1000) (N := 40) hk l6 lq (fun q hq => (Dv.den q).up (prodD_dvd hq)) (fun q hq => (h q hq).lo) (fun q hq => (h q hq).hi) (prodD_pos qs) (by decide)
    (Nat.lt_of_le_of_lt (Nat.mul_le_mul_left _ (Nat.mul_le_mul_right _ k2)) (Nat.lt_of_lt_of_le (by decide +kernel : (6 * bR 1000 40 + 1000000) * (60 ^ 6 * 768398400 ^ (40 + 1)) < 2 ^ 2000) (Nat.pow_le_pow_right (by decide) (by decide)))) r hr⟩
theorem and_tail {b : Bool} {A : VK → Prop} {Q : VK} {H : Hp} (hA : ∀ Q : VK, (∀ g, Q (.bl g) H) → A Q) (h : ∀ g, Q (.bl g) H) : if b = true then A Q else Q (.bl false) H := by
  cases b with
  | true => exact hA Q h
  | false => exact h false
end KR
/-! ### steady states: each kind put into the others -/
namespace KR
open PySem PySem.Spec PyProof.Rows L2
/-- so many from a place on, together -/
def gs (f : Nat → Rat) : Nat → Nat → Rat
  | 0, _ => 0
  | c + 1, k => f k + gs f c (k + 1)
theorem gs_ext {f g : Nat → Rat} : ∀ {c k : Nat}, (∀ i, k ≤ i → i < k + c → f i = g i) → gs f c k = gs g c k
  | 0, _, _ => rfl
  | c + 1, k, h => by
    show f k + gs f c (k + 1) = g k + gs g c (k + 1)
    rw [h k (Nat.le_refl k) (by omega), gs_ext (c := c) fun i a b => h i (by omega) (by omega)]
theorem gs_add (f g : Nat → Rat) : ∀ c k : Nat, gs (fun i => f i + g i) c k = gs f c k + gs g c k
  | 0, _ => by
    show (0 : Rat) = 0 + 0
    rw [Rat.add_zero]
  | c + 1, k => by
    show f k + g k + gs (fun i => f i + g i) c (k + 1) = f k + gs f c (k + 1) + (g k + gs g c (k + 1))
    rw [gs_add f g c (k + 1)]
    generalize gs f c (k + 1) = x
    generalize gs g c (k + 1) = z
    grind
theorem gs_mul (q : Rat) (f : Nat → Rat) : ∀ c k : Nat, gs (fun i => q * f i) c k = q * gs f c k
  | 0, _ => (Rat.mul_zero q).symm
  | c + 1, k => by
    show q * f k + gs (fun i => q * f i) c (k + 1) = q * (f k + gs f c (k + 1))
    rw [gs_mul q f c (k + 1), Rat.mul_add]
theorem gs_nn {f : Nat → Rat} : ∀ {c k : Nat}, (∀ i, k ≤ i → i < k + c → 0 ≤ f i) → 0 ≤ gs f c k
  | 0, _, _ => Rat.le_refl
  | c + 1, k, h => by
    have h1 := h k (Nat.le_refl k) (by omega)
    have h2 := gs_nn (c := c) (k := k + 1) fun i a b => h i (by omega) (by omega)
    show 0 ≤ f k + gs f c (k + 1)
    grind
theorem gs_le {f g : Nat → Rat} : ∀ {c k : Nat}, (∀ i, k ≤ i → i < k + c → f i ≤ g i) → gs f c k ≤ gs g c k
  | 0, _, _ => Rat.le_refl
  | c + 1, k, h => by
    have h1 := h k (Nat.le_refl k) (by omega)
    have h2 := gs_le (c := c) (k := k + 1) fun i a b => h i (by omega) (by omega)
    show f k + gs f c (k + 1) ≤ g k + gs g c (k + 1)
    grind
theorem gs_one {f : Nat → Rat} {c k i : Nat} (h : ∀ j, k ≤ j → j < k + c → 0 ≤ f j) (h1 : k ≤ i) (h2 : i < k + c) : f i ≤ gs f c k := by
  induction c generalizing k with
  | zero => omega
  | succ c ih =>
    show f i ≤ f k + gs f c (k + 1)
    have n1 := h k (Nat.le_refl k) (by omega)
    have n2 := gs_nn (f := f) (c := c) (k := k + 1) fun j a b => h j (by omega) (by omega)
    by_cases e : i = k
    · rw [e]
      grind
    · have := ih (k := k + 1) (fun j a b => h j (by omega) (by omega)) (by omega) (by omega)
      grind
/-- one of them apart -/
theorem gs_cut {f : Nat → Rat} {c k i : Nat} (h1 : k ≤ i) (h2 : i < k + c) : gs f c k = gs (fun j => if j = i then 0 else f j) c k + f i := by
  induction c generalizing k with
  | zero => omega
  | succ c ih =>
    show f k + gs f c (k + 1) = (if k = i then 0 else f k) + gs (fun j => if j = i then 0 else f j) c (k + 1) + f i
    by_cases e : k = i
    · rw [if_pos e, e, gs_ext (f := f) (g := fun j => if j = i then 0 else f j) (c := c) fun j a b => by
        show f j = if j = i then 0 else f j
        rw [if_neg (by omega)]]
      grind
    · rw [if_neg e, ih (by omega) (by omega)]
      grind
theorem gs_snoc (f : Nat → Rat) : ∀ c k : Nat, gs f (c + 1) k = gs f c k + f (k + c)
  | 0, k => by
    show f k + 0 = 0 + f (k + 0)
    rw [Rat.add_zero, Rat.zero_add] <;> rfl
  | c + 1, k => by
    show f k + gs f (c + 1) (k + 1) = f k + gs f c (k + 1) + f (k + (c + 1))
    rw [gs_snoc f c (k + 1), show k + 1 + c = k + (c + 1) by omega, Rat.add_assoc]
theorem gs_range (f : Nat → Rat) : ∀ n : Nat, zsum ((List.range n).map f) = gs f n 0
  | 0 => rfl
  | n + 1 => by
    rw [List.range_succ, List.map_append, zsum_app, gs_range f n, gs_snoc, Nat.zero_add]
    show _ + zsum [f n] = _
    rw [zsum_one]
/-- a row without a part of itself; it put into the others -/
def freedR (k : Nat) (r : Nat → Rat) (j : Nat) : Rat := if j = k then 0 else r j / (1 - r k)
def stepA (k : Nat) (A : Nat → Nat → Rat) (i j : Nat) : Rat := if i = k then freedR k (A k) j else if j = k then 0 else A i j + A i k * freedR k (A k) j
/-- what a state of rows tells -/
def Sat (n : Nat) (A : Nat → Nat → Rat) (z : Nat → Rat) : Prop := ∀ i, i < n → z i = gs (fun j => A i j * z j) n 0 + A i n
theorem sat_step {n k : Nat} {A : Nat → Nat → Rat} {z : Nat → Rat} (hk : k < n) (ne : 1 - A k k ≠ 0) (h : Sat n (stepA k A) z) : Sat n A z := by
  have cut : ∀ r : Nat → Rat, gs (fun j => r j * z j) n 0 = gs (fun j => (if j = k then 0 else r j) * z j) n 0 + r k * z k := fun r => by
    rw [gs_cut (f := fun j => r j * z j) (i := k) (Nat.zero_le k) (by omega)]
    refine congrArg (· + r k * z k) (gs_ext fun j _ _ => ?_)
    by_cases e : j = k
    · rw [if_pos e, if_pos e, Rat.zero_mul]
    · rw [if_neg e, if_neg e]
  have hkk := h k hk
  have e1 : gs (fun j => stepA k A k j * z j) n 0 = gs (fun j => (if j = k then 0 else A k j) * z j) n 0 / (1 - A k k) := by
    have e : ∀ j, stepA k A k j * z j = (1 / (1 - A k k)) * ((if j = k then 0 else A k j) * z j) := fun j => by
      unfold stepA freedR
      rw [if_pos rfl]
      by_cases e : j = k
      · rw [if_pos e, if_pos e, Rat.zero_mul, Rat.mul_zero]
      · rw [if_neg e, if_neg e]
        generalize A k j = a at *
        generalize 1 - A k k = b at *
        grind
    rw [gs_ext (fun j _ _ => e j), gs_mul]
    generalize gs _ n 0 = x
    generalize 1 - A k k = b at *
    grind
  have e2 : stepA k A k n = A k n / (1 - A k k) := by
    unfold stepA freedR
    rw [if_pos rfl, if_neg (by omega)]
  rw [e1, e2] at hkk
  intro i hi
  rw [cut (A i)]
  by_cases e : i = k
  · subst e
    generalize gs (fun j => (if j = i then 0 else A i j) * z j) n 0 = x at *
    generalize A i n = f at *
    generalize A i i = a at *
    generalize z i = y at *
    grind
  · have hi' := h i hi
    have e3 : gs (fun j => stepA k A i j * z j) n 0 = gs (fun j => (if j = k then 0 else A i j) * z j) n 0 + A i k * (gs (fun j => (if j = k then 0 else A k j) * z j) n 0 / (1 - A k k)) := by
      rw [← e1, ← gs_mul, ← gs_add]
      refine gs_ext fun j _ _ => ?_
      show stepA k A i j * z j = (if j = k then 0 else A i j) * z j + A i k * (stepA k A k j * z j)
      unfold stepA
      rw [if_neg e, if_pos rfl]
      by_cases ej : j = k
      · rw [if_pos ej, if_pos ej]
        unfold freedR
        rw [if_pos ej, Rat.zero_mul, Rat.mul_zero, Rat.zero_add]
      · rw [if_neg ej, if_neg ej]
        generalize freedR k (A k) j = w
        grind
    have e4 : stepA k A i n = A i n + A i k * (A k n / (1 - A k k)) := by
      unfold stepA freedR
      rw [if_neg e, if_neg (show ¬ n = k by omega), if_neg (show ¬ n = k by omega)]
    rw [e3, e4] at hi'
    generalize gs (fun j => (if j = k then 0 else A k j) * z j) n 0 = x at *
    generalize gs (fun j => (if j = k then 0 else A i j) * z j) n 0 = u at *
    generalize A i n = f at *
    generalize A i k = b at *
    generalize A k n = g at *
    generalize 1 - A k k = a at *
    generalize z i = y at *
    generalize z k = v at *
    grind
/-- how the rows stand when so many kinds are put into the others -/
structure Sta (F n k c : Nat) (A : Nat → Nat → Rat) (y : Nat → Rat) : Prop where
  kc : k + c = n
  nn : ∀ i j, i < n → j ≤ n → 0 ≤ A i j
  z : ∀ i j, i < n → j < k → A i j = 0
  yp : ∀ i, i < n → 0 < y i
  lt : ∀ j, k ≤ j → j < n → gs (fun i => y i * A i j) c k < y j
  le : ∀ j, k ≤ j → j < n → gs (fun i => A i j) c k ≤ 1
  fr : gs (fun i => A i n) c k ≤ ((F : Int) : Rat)
section
variable {F n k c : Nat} {A : Nat → Nat → Rat} {y : Nat → Rat}
theorem Sta.lost (s : Sta F n k (c + 1) A y) : 0 < 1 - A k k := by
  have hk : k < n := by have := s.kc; omega
  have h := s.lt k (Nat.le_refl k) hk
  have h2 : y k * A k k + gs (fun i => y i * A i k) c (k + 1) < y k := h
  have nn := gs_nn (f := fun i => y i * A i k) (c := c) (k := k + 1) fun i a b => Rat.mul_nonneg (Rat.le_of_lt (s.yp i (by have := s.kc; omega))) (s.nn i k (by have := s.kc; omega) (by omega))
  have yp := s.yp k hk
  refine Rat.not_le.mp fun z => ?_
  have m := Rat.mul_le_mul_of_nonneg_left (show (1 : Rat) ≤ A k k by grind) (Rat.le_of_lt yp)
  rw [Rat.mul_one] at m
  grind
theorem freed_nn {r : Nat → Rat} {k j : Nat} (h : 0 ≤ r j) (l : 0 < 1 - r k) : 0 ≤ freedR k r j := by
  unfold freedR
  split
  · exact Rat.le_refl
  · rw [Rat.div_def]
    exact Rat.mul_nonneg h (Rat.le_of_lt (Rat.inv_pos.mpr l))
theorem Sta.step (s : Sta F n k (c + 1) A y) : Sta F n (k + 1) c (stepA k A) y := by
  have kc := s.kc
  have hk : k < n := by omega
  have lost := s.lost
  have ne : 1 - A k k ≠ 0 := fun e => by
    rw [e] at lost
    exact absurd lost Rat.lt_irrefl
  -- what is weighed stays within
  have core : ∀ (w : Nat → Rat) (j : Nat), j ≠ k → (∀ i, i < n → 0 ≤ w i) → 0 ≤ freedR k (A k) j → gs (fun i => w i * A i k) (c + 1) k ≤ w k → gs (fun i => w i * stepA k A i j) c (k + 1) ≤ gs (fun i => w i * A i j) (c + 1) k := fun w j jk wp fj hk1 => by
    have e1 : gs (fun i => w i * stepA k A i j) c (k + 1) = gs (fun i => w i * A i j) c (k + 1) + freedR k (A k) j * gs (fun i => w i * A i k) c (k + 1) := by
      rw [← gs_mul, ← gs_add]
      refine gs_ext fun i a b => ?_
      show w i * stepA k A i j = w i * A i j + freedR k (A k) j * (w i * A i k)
      unfold stepA
      rw [if_neg (by omega), if_neg jk]
      generalize freedR k (A k) j = f
      grind
    rw [e1]
    show _ ≤ w k * A k j + gs (fun i => w i * A i j) c (k + 1)
    have h2 : w k * A k k + gs (fun i => w i * A i k) c (k + 1) ≤ w k := hk1
    have fe : freedR k (A k) j * (1 - A k k) = A k j := by
      unfold freedR
      rw [if_neg jk]
      generalize A k j = a
      generalize 1 - A k k = b at *
      grind
    have m := Rat.mul_le_mul_of_nonneg_left (show gs (fun i => w i * A i k) c (k + 1) ≤ w k * (1 - A k k) by grind) fj
    have e3 : freedR k (A k) j * (w k * (1 - A k k)) = w k * A k j := by
      rw [← fe]
      grind
    rw [e3] at m
    grind
  have fn : ∀ j, j ≤ n → 0 ≤ freedR k (A k) j := fun j hj => freed_nn (s.nn k j hk hj) lost
  have one : ∀ (j : Nat) (B : Nat → Nat → Rat) (c k : Nat), gs (fun i => (fun _ => (1 : Rat)) i * B i j) c k = gs (fun i => B i j) c k := fun j B c k => gs_ext fun i _ _ => Rat.one_mul _
  refine ⟨by omega, fun i j hi hj => ?_, fun i j hi hj => ?_, s.yp, fun j h1 h2 => ?_, fun j h1 h2 => ?_, ?_⟩
  · unfold stepA
    split
    · exact fn j hj
    · split
      · exact Rat.le_refl
      · have a := s.nn i j hi hj
        have b := Rat.mul_nonneg (s.nn i k hi (by omega)) (fn j hj)
        grind
  · unfold stepA
    split
    · unfold freedR
      split
      · rfl
      · rw [s.z k j hk (by omega), Rat.div_def, Rat.zero_mul]
    · split
      · rfl
      · rw [s.z i j hi (by omega)]
        unfold freedR
        rw [if_neg (by omega), s.z k j hk (by omega), Rat.div_def, Rat.zero_mul, Rat.mul_zero, Rat.add_zero]
  · have k1 := core y j (by omega) (fun i hi => Rat.le_of_lt (s.yp i hi)) (fn j (by omega)) (Rat.le_of_lt (s.lt k (Nat.le_refl k) hk))
    have k2 := s.lt j (by omega) h2
    grind
  · have k1 := core (fun _ => 1) j (by omega) (fun _ _ => by decide) (fn j (by omega)) (by rw [one]; exact s.le k (Nat.le_refl k) hk)
    rw [one, one] at k1
    exact Rat.le_trans k1 (s.le j (by omega) h2)
  · have k1 := core (fun _ => 1) n (by omega) (fun _ _ => by decide) (fn n (Nat.le_refl n)) (by rw [one]; exact s.le k (Nat.le_refl k) hk)
    rw [one, one] at k1
    exact Rat.le_trans k1 s.fr
theorem Sta.up (s : Sta F n k c A y) {i j : Nat} (h1 : k ≤ i) (h2 : i < n) (h3 : k ≤ j) (h4 : j < n) : A i j ≤ 1 :=
  Rat.le_trans (gs_one (f := fun i => A i j) (fun i' _ b => s.nn i' j (by have := s.kc; omega) (by omega)) h1 (by have := s.kc; omega)) (s.le j h3 h4)
theorem Sta.upF (s : Sta F n k c A y) {i : Nat} (h1 : k ≤ i) (h2 : i < n) : A i n ≤ ((F : Int) : Rat) :=
  Rat.le_trans (gs_one (f := fun i => A i n) (fun i' _ b => s.nn i' n (by have := s.kc; omega) (by omega)) h1 (by have := s.kc; omega)) s.fr
end
theorem Dv.one {M : Nat} (i : Int) : Dv M (i : Rat) := .int i
/-- a common bottom of what is put in -/
theorem Dv.put {M N L : Nat} {p q r a : Rat} (hp : Dv M p) (hq : Dv N q) (hr : Dv M r) (hL : (1 - a) * ((N : Int) : Rat) = ((L : Int) : Rat)) (ne : 1 - a ≠ 0) : Dv (M * L) (q * (r / (1 - a))) ∧ Dv (M * L) (p + q * (r / (1 - a))) ∧ Dv (M * N) (r / (1 - a) * (1 - a)) := by
  have hpu := Dv.up hp (Nat.dvd_mul_right M L)
  obtain ⟨v, ev⟩ := hq
  obtain ⟨t, et⟩ := hr
  have e : q * (r / (1 - a)) * (((M * L : Nat) : Int) : Rat) = ((v * t : Int) : Rat) := by
    rw [Int.natCast_mul, Rat.intCast_mul, Rat.intCast_mul, ← hL, ← ev, ← et]
    generalize 1 - a = b at *
    generalize ((M : Int) : Rat) = m at *
    generalize ((N : Int) : Rat) = n at *
    grind
  refine ⟨⟨_, e⟩, Dv.add hpu ⟨_, e⟩, ⟨t * N, ?_⟩⟩
  rw [Int.natCast_mul, Rat.intCast_mul, Rat.intCast_mul, ← et]
  generalize 1 - a = b at *
  generalize ((M : Int) : Rat) = m at *
  generalize ((N : Int) : Rat) = n at *
  grind
theorem Dv.freed {M N L : Nat} {r a : Rat} (hr : Dv M r) (hL : (1 - a) * ((N : Int) : Rat) = ((L : Int) : Rat)) (ne : 1 - a ≠ 0) : Dv (M * L) (r / (1 - a)) := by
  obtain ⟨t, et⟩ := hr
  refine ⟨t * N, ?_⟩
  rw [Int.natCast_mul, Rat.intCast_mul, Rat.intCast_mul, ← et, ← hL]
  generalize 1 - a = b at *
  generalize ((M : Int) : Rat) = m at *
  generalize ((N : Int) : Rat) = n at *
  grind
/-- how long the rows' fractions are -/
structure Szs (F n m f V : Nat) (A : Nat → Nat → Rat) (M : Nat → Nat) : Prop where
  dv : ∀ i j, i < n → j ≤ n → Dv (M j) (A i j)
  m0 : ∀ j, j ≤ n → 0 < M j
  mm : ∀ j, j < n → M j ≤ m
  mf : M n ≤ f
  vv : ∀ i j, i < n → j < n → A i j ≤ ((V : Int) : Rat)
  vf : ∀ i, i < n → A i n ≤ ((F * V : Nat) : Int)
theorem inv_le {a : Rat} {N L : Nat} (hL : (1 - a) * ((N : Int) : Rat) = ((L : Int) : Rat)) (L1 : 1 ≤ L) (lost : 0 < 1 - a) : 1 / (1 - a) ≤ ((N : Int) : Rat) := by
  refine div_le lost ?_
  have k : ((1 : Int) : Rat) ≤ ((L : Int) : Rat) := Rat.intCast_le_intCast.mpr (by omega)
  rw [← hL] at k
  have one : ((1 : Int) : Rat) = 1 := rfl
  rw [one] at k
  generalize ((N : Int) : Rat) = x at *
  generalize 1 - a = b at *
  grind
section
variable {F n k c m f V : Nat} {A : Nat → Nat → Rat} {y : Nat → Rat} {M : Nat → Nat}
theorem lost_nat (s : Sta F n k (c + 1) A y) (z : Szs F n m f V A M) : ∃ L : Nat, (1 - A k k) * ((M k : Int) : Rat) = ((L : Int) : Rat) ∧ 1 ≤ L ∧ L ≤ M k := by
  have hk : k < n := by have := s.kc; omega
  obtain ⟨t, et⟩ := z.dv k k hk (by omega)
  have lost := s.lost
  have nn := s.nn k k hk (by omega)
  have m0 := z.m0 k (by omega)
  have mp := cast_pos (show (0 : Int) < (M k : Int) by omega)
  have e : (1 - A k k) * ((M k : Int) : Rat) = (((M k : Int) - t : Int) : Rat) := by
    rw [Rat.intCast_sub, ← et]
    generalize ((M k : Int) : Rat) = x
    grind
  have p1 := Rat.mul_pos lost mp
  rw [e] at p1
  have q1 : (0 : Int) < (M k : Int) - t := Rat.intCast_pos.mp p1
  have p2 := Rat.mul_nonneg nn (Rat.le_of_lt mp)
  rw [et] at p2
  have q2 : (0 : Int) ≤ t := Rat.intCast_nonneg.mp p2
  refine ⟨((M k : Int) - t).toNat, ?_, by omega, by omega⟩
  rw [e, show ((((M k : Int) - t).toNat : Nat) : Int) = (M k : Int) - t by omega]
theorem mul_le2 {a b u v : Rat} (a0 : 0 ≤ a) (b0 : 0 ≤ b) (h1 : a ≤ u) (h2 : b ≤ v) : a * b ≤ u * v := by
  have k1 := Rat.mul_le_mul_of_nonneg_right h1 b0
  have k2 := Rat.mul_le_mul_of_nonneg_left h2 (Rat.le_trans a0 h1)
  exact Rat.le_trans k1 k2
theorem freed_le {r : Nat → Rat} {k j N L : Nat} {U : Nat} (hL : (1 - r k) * ((N : Int) : Rat) = ((L : Int) : Rat)) (L1 : 1 ≤ L) (lost : 0 < 1 - r k) (r0 : 0 ≤ r j) (r1 : r j ≤ ((U : Int) : Rat)) : freedR k r j ≤ ((U * N : Nat) : Int) := by
  unfold freedR
  split
  · exact cast_nn (by omega)
  · have e : r j / (1 - r k) = r j * (1 / (1 - r k)) := by
      generalize 1 - r k = b
      grind
    rw [e, Int.natCast_mul, Rat.intCast_mul]
    refine mul_le2 r0 ?_ r1 (inv_le hL L1 lost)
    rw [Rat.div_def, Rat.one_mul]
    exact Rat.le_of_lt (Rat.inv_pos.mpr lost)
/-- all that one step tells is not long -/
structure StepOk (n k : Nat) (A : Nat → Nat → Rat) : Prop where
  ne : 1 - A k k ≠ 0
  a : ∀ i j, i < n → j ≤ n → Big (A i j)
  l : Big (1 - A k k)
  fr : ∀ j, j ≤ n → Big (freedR k (A k) j)
  fd : ∀ j, j ≤ n → Big (A k j / (1 - A k k))
  mu : ∀ i j, i < n → j ≤ n → Big (A i k * freedR k (A k) j)
theorem Szs.step (s : Sta F n k (c + 1) A y) (z : Szs F n m f V A M) (V1 : 1 ≤ V) (F1 : 1 ≤ F) (m1 : 1 ≤ m) : ∃ M', Szs F n (m * m) (f * m) (V * (1 + m)) (stepA k A) M' := by
  have kc := s.kc
  have hk : k < n := by omega
  have lost := s.lost
  have ne : 1 - A k k ≠ 0 := fun e => by
    rw [e] at lost
    exact absurd lost Rat.lt_irrefl
  obtain ⟨L, hL, L1, L2⟩ := lost_nat s z
  have Mk := z.mm k hk
  have Lm : L ≤ m := Nat.le_trans L2 Mk
  have fn : ∀ j, j ≤ n → 0 ≤ freedR k (A k) j := fun j hj => freed_nn (s.nn k j hk hj) lost
  have fdv : ∀ j, j ≤ n → j ≠ k → freedR k (A k) j = A k j / (1 - A k k) := fun j _ e => by
    unfold freedR
    rw [if_neg e]
  have ak : ∀ j, j < n → A k j ≤ ((1 : Nat) : Int) := fun j hj => by
    by_cases le : k ≤ j
    · exact s.up (Nat.le_refl k) hk le hj
    · rw [s.z k j hk (by omega)]
      decide
  refine ⟨fun j => M j * L, fun i j hi hj => ?_, fun j hj => Nat.mul_pos (z.m0 j hj) L1, fun j hj => Nat.mul_le_mul (z.mm j hj) Lm, Nat.mul_le_mul z.mf Lm, fun i j hi hj => ?_, fun i hi => ?_⟩
  · show Dv (M j * L) (stepA k A i j)
    unfold stepA
    by_cases ei : i = k
    · rw [if_pos ei]
      by_cases ej : j = k
      · unfold freedR
        rw [if_pos ej]
        exact .zero
      · rw [fdv j hj ej]
        exact (z.dv k j hk hj).freed hL ne
    · rw [if_neg ei]
      by_cases ej : j = k
      · rw [if_pos ej]
        exact .zero
      · rw [if_neg ej, fdv j hj ej]
        exact (Dv.put (z.dv i j hi hj) (z.dv i k hi (by omega)) (z.dv k j hk hj) hL ne).2.1
  · have fl := freed_le (U := 1) hL L1 lost (s.nn k j hk (by omega)) (ak j hj)
    have fl2 : freedR k (A k) j ≤ ((m : Int) : Rat) := Rat.le_trans fl (Rat.intCast_le_intCast.mpr (by omega))
    have vm : ((m : Int) : Rat) ≤ ((V * (1 + m) : Nat) : Int) := Rat.intCast_le_intCast.mpr (by
      have : 1 * m ≤ V * (1 + m) := Nat.mul_le_mul V1 (by omega)
      omega)
    unfold stepA
    split
    · exact Rat.le_trans fl2 vm
    · split
      · exact cast_nn (by omega)
      · have k2 := mul_le2 (s.nn i k hi (by omega)) (fn j (by omega)) (z.vv i k hi hk) fl2
        have k1 := z.vv i j hi hj
        have e : ((V * (1 + m) : Nat) : Int) = (V : Int) + (V : Int) * (m : Int) := by
          rw [Nat.mul_add, Nat.mul_one]
          omega
        rw [e, Rat.intCast_add, Rat.intCast_mul]
        generalize A i k * freedR k (A k) j = x at *
        grind
  · have fl := freed_le (U := F) hL L1 lost (s.nn k n hk (Nat.le_refl n)) (s.upF (Nat.le_refl k) hk)
    have fl2 : freedR k (A k) n ≤ ((F * m : Nat) : Int) := Rat.le_trans fl (Rat.intCast_le_intCast.mpr (by
      have := Nat.mul_le_mul_left F Mk
      omega))
    have vm : ((F * m : Nat) : Int) ≤ ((F * (V * (1 + m)) : Nat) : Int) := by
      have : F * (1 * m) ≤ F * (V * (1 + m)) := Nat.mul_le_mul_left F (Nat.mul_le_mul V1 (by omega))
      rw [Nat.one_mul] at this
      omega
    unfold stepA
    split
    · exact Rat.le_trans fl2 (Rat.intCast_le_intCast.mpr vm)
    · split
      · exact cast_nn (by omega)
      · have k2 := mul_le2 (s.nn i k hi (by omega)) (fn n (Nat.le_refl n)) (z.vv i k hi hk) fl2
        have k1 := z.vf i hi
        have e : ((F * (V * (1 + m)) : Nat) : Int) = ((F * V : Nat) : Int) + (V : Int) * ((F * m : Nat) : Int) := by
          have e0 : F * (V * (1 + m)) = F * V + V * (F * m) := by
            rw [Nat.mul_add, Nat.mul_one, Nat.mul_add, Nat.mul_left_comm]
          rw [e0]
          omega
        rw [e, Rat.intCast_add, Rat.intCast_mul]
        generalize A i k * freedR k (A k) n = x at *
        grind
theorem Szs.ok (s : Sta F n k (c + 1) A y) (z : Szs F n m f V A M) (V1 : 1 ≤ V) (F1 : 1 ≤ F) (m1 : 1 ≤ m) (f1 : 1 ≤ f) (fit : F * (V * (1 + m)) * (m * m + f * m) < 2 ^ 4400) : StepOk n k A := by
  have kc := s.kc
  have hk : k < n := by omega
  have lost := s.lost
  have ne : 1 - A k k ≠ 0 := fun e => by
    rw [e] at lost
    exact absurd lost Rat.lt_irrefl
  obtain ⟨L, hL, L1, L2⟩ := lost_nat s z
  obtain ⟨M', z'⟩ := z.step s V1 F1 m1
  have s' := s.step
  have Mk := z.mm k hk
  have Lm : L ≤ m := Nat.le_trans L2 Mk
  have fn : ∀ j, j ≤ n → 0 ≤ freedR k (A k) j := fun j hj => freed_nn (s.nn k j hk hj) lost
  -- what is not below 0, of a bottom and within a bound that fit
  have big : ∀ (N B : Nat) (q : Rat), Dv N q → 0 < N → 0 ≤ q → q ≤ ((B : Int) : Rat) → B ≤ F * (V * (1 + m)) → N ≤ m * m + f * m → Big q := fun N B q d n0 lo hi b1 b2 =>
    d.szN n0 lo (Rat.le_trans hi (Rat.intCast_le_intCast.mpr (show (B : Int) ≤ ((F * (V * (1 + m)) : Nat) : Int) by omega))) (by
      have : 1 * (1 * 1) ≤ F * (V * (1 + m)) := Nat.mul_le_mul F1 (Nat.mul_le_mul V1 (by omega))
      omega) (Nat.lt_of_le_of_lt (Nat.mul_le_mul_left _ b2) fit)
  have B0 : V ≤ F * (V * (1 + m)) := by
    have : 1 * (V * 1) ≤ F * (V * (1 + m)) := Nat.mul_le_mul F1 (Nat.mul_le_mul_left V (by omega))
    omega
  have B1 : F * V ≤ F * (V * (1 + m)) := Nat.mul_le_mul_left F (Nat.le_mul_of_pos_right V (by omega))
  have B2 : V * (1 + m) ≤ F * (V * (1 + m)) := Nat.le_mul_of_pos_left _ F1
  have N0 : m ≤ m * m + f * m := by
    have : 1 * m ≤ m * m := Nat.mul_le_mul_right m m1
    omega
  have N1 : f ≤ m * m + f * m := by
    have : f * 1 ≤ f * m := Nat.mul_le_mul_left f m1
    omega
  have fdv : ∀ j, j ≤ n → Big (A k j / (1 - A k k)) := fun j hj => by
    have d := (z.dv k j hk hj).freed hL ne
    have n0 := Nat.mul_pos (z.m0 j hj) L1
    have nnk := s.nn k j hk hj
    have e : A k j / (1 - A k k) = A k j * (1 / (1 - A k k)) := by
      generalize 1 - A k k = b
      grind
    have i0 : (0 : Rat) ≤ 1 / (1 - A k k) := by
      rw [Rat.div_def, Rat.one_mul]
      exact Rat.le_of_lt (Rat.inv_pos.mpr lost)
    have lo : 0 ≤ A k j / (1 - A k k) := by
      rw [e]
      exact Rat.mul_nonneg nnk i0
    have iv := inv_le hL L1 lost
    have im : 1 / (1 - A k k) ≤ ((m : Int) : Rat) := Rat.le_trans iv (Rat.intCast_le_intCast.mpr (by omega))
    by_cases jn : j = n
    · subst jn
      have hi := mul_le2 nnk i0 (s.upF (Nat.le_refl k) hk) im
      rw [← e, ← Rat.intCast_mul, ← Int.natCast_mul] at hi
      refine big _ (F * m) _ d n0 lo hi (Nat.mul_le_mul_left F ?_) (Nat.le_trans (Nat.mul_le_mul z.mf Lm) (by omega))
      have : 1 * m ≤ V * (1 + m) := Nat.mul_le_mul V1 (by omega)
      omega
    · have ak : A k j ≤ ((1 : Int) : Rat) := by
        by_cases le : k ≤ j
        · exact s.up (Nat.le_refl k) hk le (by omega)
        · rw [s.z k j hk (by omega)]
          decide
      have hi := mul_le2 nnk i0 ak im
      rw [← e, ← Rat.intCast_mul, Int.one_mul] at hi
      refine big _ m _ d n0 lo hi ?_ (Nat.le_trans (Nat.mul_le_mul (z.mm j (by omega)) Lm) (by omega))
      have : 1 * m ≤ V * (1 + m) := Nat.mul_le_mul V1 (by omega)
      omega
  refine ⟨ne, fun i j hi hj => ?_, ?_, fun j hj => ?_, fdv, fun i j hi hj => ?_⟩
  · by_cases jn : j = n
    · subst jn
      exact big _ _ _ (z.dv i j hi hj) (z.m0 j hj) (s.nn i j hi hj) (z.vf i hi) B1 (Nat.le_trans z.mf N1)
    · exact big _ _ _ (z.dv i j hi hj) (z.m0 j hj) (s.nn i j hi hj) (z.vv i j hi (by omega)) B0 (Nat.le_trans (z.mm j (by omega)) N0)
  · have nn := s.nn k k hk (by omega)
    exact big (M k) 1 _ ((Dv.int 1).sub (z.dv k k hk (by omega))) (z.m0 k (by omega)) (Rat.le_of_lt lost) (show 1 - A k k ≤ ((1 : Int) : Rat) by
      have : ((1 : Int) : Rat) = 1 := rfl
      rw [this]
      grind) (by omega) (Nat.le_trans Mk N0)
  · unfold freedR
    split
    · exact big 1 1 0 .zero (by decide) Rat.le_refl (by decide) (by omega) (by omega)
    · exact fdv j hj
  · by_cases ej : j = k
    · unfold freedR
      rw [if_pos ej, Rat.mul_zero]
      exact big 1 1 0 .zero (by decide) Rat.le_refl (by decide) (by omega) (by omega)
    · have fe : freedR k (A k) j = A k j / (1 - A k k) := by
        unfold freedR
        rw [if_neg ej]
      have d : Dv (M j * L) (A i k * freedR k (A k) j) := by
        rw [fe]
        exact (Dv.put (z.dv i j hi hj) (z.dv i k hi (by omega)) (z.dv k j hk hj) hL ne).1
      have lo := Rat.mul_nonneg (s.nn i k hi (by omega)) (fn j hj)
      by_cases jn : j = n
      · subst jn
        have fl := freed_le (U := F) hL L1 lost (s.nn k j hk hj) (s.upF (Nat.le_refl k) hk)
        have fl2 : freedR k (A k) j ≤ ((F * m : Nat) : Int) := Rat.le_trans fl (Rat.intCast_le_intCast.mpr (by
          have := Nat.mul_le_mul_left F Mk
          omega))
        have hi2 := mul_le2 (s.nn i k hi (by omega)) (fn j hj) (z.vv i k hi hk) fl2
        rw [← Rat.intCast_mul, ← Int.natCast_mul] at hi2
        refine big _ _ _ d (Nat.mul_pos (z.m0 j hj) L1) lo hi2 ?_ (Nat.le_trans (Nat.mul_le_mul z.mf Lm) (by omega))
        rw [Nat.mul_left_comm]
        exact Nat.mul_le_mul_left F (Nat.mul_le_mul_left V (by omega))
      · have ak : A k j ≤ ((1 : Nat) : Int) := by
          by_cases le : k ≤ j
          · exact s.up (Nat.le_refl k) hk le (by omega)
          · rw [s.z k j hk (by omega)]
            decide
        have fl := freed_le (U := 1) hL L1 lost (s.nn k j hk hj) ak
        have fl2 : freedR k (A k) j ≤ ((m : Int) : Rat) := Rat.le_trans fl (Rat.intCast_le_intCast.mpr (by omega))
        have hi2 := mul_le2 (s.nn i k hi (by omega)) (fn j hj) (z.vv i k hi hk) fl2
        rw [← Rat.intCast_mul, ← Int.natCast_mul] at hi2
        refine big _ _ _ d (Nat.mul_pos (z.m0 j hj) L1) lo hi2 (Nat.le_trans ?_ B2) (Nat.le_trans (Nat.mul_le_mul (z.mm j (by omega)) Lm) (by omega))
        exact Nat.mul_le_mul_left V (by omega)
end
end KR
/-! ### kinds: what they lose, how they stay -/
namespace KR
open PySem PySem.Spec PyProof.Rows L2
/-- step after step -/
def stgA (A : Nat → Nat → Rat) : Nat → Nat → Nat → Rat
  | 0 => A
  | k + 1 => stepA k (stgA A k)
def mS : Nat → Nat
  | 0 => 332640
  | k + 1 => mS k * mS k
def fS : Nat → Nat
  | 0 => 1
  | k + 1 => fS k * mS k
def vS : Nat → Nat
  | 0 => 1
  | k + 1 => vS k * (1 + mS k)
theorem mS_pos : ∀ k, 1 ≤ mS k
  | 0 => by decide
  | k + 1 => Nat.mul_pos (mS_pos k) (mS_pos k)
theorem fS_pos : ∀ k, 1 ≤ fS k
  | 0 => by decide
  | k + 1 => Nat.mul_pos (fS_pos k) (mS_pos k)
theorem vS_pos : ∀ k, 1 ≤ vS k
  | 0 => by decide
  | k + 1 => Nat.mul_pos (vS_pos k) (by omega)
theorem mS_up {a b : Nat} (h : a ≤ b) : mS a ≤ mS b := by
  induction b with
  | zero => rw [Nat.le_zero.mp h]; exact Nat.le_refl _
  | succ b ih =>
    rcases Nat.lt_or_ge a (b + 1) with l | l
    · exact Nat.le_trans (ih (by omega)) (Nat.le_mul_of_pos_right _ (mS_pos b))
    · rw [show a = b + 1 by omega]
      exact Nat.le_refl _
theorem fS_up {a b : Nat} (h : a ≤ b) : fS a ≤ fS b := by
  induction b with
  | zero => rw [Nat.le_zero.mp h]; exact Nat.le_refl _
  | succ b ih =>
    rcases Nat.lt_or_ge a (b + 1) with l | l
    · exact Nat.le_trans (ih (by omega)) (Nat.le_mul_of_pos_right _ (mS_pos b))
    · rw [show a = b + 1 by omega]
      exact Nat.le_refl _
theorem vS_up {a b : Nat} (h : a ≤ b) : vS a ≤ vS b := by
  induction b with
  | zero => rw [Nat.le_zero.mp h]; exact Nat.le_refl _
  | succ b ih =>
    rcases Nat.lt_or_ge a (b + 1) with l | l
    · exact Nat.le_trans (ih (by omega)) (Nat.le_mul_of_pos_right _ (by omega))
    · rw [show a = b + 1 by omega]
      exact Nat.le_refl _
section
variable {n : Nat} {A : Nat → Nat → Rat} {y : Nat → Rat}
theorem stages (s : Sta 6000000 n 0 n A y) (z : Szs 6000000 n (mS 0) (fS 0) (vS 0) A M) : ∀ k, k ≤ n → Sta 6000000 n k (n - k) (stgA A k) y ∧ ∃ M', Szs 6000000 n (mS k) (fS k) (vS k) (stgA A k) M'
  | 0, _ => ⟨s, M, z⟩
  | k + 1, h => by
    obtain ⟨a, M', b⟩ := stages s z k (by omega)
    rw [show n - k = (n - (k + 1)) + 1 by omega] at a
    exact ⟨a.step, b.step a (vS_pos k) (by decide) (mS_pos k)⟩
theorem stage_ok (s : Sta 6000000 n 0 n A y) (z : Szs 6000000 n (mS 0) (fS 0) (vS 0) A M) (n6 : n ≤ 6) {k : Nat} (h : k < n) : StepOk n k (stgA A k) := by
  obtain ⟨a, M', b⟩ := stages s z k (by omega)
  rw [show n - k = (n - (k + 1)) + 1 by omega] at a
  refine b.ok a (vS_pos k) (by decide) (mS_pos k) (fS_pos k) ?_
  have h1 := vS_up (show k ≤ 5 by omega)
  have h2 := mS_up (show k ≤ 5 by omega)
  have h3 := fS_up (show k ≤ 5 by omega)
  exact Nat.lt_of_le_of_lt (Nat.mul_le_mul (Nat.mul_le_mul_left _ (Nat.mul_le_mul h1 (Nat.add_le_add_left h2 1))) (Nat.add_le_add (Nat.mul_le_mul h2 h2) (Nat.mul_le_mul h3 h2)))
    (by decide +kernel : 6000000 * (vS 5 * (1 + mS 5)) * (mS 5 * mS 5 + fS 5 * mS 5) < 2 ^ 4400)
/-- what is told in the end -/
theorem sat_stg (s : Sta 6000000 n 0 n A y) (z : Szs 6000000 n (mS 0) (fS 0) (vS 0) A M) (x : Nat → Rat) : ∀ k, k ≤ n → Sat n (stgA A k) x → Sat n A x
  | 0, _, h => h
  | k + 1, hk, h => by
    obtain ⟨a, M', b⟩ := stages s z k (by omega)
    rw [show n - k = (n - (k + 1)) + 1 by omega] at a
    have l := a.lost
    exact sat_stg s z x k (by omega) (sat_step (show k < n by omega) (fun e => by rw [e] at l; exact absurd l Rat.lt_irrefl) h)
theorem sat_end (s : Sta 6000000 n 0 n A y) (z : Szs 6000000 n (mS 0) (fS 0) (vS 0) A M) : Sat n A fun i => stgA A n i n := by
  refine sat_stg s z _ n (Nat.le_refl n) fun i hi => ?_
  obtain ⟨a, _⟩ := stages s z n (Nat.le_refl n)
  have e : gs (fun j => stgA A n i j * stgA A n j n) n 0 = gs (fun _ => (0 : Rat) * 0) n 0 := gs_ext fun j _ hj => by
    rw [a.z i j hi (by omega), Rat.zero_mul, Rat.zero_mul]
  rw [e, gs_mul, Rat.zero_mul, Rat.zero_add]
theorem end_facts (s : Sta 6000000 n 0 n A y) (z : Szs 6000000 n (mS 0) (fS 0) (vS 0) A M) : ∃ D, 0 < D ∧ D ≤ fS n ∧ ∀ i, i < n → Dv D (stgA A n i n) ∧ 0 ≤ stgA A n i n ∧ stgA A n i n ≤ ((6000000 * vS n : Nat) : Int) := by
  obtain ⟨a, M', b⟩ := stages s z n (Nat.le_refl n)
  exact ⟨M' n, b.m0 n (Nat.le_refl n), b.mf, fun i hi => ⟨b.dv i n hi (Nat.le_refl n), a.nn i n hi (Nat.le_refl n), b.vf i hi⟩⟩
end
/-- the last column so often -/
theorem stg_twice {n : Nat} (q : Rat) {A B : Nat → Nat → Rat} (h1 : ∀ i j, j < n → B i j = A i j) (h2 : ∀ i, B i n = q * A i n) : ∀ k, k ≤ n → (∀ i j, j < n → stgA B k i j = stgA A k i j) ∧ ∀ i, stgA B k i n = q * stgA A k i n
  | 0, _ => ⟨h1, h2⟩
  | k + 1, hk => by
    obtain ⟨a, b⟩ := stg_twice q h1 h2 k (by omega)
    have fj : ∀ j, j < n → freedR k (stgA B k k) j = freedR k (stgA A k k) j := fun j hj => by
      unfold freedR
      rw [a k j hj, a k k (by omega)]
    have fn : freedR k (stgA B k k) n = q * freedR k (stgA A k k) n := by
      unfold freedR
      rw [if_neg (by omega), if_neg (by omega), b k, a k k (by omega), Rat.div_def, Rat.div_def, Rat.mul_assoc]
    refine ⟨fun i j hj => ?_, fun i => ?_⟩
    · show stepA k (stgA B k) i j = stepA k (stgA A k) i j
      unfold stepA
      rw [fj j hj, a i j hj, a i k (by omega)]
    · show stepA k (stgA B k) i n = q * stepA k (stgA A k) i n
      unfold stepA
      rw [fn, b i, a i k (by omega), if_neg (show ¬ n = k by omega), if_neg (show ¬ n = k by omega)]
      split
      · rfl
      · generalize freedR k (stgA A k k) n = u
        generalize stgA A k i k = v
        generalize stgA A k i n = w
        grind
/-! kinds -/
def kd (ks : List Kq) (j : Nat) : Kq := ks.getD j ⟨0, 0, []⟩
def initA (ks : List Kq) (i j : Nat) : Rat := if j < ks.length then (kd ks j).drip * (kd ks j).goes.getD i 0 else ((kd ks i).fresh : Rat)
def solQ (ks : List Kq) : List Rat := (List.range ks.length).map fun i => stgA (initA ks) ks.length i ks.length
theorem kd_at {ks : List Kq} {j : Nat} {k : Kq} (h : ks[j]? = some k) : kd ks j = k := by
  unfold kd
  rw [List.getD_eq_getElem?_getD, h] <;> rfl
theorem kd_mem {ks : List Kq} {j : Nat} (h : j < ks.length) : kd ks j ∈ ks := by
  rw [kd_at (List.getElem?_eq_getElem h)]
  exact List.getElem_mem h
/-- kinds that go together -/
structure KsOk (ks : List Kq) : Prop where
  ok : ∀ k ∈ ks, KqOk k
  len : ∀ k ∈ ks, k.goes.length = ks.length
  one : ∀ k ∈ ks, zsum k.goes ≤ 1
  l6 : ks.length ≤ 6
theorem goes_gs {g : List Rat} {n : Nat} (h : g.length = n) : zsum g = gs (fun i => g.getD i 0) n 0 := by
  rw [← gs_range]
  refine congrArg zsum (List.ext_getElem? fun i => ?_)
  rw [List.getElem?_map]
  by_cases hi : i < n
  · rw [List.getElem?_range hi, List.getElem?_eq_getElem (by omega)]
    show _ = some (g.getD i 0)
    rw [List.getD_eq_getElem?_getD, List.getElem?_eq_getElem (by omega)] <;> rfl
  · rw [List.getElem?_eq_none (by omega), List.getElem?_eq_none (by rw [List.length_range]; omega)] <;> rfl
section
variable {ks : List Kq} (O : KsOk ks)
include O
theorem KsOk.part {j : Nat} (h : j < ks.length) (i : Nat) : Part ((kd ks j).goes.getD i 0) := (O.ok _ (kd_mem h)).at_ i
theorem KsOk.col {j : Nat} (h : j < ks.length) : gs (fun i => initA ks i j) ks.length 0 = (kd ks j).drip * zsum (kd ks j).goes := by
  rw [goes_gs (O.len _ (kd_mem h)), ← gs_mul]
  refine gs_ext fun i _ _ => ?_
  unfold initA
  rw [if_pos h]
theorem KsOk.nn (i j : Nat) (hi : i < ks.length) : 0 ≤ initA ks i j := by
  unfold initA
  split
  case isTrue h => exact Rat.mul_nonneg (O.ok _ (kd_mem h)).pd.lo (O.part h i).lo
  case isFalse h => exact cast_nn (O.ok _ (kd_mem hi)).f0
theorem KsOk.col1 {j : Nat} (h : j < ks.length) : gs (fun i => initA ks i j) ks.length 0 ≤ 1 := by
  rw [O.col h]
  have p := (O.ok _ (kd_mem h)).pd
  have g := O.one _ (kd_mem h)
  have k := mul_le2 p.lo (zsum_nn fun q hq => ((O.ok _ (kd_mem h)).pg q hq).lo) p.hi g
  rw [Rat.mul_one] at k
  exact k
theorem KsOk.szs : ∃ M, Szs 6000000 ks.length (mS 0) (fS 0) (vS 0) (initA ks) M := by
  refine ⟨fun j => if j < ks.length then (kd ks j).drip.den * 27720 else 1, fun i j hi hj => ?_, fun j hj => ?_, fun j hj => ?_, ?_, fun i j hi hj => ?_, fun i hi => ?_⟩
  · unfold initA
    by_cases h : j < ks.length
    · rw [if_pos h, if_pos h]
      exact (Dv.den _).mul (O.part h i).dv
    · rw [if_neg h, if_neg h]
      exact .int _
  · show 0 < if j < ks.length then _ else _
    split
    · exact Nat.mul_pos (Rat.den_pos _) (by decide)
    · decide
  · show (if j < ks.length then _ else _) ≤ mS 0
    rw [if_pos hj]
    have := (O.ok _ (kd_mem hj)).pd.bt
    show _ ≤ 332640
    omega
  · show (if ks.length < ks.length then _ else _) ≤ fS 0
    rw [if_neg (Nat.lt_irrefl _)]
    exact Nat.le_refl _
  · exact Rat.le_trans (gs_one (f := fun i => initA ks i j) (fun i' _ h => O.nn i' j (by omega)) (Nat.zero_le i) (by omega)) (O.col1 hj)
  · unfold initA
    rw [if_neg (Nat.lt_irrefl _)]
    refine Rat.intCast_le_intCast.mpr ?_
    have := (O.ok _ (kd_mem hi)).f1
    show (kd ks i).fresh ≤ ((6000000 * 1 : Nat) : Int)
    omega
theorem KsOk.sta {y : Nat → Rat} (y0 : ∀ i, i < ks.length → 0 < y i) (lt : ∀ j, j < ks.length → gs (fun i => y i * initA ks i j) ks.length 0 < y j) : Sta 6000000 ks.length 0 ks.length (initA ks) y := by
  refine ⟨Nat.zero_add _, fun i j hi _ => O.nn i j hi, fun i j _ h => absurd h (Nat.not_lt_zero j), y0, fun j _ h => lt j h, fun j _ h => O.col1 h, ?_⟩
  have all : gs (fun i => initA ks i ks.length) ks.length 0 ≤ gs (fun _ => (1000000 : Rat) * 1) ks.length 0 := gs_le fun i _ hi => by
    unfold initA
    rw [if_neg (Nat.lt_irrefl _), Rat.mul_one]
    exact Rat.intCast_le_intCast.mpr (show (kd ks i).fresh ≤ (1000000 : Int) from (O.ok _ (kd_mem (by omega))).f1)
  refine Rat.le_trans all ?_
  rw [gs_mul]
  have c : ∀ c k : Nat, c ≤ 6 → gs (fun _ => (1 : Rat)) c k ≤ 6 := fun c k hc => by
    have e : ∀ c k : Nat, gs (fun _ => (1 : Rat)) c k = ((c : Int) : Rat) := fun c => by
      induction c with
      | zero => exact fun _ => rfl
      | succ c ih =>
        intro k
        show 1 + gs _ c (k + 1) = _
        rw [ih, Int.natCast_add, Rat.intCast_add, Rat.add_comm] <;> rfl
    rw [e]
    exact Rat.intCast_le_intCast.mpr (show (c : Int) ≤ 6 by omega)
  have k := Rat.mul_le_mul_of_nonneg_left (c ks.length 0 O.l6) (show (0 : Rat) ≤ 1000000 by decide)
  refine Rat.le_trans k ?_
  show ((1000000 : Int) : Rat) * ((6 : Int) : Rat) ≤ _
  rw [← Rat.intCast_mul]
  exact Rat.intCast_le_intCast.mpr (by decide)
end
/-- kinds of some places, weighed: what is not at them loses something in the end -/
structure Wt (ks : List Kq) (P : Nat → Bool) (y : Nat → Rat) : Prop where
  y0 : ∀ i, i < ks.length → 0 < y i
  y1 : ∀ i, i < ks.length → y i ≤ 1
  on : ∀ i, i < ks.length → P i = true → y i = 1
  off : ∀ i, i < ks.length → P i = false → y i < 1 ∧ gs (fun j => y j * initA ks j i) ks.length 0 < y i
theorem Wt.all (ks : List Kq) : Wt ks (fun _ => true) fun _ => 1 := ⟨fun _ _ => by decide, fun _ _ => Rat.le_refl, fun _ _ _ => rfl, fun _ _ h => Bool.noConfusion h⟩
theorem Wt.less {ks : List Kq} {P Q : Nat → Bool} {y : Nat → Rat} (O : KsOk ks) (w : Wt ks P y) (sub : ∀ i, i < ks.length → Q i = true → P i = true) (h : ∀ i, i < ks.length → P i = true → Q i = false → gs (fun j => if P j then initA ks j i else 0) ks.length 0 < 1) : ∃ y', Wt ks Q y' := by
  have low : ∀ i, i < ks.length → P i = true → Q i = false → gs (fun j => y j * initA ks j i) ks.length 0 < 1 := fun i hi p q => by
    have le1 := O.col1 hi
    have e : gs (fun j => initA ks j i) ks.length 0 = gs (fun j => y j * initA ks j i) ks.length 0 + gs (fun j => (1 - y j) * initA ks j i) ks.length 0 := by
      rw [← gs_add]
      refine gs_ext fun j _ _ => ?_
      show initA ks j i = y j * initA ks j i + (1 - y j) * initA ks j i
      generalize initA ks j i = a
      grind
    have tn : ∀ j, 0 ≤ j → j < 0 + ks.length → 0 ≤ (1 - y j) * initA ks j i := fun j _ hj => Rat.mul_nonneg (by have := w.y1 j (by omega); grind) (O.nn j i (by omega))
    have n2 := gs_nn (f := fun j => (1 - y j) * initA ks j i) tn
    refine Rat.not_le.mp fun ge => ?_
    have z : gs (fun j => (1 - y j) * initA ks j i) ks.length 0 ≤ 0 := by grind
    have zj : ∀ j, j < ks.length → P j = false → initA ks j i = 0 := fun j hj pf => by
      have k1 := gs_one (f := fun j => (1 - y j) * initA ks j i) tn (Nat.zero_le j) (show j < 0 + ks.length by omega)
      have yl := (w.off j hj pf).1
      have a0 := O.nn j i hj
      have k2 : (1 - y j) * initA ks j i ≤ 0 := Rat.le_trans k1 z
      refine Rat.le_antisymm (Rat.not_lt.mp fun gt => ?_) a0
      have := Rat.mul_pos (show (0 : Rat) < 1 - y j by grind) gt
      grind
    have hh := h i hi p q
    rw [gs_ext (f := fun j => if P j then initA ks j i else 0) (g := fun j => initA ks j i) (c := ks.length) (k := 0) fun j _ hj => by
      cases pj : P j with
      | true => rfl
      | false => exact (zj j (by omega) pj).symm] at hh
    grind
  have s0 : ∀ i, i < ks.length → 0 ≤ gs (fun j => y j * initA ks j i) ks.length 0 := fun i hi => gs_nn fun j _ hj => Rat.mul_nonneg (Rat.le_of_lt (w.y0 j (by omega))) (O.nn j i (by omega))
  refine ⟨fun i => if P i && !Q i then (1 + gs (fun j => y j * initA ks j i) ks.length 0) / 2 else y i, ?_⟩
  have le : ∀ i, i < ks.length → (if P i && !Q i then (1 + gs (fun j => y j * initA ks j i) ks.length 0) / 2 else y i) ≤ y i := fun i hi => by
    split
    case isTrue c =>
      have p : P i = true := by
        cases e : P i with
        | true => rfl
        | false =>
          rw [e] at c
          cases c
      have q : Q i = false := by
        cases e : Q i with
        | false => rfl
        | true =>
          rw [e, p] at c
          cases c
      have k := low i hi p q
      rw [w.on i hi p]
      generalize gs _ ks.length 0 = s at *
      grind
    case isFalse => exact Rat.le_refl
  have sum : ∀ i, i < ks.length → gs (fun j => (if P j && !Q j then (1 + gs (fun j' => y j' * initA ks j' j) ks.length 0) / 2 else y j) * initA ks j i) ks.length 0 ≤ gs (fun j => y j * initA ks j i) ks.length 0 := fun i hi =>
    gs_le fun j _ hj => Rat.mul_le_mul_of_nonneg_right (le j (by omega)) (O.nn j i (by omega))
  refine ⟨fun i hi => ?_, fun i hi => Rat.le_trans (le i hi) (w.y1 i hi), fun i hi q => ?_, fun i hi q => ?_⟩
  · show 0 < if P i && !Q i then _ else _
    split
    · have k := s0 i hi
      generalize gs _ ks.length 0 = s at *
      grind
    · exact w.y0 i hi
  · show (if P i && !Q i then _ else _) = (1 : Rat)
    rw [q, Bool.not_true, Bool.and_false, if_neg (by decide)]
    exact w.on i hi (sub i hi q)
  · have sm := sum i hi
    show (if P i && !Q i then (1 + gs (fun j => y j * initA ks j i) ks.length 0) / 2 else y i) < 1 ∧ gs _ ks.length 0 < if P i && !Q i then (1 + gs (fun j => y j * initA ks j i) ks.length 0) / 2 else y i
    cases p : P i with
    | true =>
      have k := low i hi p q
      rw [q]
      show (if (true && !false) = true then (1 + gs (fun j => y j * initA ks j i) ks.length 0) / 2 else y i) < 1 ∧ _ < if (true && !false) = true then (1 + gs (fun j => y j * initA ks j i) ks.length 0) / 2 else y i
      rw [if_pos (show (true && !false) = true from rfl)]
      generalize gs (fun j => y j * initA ks j i) ks.length 0 = s at *
      exact ⟨by grind, by grind⟩
    | false =>
      obtain ⟨k1, k2⟩ := w.off i hi p
      show (if (false && !Q i) = true then _ else y i) < 1 ∧ _ < if (false && !Q i) = true then _ else y i
      rw [if_neg (by simp)]
      exact ⟨k1, by grind⟩
theorem Wt.none {ks : List Kq} {P : Nat → Bool} {y : Nat → Rat} (O : KsOk ks) (w : Wt ks P y) (h : ∀ i, i < ks.length → P i = false) : Sta 6000000 ks.length 0 ks.length (initA ks) y :=
  O.sta w.y0 fun j hj => (w.off j hj (h j hj)).2
/-- places by a test -/
def psF (P : Nat → Bool) (n : Nat) : List Nat := (List.range n).filter P
theorem zsum_psF (P : Nat → Bool) (g : Nat → Rat) : ∀ n, zsum ((psF P n).map g) = gs (fun i => if P i then g i else 0) n 0
  | 0 => rfl
  | n + 1 => by
    unfold psF
    rw [List.range_succ, List.filter_append, List.map_append, zsum_app, gs_snoc, Nat.zero_add]
    have ih := zsum_psF P g n
    unfold psF at ih
    rw [ih]
    cases e : P n with
    | true =>
      rw [List.filter_cons_of_pos e]
      show _ + zsum [g n] = _ + g n
      rw [zsum_one]
    | false =>
      rw [List.filter_cons_of_neg (by rw [e]; decide)]
      rfl
theorem psF_mem {P : Nat → Bool} {n i : Nat} : i ∈ psF P n ↔ i < n ∧ P i = true := by
  unfold psF
  rw [List.mem_filter, List.mem_range]
theorem psF_succ (P : Nat → Bool) (n : Nat) : psF P (n + 1) = psF P n ++ if P n then [n] else [] := by
  unfold psF
  rw [List.range_succ, List.filter_append]
  cases e : P n with
  | true => rw [List.filter_cons_of_pos e] <;> rfl
  | false => rw [List.filter_cons_of_neg (by rw [e]; decide)] <;> rfl
theorem psF_len {P Q : Nat → Bool} : ∀ {n : Nat}, (∀ i, i < n → P i = true → Q i = true) → (psF P n).length ≤ (psF Q n).length ∧ ((psF P n).length = (psF Q n).length → ∀ i, i < n → P i = Q i)
  | 0, _ => ⟨Nat.le_refl _, fun _ i hi => absurd hi (Nat.not_lt_zero i)⟩
  | n + 1, h => by
    obtain ⟨a, b⟩ := psF_len (n := n) fun i hi => h i (by omega)
    rw [psF_succ, psF_succ, List.length_append, List.length_append]
    have hn := h n (by omega)
    cases p : P n with
    | true =>
      rw [hn p]
      refine ⟨Nat.add_le_add_right a _, fun e i hi => ?_⟩
      by_cases l : i = n
      · rw [l, p, hn p]
      · exact b (by simpa using e) i (by omega)
    | false =>
      cases q : Q n with
      | true => exact ⟨Nat.le_trans a (Nat.le_add_right _ _), fun e => by
          simp only [Bool.false_eq_true, if_false, if_true, List.length_nil, List.length_cons] at e
          omega⟩
      | false =>
        refine ⟨a, fun e i hi => ?_⟩
        by_cases l : i = n
        · rw [l, p, q]
        · exact b (by simpa using e) i (by omega)
theorem psF_ext {P Q : Nat → Bool} {n : Nat} (h : ∀ i, i < n → P i = Q i) : psF P n = psF Q n := by
  unfold psF
  exact List.filter_congr fun i hi => h i (List.mem_range.mp hi)
theorem psF_nil {P : Nat → Bool} {n : Nat} : psF P n = [] ↔ ∀ i, i < n → P i = false := by
  unfold psF
  rw [List.filter_eq_nil_iff]
  constructor
  · intro h i hi
    have := h i (List.mem_range.mpr hi)
    cases e : P i with
    | false => rfl
    | true => exact absurd e this
  · intro h i hi e
    rw [h i (List.mem_range.mp hi)] at e
    cases e
/-- kinds of which together nothing is lost -/
structure Fine (ks : List Kq) (P : Nat → Bool) : Prop where
  dr : ∀ i, i < ks.length → P i = true → (kd ks i).drip = 1
  al : ∀ i, i < ks.length → P i = true → zsum (kd ks i).goes = 1
  st : ∀ i, i < ks.length → P i = true → ∀ j, j < ks.length → (kd ks i).goes.getD j 0 ≠ 0 → P j = true
structure Great (ks : List Kq) (P : Nat → Bool) : Prop where
  fine : Fine ks P
  all : ∀ S, Fine ks S → ∀ i, i < ks.length → S i = true → P i = true
theorem Great.one {ks : List Kq} {P Q : Nat → Bool} (a : Great ks P) (b : Great ks Q) : psF P ks.length = psF Q ks.length := psF_ext fun i hi => by
  cases p : P i with
  | true => exact (b.all P a.fine i hi p).symm
  | false =>
    cases q : Q i with
    | false => rfl
    | true =>
      have := a.all Q b.fine i hi q
      rw [p] at this
      cases this
theorem Fine.both {ks : List Kq} {P Q : Nat → Bool} (a : Fine ks P) (b : Fine ks Q) : Fine ks fun i => P i || Q i := by
  have either : ∀ i, (P i || Q i) = true → P i = true ∨ Q i = true := fun i h => by simpa using h
  refine ⟨fun i hi h => (either i h).elim (a.dr i hi) (b.dr i hi), fun i hi h => (either i h).elim (a.al i hi) (b.al i hi), fun i hi h j hj ne => ?_⟩
  rcases either i h with p | q
  · show (P j || Q j) = true
    rw [a.st i hi p j hj ne, Bool.true_or]
  · show (P j || Q j) = true
    rw [b.st i hi q j hj ne, Bool.or_true]
/-- the fine one of the most kinds is the greatest -/
theorem Great.most {ks : List Kq} {P : Nat → Bool} (a : Fine ks P) (h : ∀ S, Fine ks S → (psF S ks.length).length ≤ (psF P ks.length).length) : Great ks P := by
  refine ⟨a, fun S s i hi si => ?_⟩
  have u := h _ (s.both a)
  have k := psF_len (P := P) (Q := fun i => S i || P i) (n := ks.length) fun j _ p => by
    show (S j || P j) = true
    rw [p, Bool.or_true]
  have e := k.2 (Nat.le_antisymm k.1 u) i hi
  rw [e]
  show (S i || P i) = true
  rw [si, Bool.true_or]
/-- what is left of some places -/
def allTo (ks : List Kq) (P : Nat → Bool) (i : Nat) : Rat := zsum ((psF P ks.length).map fun j => (kd ks i).goes.getD j 0)
def nextP (ks : List Kq) (P : Nat → Bool) (i : Nat) : Bool := P i && decide (allTo ks P i = 1)
structure Left (ks : List Kq) (P : Nat → Bool) : Prop where
  w : ∃ y, Wt ks P y
  dr : ∀ i, i < ks.length → P i = true → (kd ks i).drip = 1
  all : ∀ S, Fine ks S → ∀ i, i < ks.length → S i = true → P i = true
theorem allTo_gs (ks : List Kq) (P : Nat → Bool) (i : Nat) : allTo ks P i = gs (fun j => if P j then (kd ks i).goes.getD j 0 else 0) ks.length 0 := zsum_psF P _ _
theorem allTo_le {ks : List Kq} (O : KsOk ks) {P : Nat → Bool} {i : Nat} (hi : i < ks.length) : 0 ≤ allTo ks P i ∧ allTo ks P i ≤ 1 := by
  rw [allTo_gs]
  refine ⟨gs_nn fun j _ _ => ?_, Rat.le_trans (gs_le (g := fun j => (kd ks i).goes.getD j 0) fun j _ _ => ?_) (Rat.le_trans (b := zsum (kd ks i).goes) (by rw [goes_gs (O.len _ (kd_mem hi))]; exact Rat.le_refl) (O.one _ (kd_mem hi)))⟩
  · show 0 ≤ if P j then _ else _
    split
    · exact (O.part hi j).lo
    · exact Rat.le_refl
  · show (if P j then _ else _) ≤ _
    split
    · exact Rat.le_refl
    · exact (O.part hi j).lo
theorem Left.first {ks : List Kq} (O : KsOk ks) : Left ks fun i => decide ((kd ks i).drip = 1) := by
  refine ⟨(Wt.all ks).less O (fun _ _ _ => rfl) fun i hi _ q => ?_, fun i _ h => of_decide_eq_true h, fun S s i hi si => decide_eq_true (s.dr i hi si)⟩
  have ne : (kd ks i).drip ≠ 1 := of_decide_eq_false q
  have p := (O.ok _ (kd_mem hi)).pd
  have lt : (kd ks i).drip < 1 := Rat.not_le.mp fun z => ne (Rat.le_antisymm p.hi z)
  show gs (fun j => if true then initA ks j i else 0) ks.length 0 < 1
  have e : gs (fun j => if true then initA ks j i else 0) ks.length 0 = gs (fun j => initA ks j i) ks.length 0 := gs_ext fun j _ _ => rfl
  rw [e, O.col hi]
  have k := Rat.mul_le_mul_of_nonneg_left (O.one _ (kd_mem hi)) p.lo
  rw [Rat.mul_one] at k
  grind
theorem Left.next {ks : List Kq} (O : KsOk ks) {P : Nat → Bool} (h : Left ks P) : Left ks (nextP ks P) := by
  obtain ⟨y, w⟩ := h.w
  have sub : ∀ i, nextP ks P i = true → P i = true ∧ allTo ks P i = 1 := fun i q => by
    unfold nextP at q
    have := Bool.and_eq_true _ _ ▸ q
    exact ⟨this.1, of_decide_eq_true this.2⟩
  refine ⟨w.less O (fun i _ q => (sub i q).1) fun i hi p q => ?_, fun i hi q => h.dr i hi (sub i q).1, fun S s i hi si => ?_⟩
  · have ne : allTo ks P i ≠ 1 := fun e => by
      unfold nextP at q
      rw [p, decide_eq_true e] at q
      cases q
    have lt : allTo ks P i < 1 := Rat.not_le.mp fun z => ne (Rat.le_antisymm (allTo_le O hi).2 z)
    rw [allTo_gs] at lt
    refine Rat.not_le.mp fun ge => absurd lt (Rat.not_lt.mpr (Rat.le_trans ge (gs_le fun j _ _ => ?_)))
    show (if P j then initA ks j i else 0) ≤ if P j then _ else _
    split
    · unfold initA
      rw [if_pos hi, h.dr i hi p, Rat.one_mul]
      exact Rat.le_refl
    · exact Rat.le_refl
  · have p := h.all S s i hi si
    unfold nextP
    rw [p, Bool.true_and]
    refine decide_eq_true ?_
    rw [allTo_gs, ← s.al i hi si, goes_gs (O.len _ (kd_mem hi))]
    refine gs_ext fun j _ hj => ?_
    show (if P j then _ else _) = _
    by_cases z : (kd ks i).goes.getD j 0 = 0
    · rw [z]
      split <;> rfl
    · rw [if_pos (h.all S s j (by omega) (s.st i hi si j (by omega) z))]
/-- where nothing more is left out nothing is lost -/
theorem Left.end_ {ks : List Kq} (O : KsOk ks) {P : Nat → Bool} (h : Left ks P) (e : ∀ i, i < ks.length → P i = true → allTo ks P i = 1) : Great ks P := by
  have full : ∀ i, i < ks.length → P i = true → zsum (kd ks i).goes = 1 ∧ ∀ j, j < ks.length → (kd ks i).goes.getD j 0 ≠ 0 → P j = true := fun i hi p => by
    have a := e i hi p
    have b := O.one _ (kd_mem hi)
    rw [goes_gs (O.len _ (kd_mem hi))] at b
    rw [goes_gs (O.len _ (kd_mem hi))]
    rw [allTo_gs] at a
    have s : gs (fun j => (kd ks i).goes.getD j 0) ks.length 0 = gs (fun j => if P j then (kd ks i).goes.getD j 0 else 0) ks.length 0 + gs (fun j => if P j then 0 else (kd ks i).goes.getD j 0) ks.length 0 := by
      rw [← gs_add]
      refine gs_ext fun j _ _ => ?_
      show _ = (if P j then _ else _) + (if P j then _ else _)
      cases P j with
      | true => exact (Rat.add_zero _).symm
      | false => exact (Rat.zero_add _).symm
    have nn : ∀ j, 0 ≤ j → j < 0 + ks.length → 0 ≤ (if P j then 0 else (kd ks i).goes.getD j 0) := fun j _ hj => by
      split
      · exact Rat.le_refl
      · exact (O.part hi j).lo
    have n2 := gs_nn (f := fun j => if P j then 0 else (kd ks i).goes.getD j 0) nn
    refine ⟨by grind, fun j hj ne => ?_⟩
    cases p' : P j with
    | true => rfl
    | false =>
      have k := gs_one (f := fun j => if P j then 0 else (kd ks i).goes.getD j 0) nn (Nat.zero_le j) (show j < 0 + ks.length by omega)
      rw [p'] at k
      have k : (kd ks i).goes.getD j 0 ≤ gs (fun j => if P j then 0 else (kd ks i).goes.getD j 0) ks.length 0 := k
      exact absurd (Rat.le_antisymm (by grind) (O.part hi j).lo) ne
  exact ⟨⟨h.dr, fun i hi p => (full i hi p).1, fun i hi p => (full i hi p).2⟩, h.all⟩
/-! the steady state -/
section
variable {ks : List Kq}
theorem sol_len (ks : List Kq) : (solQ ks).length = ks.length := by
  unfold solQ
  rw [List.length_map, List.length_range]
theorem sol_get {i : Nat} (h : i < ks.length) : (solQ ks)[i]? = some (stgA (initA ks) ks.length i ks.length) := by
  unfold solQ
  rw [List.getElem?_map, List.getElem?_range h] <;> rfl
theorem fresh_at {i : Nat} (h : i < ks.length) : (ks.map (·.fresh)).getD i 0 = (kd ks i).fresh := by
  rw [List.getD_eq_getElem?_getD, List.getElem?_map, List.getElem?_eq_getElem h, kd_at (List.getElem?_eq_getElem h)] <;> rfl
theorem comes_gs {qs : List Rat} (h : qs.length = ks.length) (p : Nat) : zsum (comes ks qs p) = gs (fun j => (kd ks j).drip * (kd ks j).goes.getD p 0 * qs.getD j 0) ks.length 0 := by
  rw [← gs_range]
  refine congrArg zsum (List.ext_getElem? fun j => ?_)
  rw [List.getElem?_map]
  by_cases hj : j < ks.length
  · have e1 : qs[j]? = some qs[j] := List.getElem?_eq_getElem (by omega)
    have e2 := List.getElem?_eq_getElem hj
    rw [comes_get e1 e2, List.getElem?_range hj]
    show some _ = some ((kd ks j).drip * (kd ks j).goes.getD p 0 * qs.getD j 0)
    rw [kd_at e2, List.getD_eq_getElem?_getD (l := qs), e1]
    refine congrArg some ?_
    show qs[j] * ks[j].drip * ks[j].goes.getD p 0 = ks[j].drip * ks[j].goes.getD p 0 * qs[j]
    generalize ks[j].goes.getD p 0 = g
    grind
  · rw [List.getElem?_eq_none (by rw [comes_len h]; omega), List.getElem?_eq_none (by rw [List.length_range]; omega)] <;> rfl
theorem once_gs {qs : List Rat} (h : qs.length = ks.length) {p : Nat} (hp : p < ks.length) : onceAt ks qs p = gs (fun j => initA ks p j * qs.getD j 0) ks.length 0 + initA ks p ks.length := by
  unfold onceAt
  rw [fresh_at hp, comes_gs h]
  have e : gs (fun j => (kd ks j).drip * (kd ks j).goes.getD p 0 * qs.getD j 0) ks.length 0 = gs (fun j => initA ks p j * qs.getD j 0) ks.length 0 := gs_ext fun j _ hj => by
    show _ = initA ks p j * _
    unfold initA
    rw [if_pos (by omega)]
  rw [e]
  unfold initA
  rw [if_neg (Nat.lt_irrefl _), Rat.add_comm]
variable (O : KsOk ks) {y : Nat → Rat} (s : Sta 6000000 ks.length 0 ks.length (initA ks) y)
include O s
theorem sol_sat : Sat ks.length (initA ks) fun i => stgA (initA ks) ks.length i ks.length := by
  obtain ⟨M, z⟩ := O.szs
  exact sat_end s z
theorem sol_once : onceQ ks (solQ ks) = solQ ks := by
  refine List.ext_getElem? fun i => ?_
  by_cases hi : i < ks.length
  · rw [once_get hi, sol_get hi, once_gs (sol_len ks) hi]
    refine congrArg some ?_
    refine Eq.trans ?_ (sol_sat O s i hi).symm
    refine congrArg (· + initA ks i ks.length) (gs_ext fun j _ hj => ?_)
    show _ * _ = _ * _
    rw [List.getD_eq_getElem?_getD, sol_get (by omega)] <;> rfl
  · rw [List.getElem?_eq_none (by rw [once_len]; omega), List.getElem?_eq_none (by rw [sol_len]; omega)]
theorem sol_facts : ∃ D, 0 < D ∧ D ≤ fS ks.length ∧ ∀ q ∈ solQ ks, Dv D q ∧ 0 ≤ q ∧ q ≤ ((6000000 * vS ks.length : Nat) : Int) := by
  obtain ⟨M, z⟩ := O.szs
  obtain ⟨D, d0, d1, all⟩ := end_facts s z
  refine ⟨D, d0, d1, fun q hq => ?_⟩
  unfold solQ at hq
  obtain ⟨i, hi, rfl⟩ := List.mem_map.mp hq
  exact all i (List.mem_range.mp hi)
theorem sol_am : ∃ M B, AmOk M B (solQ ks) := by
  obtain ⟨D, d0, d1, all⟩ := sol_facts O s
  refine ⟨D, 6000000 * vS ks.length, fun q hq => (all q hq).1, fun q hq => (all q hq).2.1, fun q hq => (all q hq).2.2, d0, Nat.mul_pos (by decide) (vS_pos _), ?_⟩
  have h1 := vS_up O.l6
  have h2 := fS_up O.l6
  exact Nat.lt_of_le_of_lt (Nat.mul_le_mul (Nat.add_le_add_right (Nat.mul_le_mul_left 6 (Nat.mul_le_mul_left 6000000 h1)) 1000000) (Nat.mul_le_mul_right 768398400 (Nat.le_trans d1 h2)))
    (by decide +kernel : (6 * (6000000 * vS 6) + 1000000) * (fS 6 * 768398400) < 2 ^ 4300)
theorem sol_step {k : Nat} (h : k < ks.length) : StepOk ks.length k (stgA (initA ks) k) := by
  obtain ⟨M, z⟩ := O.szs
  exact stage_ok s z O.l6 h
end
/-- so much more fresh sugar -/
def moreK (i : Int) (k : Kq) : Kq := ⟨i * k.fresh, k.drip, k.goes⟩
theorem sol_more (i : Int) (ks : List Kq) : solQ (ks.map (moreK i)) = (solQ ks).map fun q => (i : Rat) * q := by
  have len : (ks.map (moreK i)).length = ks.length := List.length_map _
  have at_ : ∀ j, j < ks.length → kd (ks.map (moreK i)) j = moreK i (kd ks j) := fun j hj => by
    rw [kd_at (List.getElem?_eq_getElem hj)]
    exact kd_at (by rw [List.getElem?_map, List.getElem?_eq_getElem hj] <;> rfl)
  have off : ∀ j, ¬ j < ks.length → kd (ks.map (moreK i)) j = ⟨0, 0, []⟩ := fun j hj => by
    unfold kd
    rw [List.getD_eq_getElem?_getD, List.getElem?_eq_none (by rw [len]; omega)] <;> rfl
  have off' : ∀ j, ¬ j < ks.length → kd ks j = ⟨0, 0, []⟩ := fun j hj => by
    unfold kd
    rw [List.getD_eq_getElem?_getD, List.getElem?_eq_none (by omega)] <;> rfl
  have k := stg_twice (n := ks.length) (i : Rat) (A := initA ks) (B := initA (ks.map (moreK i))) (fun a j hj => by
    unfold initA
    rw [if_pos hj, if_pos (by rw [len]; exact hj), at_ j hj] <;> rfl) (fun a => by
    unfold initA
    rw [if_neg (Nat.lt_irrefl _), if_neg (by rw [len]; exact Nat.lt_irrefl _)]
    by_cases ha : a < ks.length
    · rw [at_ a ha]
      exact Rat.intCast_mul _ _
    · rw [off a ha, off' a ha]
      exact (Rat.mul_zero _).symm) ks.length (Nat.le_refl _)
  unfold solQ
  rw [len, List.map_map]
  exact List.map_congr_left fun j _ => k.2 j
/-- places as values -/
def ri (ps : List Nat) : List V := ps.map fun i : Nat => V.int (i : Int)
theorem ri_len (ps : List Nat) : (ri ps).length = ps.length := List.length_map _
theorem ri_get {ps : List Nat} {j : Nat} {v : V} (h : (ri ps)[j]? = some v) : ∃ i, ps[j]? = some i ∧ v = .int (i : Int) := by
  unfold ri at h
  rw [List.getElem?_map] at h
  cases e : ps[j]? with
  | none =>
    rw [e] at h
    cases h
  | some i =>
    rw [e] at h
    exact ⟨i, rfl, (Option.some.inj h).symm⟩
theorem ri_snoc (ps : List Nat) (i : Nat) : ri (ps ++ [i]) = ri ps ++ [.int (i : Int)] := by
  unfold ri
  rw [List.map_append] <;> rfl
/-- a place that is there -/
theorem ixN_nat {n i : Nat} (h : i < n) : ixN n (i : Int) = some i := by
  unfold ixN
  rw [if_pos (by omega), if_pos (by omega), Int.toNat_natCast]
/-- a row of fractions by its function -/
def RowL (n : Nat) (r : Nat → Rat) (l : List Fz) : Prop := l.map (·.2) = (List.range (n + 1)).map r
theorem RowL.len {n : Nat} {r : Nat → Rat} {l : List Fz} (h : RowL n r l) : l.length = n + 1 := by
  have e := congrArg List.length h
  rw [List.length_map, List.length_map, List.length_range] at e
  exact e
theorem RowL.get {n : Nat} {r : Nat → Rat} {l : List Fz} (h : RowL n r l) {j : Nat} {z : Fz} (e : l[j]? = some z) : z.2 = r j ∧ j < n + 1 := by
  have lt := (List.getElem?_eq_some_iff.mp e).1
  rw [h.len] at lt
  have k := rz_q e
  rw [show l.map (·.2) = _ from h, List.getElem?_map, List.getElem?_range lt] at k
  exact ⟨(Option.some.inj k).symm, lt⟩
theorem RowL.at_ {n : Nat} {r : Nat → Rat} {l : List Fz} (h : RowL n r l) {j : Nat} (lt : j < n + 1) : ∃ z : Fz, l[j]? = some z ∧ z.2 = r j := by
  have e : l[j]? = some (l[j]'(by rw [h.len]; exact lt)) := List.getElem?_eq_getElem _
  exact ⟨_, e, (h.get e).1⟩
theorem RowL.of {n : Nat} {r : Nat → Rat} {l : List Fz} (len : l.length = n + 1) (h : ∀ (j : Nat) (z : Fz), l[j]? = some z → z.2 = r j) : RowL n r l := by
  refine List.ext_getElem? fun j => ?_
  rw [List.getElem?_map]
  by_cases lt : j < n + 1
  · have e : l[j]? = some (l[j]'(by omega)) := List.getElem?_eq_getElem _
    rw [List.getElem?_map, List.getElem?_range lt, e]
    exact congrArg some (h j _ e)
  · rw [List.getElem?_eq_none (by omega), List.getElem?_eq_none (by rw [List.length_map, List.length_range]; omega)] <;> rfl
theorem rz_at {l : List Fz} {j : Nat} {z : Fz} (h : l[j]? = some z) : (rz l)[j]? = some (.ref z.1) := by
  unfold rz
  rw [List.getElem?_map, h] <;> rfl
theorem rk_at {l : List Kn} {j : Nat} {k : Kn} (h : l[j]? = some k) : (rk l)[j]? = some (.ref k.a) := by
  unfold rk
  rw [List.getElem?_map, h] <;> rfl
/-- one of a list's or a tuple's -/
theorem ix_seqB {K : PySem.W.Frag} {H : Hp} {a : Addr} {xs : List V} {p : Bool} {i : Nat} {v : V} {Q : VK} (h : SqB K H a xs p) (g : xs[i]? = some v) (q : Q v H) : rIx K (.ref a) (.int (i : Int)) H Q := by
  cases p with
  | true => exact .inl ⟨a, xs, _, v, rfl, rfl, h, at_of rfl g, q⟩
  | false => exact .inr (.inl ⟨a, xs, _, v, rfl, rfl, h, at_of rfl g, q⟩)
theorem kn_kd {ks : List Kn} {j : Nat} {k : Kn} (h : ks[j]? = some k) : kd (ks.map Kn.q) j = k.q := kd_at (by rw [List.getElem?_map, h] <;> rfl)
/-- the first of a row -/
def PreL (r : Nat → Rat) (l : List Fz) : Prop := ∀ (j : Nat) (z : Fz), l[j]? = some z → z.2 = r j
theorem PreL.nil {r : Nat → Rat} : PreL r [] := fun j z e => by
  rw [List.getElem?_nil] at e
  cases e
theorem PreL.snoc {r : Nat → Rat} {l : List Fz} {z : Fz} (h : PreL r l) (e : z.2 = r l.length) : PreL r (l ++ [z]) := fun j y g => by
  rcases Nat.lt_or_ge j l.length with lt | ge
  · rw [List.getElem?_append_left lt] at g
    exact h j y g
  · rw [List.getElem?_append_right ge] at g
    have j0 : j - l.length = 0 := by
      rcases Nat.eq_zero_or_pos (j - l.length) with z0 | p0
      · exact z0
      · rw [List.getElem?_eq_none (by show 1 ≤ _; omega)] at g
        cases g
    rw [j0] at g
    cases g
    rw [e, show j = l.length by omega]
theorem PreL.set {r : Nat → Rat} {l : List Fz} {i : Nat} {z : Fz} (h : ∀ (j : Nat) (y : Fz), j ≠ i → l[j]? = some y → y.2 = r j) (e : z.2 = r i) : PreL r (l.set i z) := fun j y g => by
  by_cases c : j = i
  · subst c
    have lt : j < l.length := by
      have := (List.getElem?_eq_some_iff.mp g).1
      rwa [List.length_set] at this
    rw [List.getElem?_set_self lt] at g
    cases g
    exact e
  · rw [List.getElem?_set_ne (fun z => c z.symm)] at g
    exact h j y c g
theorem snoc_len {α : Type} {l : List α} {x : α} {n : Nat} (h : l.length = n) : (l ++ [x]).length = n + 1 := by
  rw [List.length_append, h] <;> rfl
theorem mem_upto {l : List Fz} {z : Fz} (h : z ∈ l) : ∃ j : Nat, l[j]? = some z := by
  obtain ⟨j, hj, e⟩ := List.getElem_of_mem h
  exact ⟨j, by rw [← e]; exact List.getElem?_eq_getElem hj⟩
/-- lists of places beside one another -/
theorem eqv_ints : ∀ (a b : List Int), PyData.eqvAll (a.map PyData.int) (b.map PyData.int) = decide (a = b)
  | [], [] => rfl
  | [], _ :: _ => rfl
  | _ :: _, [] => rfl
  | x :: a, y :: b => by
    show (PyData.eqv (.int x) (.int y) && PyData.eqvAll (a.map PyData.int) (b.map PyData.int)) = _
    rw [eqv_ints a b]
    show (decide (x = y) && _) = _
    by_cases c : x = y
    · subst c
      by_cases d : a = b
      · subst d
        simp
      · simp [d]
    · simp [c]
def dpi (ps : List Nat) : PyData := .list ((ps.map fun i : Nat => (i : Int)).map PyData.int)
theorem dpi_eqv (a b : List Nat) : PyData.eqv (dpi a) (dpi b) = decide (a = b) := by
  refine (eqv_ints _ _).trans ?_
  rw [decide_eq_decide]
  refine ⟨fun h => ?_, fun h => by rw [h]⟩
  exact List.map_inj_right (fun x y e => by omega) |>.mp h
theorem ints_dps {K : PySem.W.Frag} {H : Hp} : ∀ (ps : List Nat), DpAll K H (ri ps) ((ps.map fun i : Nat => (i : Int)).map PyData.int)
  | [] => .nil
  | i :: r => .cons (.int _) (ints_dps r)
theorem ri_dp {K : PySem.W.Frag} {H : Hp} {a : Addr} {ps : List Nat} (h : SqL K H a (ri ps)) : Dp K H (.ref a) (dpi ps) := .lst h (ints_dps ps)
theorem dpi_shaped (ps : List Nat) : SeqAt.shaped (dpi ps) = true := flat_shaped (m := 1) (flat_list (m := 0) fun d hd => by
  obtain ⟨i, _, rfl⟩ := List.mem_map.mp hd
  exact ⟨rfl, Nat.le_refl _⟩) (by decide)
theorem KnL.ks {K : PySem.W.Frag} {H : Hp} {ks : List Kn} (L : KnL K H ks.length ks) (l6 : ks.length ≤ 6) : KsOk (ks.map Kn.q) := by
  refine ⟨fun k hk => ?_, fun k hk => ?_, fun k hk => ?_, by rw [List.length_map]; exact l6⟩
  · obtain ⟨kn, h, rfl⟩ := List.mem_map.mp hk
    exact (L kn h).q
  · obtain ⟨kn, h, rfl⟩ := List.mem_map.mp hk
    show (kn.goes.map (·.2)).length = _
    rw [List.length_map, List.length_map, (L kn h).go.len]
  · obtain ⟨kn, h, rfl⟩ := List.mem_map.mp hk
    exact (L kn h).go.one
theorem one_eqv (q : Rat) : PyData.eqv (dq q) (dq 1) = decide (q = 1) := eqv_dq q 1
theorem psF_step {P : Nat → Bool} {i : Nat} : psF P (i + 1) = if P i = true then psF P i ++ [i] else psF P i := by
  rw [psF_succ]
  split
  · rfl
  · exact List.append_nil _
theorem psF_le (P : Nat → Bool) (n : Nat) : (psF P n).length ≤ n := by
  have k := List.length_filter_le P (List.range n)
  rw [List.length_range] at k
  exact k
/-- some of the first ones, by a test -/
theorem psF_filter (P Q : Nat → Bool) (n : Nat) : (psF P n).filter Q = psF (fun i => P i && Q i) n := by
  unfold psF
  rw [List.filter_filter]
  exact List.filter_congr fun i _ => by rw [Bool.and_comm]
theorem take_filter {α : Type} {Q : α → Bool} {l : List α} {j : Nat} {x : α} (h : l[j]? = some x) : (l.take (j + 1)).filter Q = if Q x = true then (l.take j).filter Q ++ [x] else (l.take j).filter Q := by
  rw [take_one h, List.filter_append]
  cases e : Q x with
  | true => rw [List.filter_cons_of_pos e, if_pos rfl] <;> rfl
  | false =>
    rw [List.filter_cons_of_neg (by rw [e]; decide), if_neg (by decide)]
    exact List.append_nil _
/-- rows of rows -/
abbrev Rw := Addr × List Fz
def rv (rs : List Rw) : List V := rs.map fun r => V.ref r.1
theorem rv_len (rs : List Rw) : (rv rs).length = rs.length := List.length_map _
theorem rv_get {rs : List Rw} {j : Nat} {v : V} (h : (rv rs)[j]? = some v) : ∃ r, rs[j]? = some r ∧ v = .ref r.1 := by
  unfold rv at h
  rw [List.getElem?_map] at h
  cases e : rs[j]? with
  | none =>
    rw [e] at h
    cases h
  | some r =>
    rw [e] at h
    exact ⟨r, rfl, (Option.some.inj h).symm⟩
theorem rv_at {rs : List Rw} {j : Nat} {r : Rw} (h : rs[j]? = some r) : (rv rs)[j]? = some (.ref r.1) := by
  unfold rv
  rw [List.getElem?_map, h] <;> rfl
theorem rv_snoc (rs : List Rw) (r : Rw) : rv (rs ++ [r]) = rv rs ++ [.ref r.1] := by
  unfold rv
  rw [List.map_append] <;> rfl
theorem rv_set (rs : List Rw) (i : Nat) (r : Rw) : (rv rs).set i (.ref r.1) = rv (rs.set i r) := by
  unfold rv
  rw [List.map_set]
structure RwOk (K : PySem.W.Frag) (H : Hp) (n : Nat) (f : Nat → Rat) (r : Rw) : Prop where
  at_ : H r.1 = some (.lst (rz r.2))
  fl : FL K H r.2
  ro : RowL n f r.2
theorem RwOk.same {K : PySem.W.Frag} {H H' : Hp} {n : Nat} {f : Nat → Rat} {r : Rw} (h : RwOk K H n f r) (s : Same H H') : RwOk K H' n f r := ⟨s _ _ h.at_, h.fl.same s, h.ro⟩
theorem RwOk.put {K : PySem.W.Frag} {H : Hp} {n : Nat} {f : Nat → Rat} {r : Rw} {q : Addr} {xs ys : List V} (h : RwOk K H n f r) (hq : H q = some (.lst xs)) (ne : r.1 ≠ q) : RwOk K (upd H q (.lst ys)) n f r := ⟨by rw [upd_ne ne]; exact h.at_, h.fl.put hq, h.ro⟩
/-- the first of the rows, beside the list that holds them -/
def RwL (K : PySem.W.Frag) (H : Hp) (n : Nat) (A : Nat → Nat → Rat) (q : Addr) (rs : List Rw) : Prop := ∀ (i : Nat) (r : Rw), rs[i]? = some r → RwOk K H n (A i) r ∧ r.1 ≠ q
theorem RwL.nil {K : PySem.W.Frag} {H : Hp} {n : Nat} {A : Nat → Nat → Rat} {q : Addr} : RwL K H n A q [] := fun i r e => by
  rw [List.getElem?_nil] at e
  cases e
theorem RwL.same {K : PySem.W.Frag} {H H' : Hp} {n : Nat} {A : Nat → Nat → Rat} {q : Addr} {rs : List Rw} (h : RwL K H n A q rs) (s : Same H H') : RwL K H' n A q rs := fun i r e => ⟨(h i r e).1.same s, (h i r e).2⟩
theorem RwL.put {K : PySem.W.Frag} {H : Hp} {n : Nat} {A : Nat → Nat → Rat} {q : Addr} {rs : List Rw} {xs ys : List V} (h : RwL K H n A q rs) (hq : H q = some (.lst xs)) : RwL K (upd H q (.lst ys)) n A q rs := fun i r e => ⟨(h i r e).1.put hq (h i r e).2, (h i r e).2⟩
theorem RwL.snoc {K : PySem.W.Frag} {H : Hp} {n : Nat} {A : Nat → Nat → Rat} {q : Addr} {rs : List Rw} {z : Rw} (h : RwL K H n A q rs) (k : RwOk K H n (A rs.length) z) (ne : z.1 ≠ q) : RwL K H n A q (rs ++ [z]) := fun j y g => by
  rcases Nat.lt_or_ge j rs.length with lt | ge
  · rw [List.getElem?_append_left lt] at g
    exact h j y g
  · rw [List.getElem?_append_right ge] at g
    have j0 : j - rs.length = 0 := by
      rcases Nat.eq_zero_or_pos (j - rs.length) with z0 | p0
      · exact z0
      · rw [List.getElem?_eq_none (by show 1 ≤ _; omega)] at g
        cases g
    rw [j0] at g
    cases g
    rw [show j = rs.length by omega]
    exact ⟨k, ne⟩
theorem lenV_seqB {K : PySem.W.Frag} {H : Hp} {a : Addr} {xs : List V} {p : Bool} (h : SqB K H a xs p) : LenV K (.ref a) H xs.length := by
  cases p with
  | true => exact .inl ⟨xs, h, rfl⟩
  | false => exact .inr ⟨xs, h, rfl⟩
theorem at_last {l : List Fz} {n : Nat} {z : Fz} (len : l.length = n + 1) (e : l[n]? = some z) : atI (rz l) (-1) = some (.ref z.1) := by
  unfold atI ixN
  rw [rz_len, len, if_neg (by omega), if_pos (by omega)]
  show (rz l)[(-1 + ((n + 1 : Nat) : Int)).toNat]? = _
  rw [show (-1 + ((n + 1 : Nat) : Int)).toNat = n by omega]
  exact rz_at e
theorem sol_pre {ks : List Kq} {l : List Fz} (len : l.length = ks.length) (h : PreL (fun i => stgA (initA ks) ks.length i ks.length) l) : l.map (·.2) = solQ ks := by
  refine List.ext_getElem? fun j => ?_
  by_cases lt : j < ks.length
  · have e : l[j]? = some (l[j]'(by omega)) := List.getElem?_eq_getElem _
    rw [List.getElem?_map, e, sol_get lt]
    exact congrArg some (h j _ e)
  · rw [List.getElem?_eq_none (by rw [List.length_map]; omega), List.getElem?_eq_none (by rw [sol_len]; omega)]
/-- what strays from some places -/
def strayP (g : Nat → Rat) (ps : List Nat) (i : Nat) : Bool := !decide (g i = 0) && !decide (i ∈ ps)
theorem inV_ri (ps : List Nat) (i : Nat) : inV (.int (i : Int)) (ri ps) = decide (i ∈ ps) := by
  induction ps with
  | nil => rfl
  | cons j r ih =>
    show (eqV (.int (j : Int)) (.int (i : Int)) || inV (.int (i : Int)) (ri r)) = _
    rw [ih]
    have e : eqV (.int (j : Int)) (.int (i : Int)) = decide (i = j) := by
      show decide ((j : Int) = (i : Int)) = _
      rw [decide_eq_decide]
      omega
    rw [e]
    simp
theorem flat_ri (ps : List Nat) : (ri ps).all flatV = true := by
  induction ps with
  | nil => rfl
  | cons j r ih =>
    show (flatV (.int (j : Int)) && (ri r).all flatV) = true
    rw [ih] <;> rfl
/-- places by bits -/
def bitP (b i : Nat) : Bool := decide (b / 2 ^ i % 2 = 1)
theorem bits_all : ∀ (n : Nat) (S : Nat → Bool), ∃ b, b < 2 ^ n ∧ ∀ i, i < n → bitP b i = S i
  | 0, _ => ⟨0, by decide, fun i h => absurd h (Nat.not_lt_zero i)⟩
  | n + 1, S => by
    obtain ⟨b, lt, e⟩ := bits_all n fun i => S (i + 1)
    refine ⟨2 * b + if S 0 then 1 else 0, ?_, fun i hi => ?_⟩
    · rw [Nat.pow_succ]
      split <;> omega
    · cases i with
      | zero =>
        unfold bitP
        rw [Nat.pow_zero, Nat.div_one]
        cases S 0 with
        | true =>
          rw [if_pos rfl]
          exact decide_eq_true (by omega)
        | false =>
          rw [if_neg (by decide)]
          exact decide_eq_false (by omega)
      | succ i =>
        rw [← e i (by omega)]
        unfold bitP
        rw [Nat.pow_succ', ← Nat.div_div_eq_div_mul]
        have : (2 * b + if S 0 then 1 else 0) / 2 = b := by split <;> omega
        rw [this]
theorem Fine.of_eq {ks : List Kq} {P R : Nat → Bool} (h : Fine ks P) (e : ∀ i, i < ks.length → R i = P i) : Fine ks R :=
  ⟨fun i hi r => h.dr i hi (by rw [← e i hi]; exact r), fun i hi r => h.al i hi (by rw [← e i hi]; exact r), fun i hi r j hj ne => by rw [e j hj]; exact h.st i hi (by rw [← e i hi]; exact r) j hj ne⟩
/-- a test of the law's for some places -/
def fineA (ks : List Kq) (i : Nat) : Bool := decide ((kd ks i).drip = 1) && decide (zsum (kd ks i).goes = 1)
def fineB (ks : List Kq) (P : Nat → Bool) (i : Nat) : Bool := decide (psF (strayP (fun j => (kd ks i).goes.getD j 0) (psF P ks.length)) ks.length = [])
theorem fine_iff (ks : List Kq) (P : Nat → Bool) : ((psF P ks.length).all (fineA ks) && (psF P ks.length).all (fineB ks P)) = true ↔ Fine ks P := by
  rw [Bool.and_eq_true, List.all_eq_true, List.all_eq_true]
  constructor
  · rintro ⟨a, b⟩
    have sp : ∀ i, i < ks.length → P i = true → (kd ks i).drip = 1 ∧ zsum (kd ks i).goes = 1 := fun i hi p => by
      have k := a i (psF_mem.mpr ⟨hi, p⟩)
      unfold fineA at k
      rw [Bool.and_eq_true] at k
      exact ⟨of_decide_eq_true k.1, of_decide_eq_true k.2⟩
    refine ⟨fun i hi p => (sp i hi p).1, fun i hi p => (sp i hi p).2, fun i hi p j hj ne => ?_⟩
    have k := of_decide_eq_true (b i (psF_mem.mpr ⟨hi, p⟩))
    have z := psF_nil.mp k j hj
    unfold strayP at z
    rw [decide_eq_false ne, Bool.not_false, Bool.true_and] at z
    have m : j ∈ psF P ks.length := by
      cases c : decide (j ∈ psF P ks.length) with
      | true => exact of_decide_eq_true c
      | false =>
        rw [c] at z
        cases z
    exact (psF_mem.mp m).2
  · intro F
    refine ⟨fun i hi => ?_, fun i hi => ?_⟩
    · obtain ⟨lt, p⟩ := psF_mem.mp hi
      unfold fineA
      rw [decide_eq_true (F.dr i lt p), decide_eq_true (F.al i lt p)] <;> rfl
    · obtain ⟨lt, p⟩ := psF_mem.mp hi
      unfold fineB
      refine decide_eq_true (psF_nil.mpr fun j hj => ?_)
      unfold strayP
      by_cases z : (kd ks i).goes.getD j 0 = 0
      · rw [decide_eq_true z] <;> rfl
      · rw [decide_eq_true (psF_mem.mpr ⟨hj, F.st i lt p j hj z⟩), Bool.not_true, Bool.and_false]
/-- the best of the first choices -/
structure Best (ks : List Kq) (b : Nat) (P : Nat → Bool) : Prop where
  fine : Fine ks P
  most : ∀ c, c < b → Fine ks (bitP c) → (psF (bitP c) ks.length).length ≤ (psF P ks.length).length
theorem Best.zero (ks : List Kq) : Best ks 0 fun _ => false := ⟨⟨fun _ _ h => Bool.noConfusion h, fun _ _ h => Bool.noConfusion h, fun _ _ h => Bool.noConfusion h⟩, fun c h => absurd h (Nat.not_lt_zero c)⟩
theorem Best.keep {ks : List Kq} {b : Nat} {P : Nat → Bool} (h : Best ks b P) (k : Fine ks (bitP b) → (psF (bitP b) ks.length).length ≤ (psF P ks.length).length) : Best ks (b + 1) P := ⟨h.fine, fun c lt f => by
  by_cases e : c = b
  · subst e
    exact k f
  · exact h.most c (by omega) f⟩
theorem Best.more {ks : List Kq} {b : Nat} {P : Nat → Bool} (h : Best ks b P) (f : Fine ks (bitP b)) (k : (psF P ks.length).length < (psF (bitP b) ks.length).length) : Best ks (b + 1) (bitP b) := ⟨f, fun c lt g => by
  by_cases e : c = b
  · subst e
    exact Nat.le_refl _
  · exact Nat.le_trans (h.most c (by omega) g) (Nat.le_of_lt k)⟩
theorem Best.great {ks : List Kq} {P : Nat → Bool} (h : Best ks (2 ^ ks.length) P) : Great ks P := Great.most h.fine fun S s => by
  obtain ⟨b, lt, e⟩ := bits_all ks.length S
  have k := h.most b lt (s.of_eq e)
  rw [psF_ext e] at k
  exact k
theorem all_map {α : Type} (l : List α) (f : α → Bool) : (l.map f).all id = l.all f := by
  rw [List.all_map] <;> rfl
/-- one of the kinds drips half -/
def halfQ : Rat := ⟨1, 2, by decide, by decide⟩
def halfK (k : Kq) : Kq := ⟨k.fresh, halfQ, k.goes⟩
theorem half_less {ks : List Kq} {i : Nat} {k : Kq} (e : ks[i]? = some k) (one : k.drip = 1) : (psF (fun j => decide ((kd (ks.set i (halfK k)) j).drip = 1)) (ks.set i (halfK k)).length).length < (psF (fun j => decide ((kd ks j).drip = 1)) ks.length).length := by
  have lt := (List.getElem?_eq_some_iff.mp e).1
  rw [List.length_set]
  have at_ : ∀ j, j < ks.length → kd (ks.set i (halfK k)) j = if j = i then halfK k else kd ks j := fun j hj => by
    by_cases c : j = i
    · subst c
      rw [if_pos rfl]
      exact kd_at (List.getElem?_set_self hj)
    · rw [if_neg c]
      unfold kd
      rw [List.getD_eq_getElem?_getD, List.getD_eq_getElem?_getD, List.getElem?_set_ne fun z => c z.symm]
  have half : ¬ (halfK k).drip = 1 := by
    show ¬ halfQ = 1
    decide
  have s := psF_len (P := fun j => decide ((kd (ks.set i (halfK k)) j).drip = 1)) (Q := fun j => decide ((kd ks j).drip = 1)) (n := ks.length) fun j hj h => by
    have h := of_decide_eq_true h
    rw [at_ j hj] at h
    split at h
    · exact absurd h half
    · exact decide_eq_true h
  rcases Nat.lt_or_ge (psF (fun j => decide ((kd (ks.set i (halfK k)) j).drip = 1)) ks.length).length (psF (fun j => decide ((kd ks j).drip = 1)) ks.length).length with l | ge
  · exact l
  · have k1 := s.2 (Nat.le_antisymm s.1 ge) i lt
    rw [at_ i lt, if_pos rfl, kd_at e, decide_eq_false half, decide_eq_true one] at k1
    cases k1
theorem half_part : Part halfQ := ⟨by decide, by decide, by decide⟩
theorem KnL.put {K : PySem.W.Frag} {H : Hp} {n : Nat} {ks : List Kn} {q : Addr} {xs ys : List V} (h : KnL K H n ks) (hq : H q = some (.lst xs)) : KnL K (upd H q (.lst ys)) n ks := fun k hk => (h k hk).put hq
theorem rk_set (ks : List Kn) (i : Nat) (k : Kn) : (rk ks).set i (.ref k.a) = rk (ks.set i k) := by
  unfold rk
  rw [List.map_set]
theorem dq_dps {K : PySem.W.Frag} {H : Hp} {a : Addr} {l : List Fz} (h : SqL K H a (rz l)) (f : FL K H l) : Dp K H (.ref a) (.list (l.map fun z => dq z.2)) := .lst h f.dps
theorem dqs_shaped (l : List Fz) : SeqAt.shaped (PyData.list (l.map fun z => dq z.2)) = true := flat_shaped (m := 2) (flat_list (flat_qs l)) (by decide)
theorem dqs_same {l m : List Fz} (h : l.map (·.2) = m.map (·.2)) : (l.map fun z => dq z.2) = m.map fun z => dq z.2 := by
  have e : ∀ l : List Fz, (l.map fun z => dq z.2) = (l.map (·.2)).map dq := fun l => by rw [List.map_map] <;> rfl
  rw [e, e, h]
theorem Great.more {ks : List Kq} {i : Int} {P : Nat → Bool} (h : Great (ks.map (moreK i)) P) : Great ks P := by
  have len : (ks.map (moreK i)).length = ks.length := List.length_map _
  have at_ : ∀ j, j < ks.length → kd (ks.map (moreK i)) j = moreK i (kd ks j) := fun j hj => by
    rw [kd_at (List.getElem?_eq_getElem hj)]
    exact kd_at (by rw [List.getElem?_map, List.getElem?_eq_getElem hj] <;> rfl)
  have to : ∀ {S}, Fine ks S → Fine (ks.map (moreK i)) S := fun {S} s => ⟨fun j hj p => by
    rw [len] at hj
    rw [at_ j hj]
    exact s.dr j hj p, fun j hj p => by
    rw [len] at hj
    rw [at_ j hj]
    exact s.al j hj p, fun j hj p j' hj' ne => by
    rw [len] at hj hj'
    rw [at_ j hj] at ne
    exact s.st j hj p j' hj' ne⟩
  refine ⟨⟨fun j hj p => ?_, fun j hj p => ?_, fun j hj p j' hj' ne => ?_⟩, fun S s j hj p => h.all S (to s) j (by rw [len]; exact hj) p⟩
  · have k := h.fine.dr j (by rw [len]; exact hj) p
    rw [at_ j hj] at k
    exact k
  · have k := h.fine.al j (by rw [len]; exact hj) p
    rw [at_ j hj] at k
    exact k
  · refine h.fine.st j (by rw [len]; exact hj) p j' (by rw [len]; exact hj') ?_
    rw [at_ j hj]
    exact ne
theorem fresh_le {K : PySem.W.Frag} {H : Hp} {n : Nat} {ks : List Kn} (L : KnL K H n ks) : ∀ k ∈ ks, k.fresh ≤ (ks.map (·.fresh)).sum := by
  have all : ∀ l : List Kn, (∀ k ∈ l, 0 ≤ k.fresh) → 0 ≤ (l.map (·.fresh)).sum ∧ ∀ k ∈ l, k.fresh ≤ (l.map (·.fresh)).sum := fun l => by
    induction l with
    | nil => exact fun _ => ⟨Int.le_refl _, fun k h => absurd h List.not_mem_nil⟩
    | cons x r ih =>
      intro h
      have h1 := h x List.mem_cons_self
      obtain ⟨h2, h3⟩ := ih fun y hy => h y (List.mem_cons_of_mem _ hy)
      rw [List.map_cons, List.sum_cons]
      refine ⟨by omega, fun k hk => ?_⟩
      rcases List.mem_cons.mp hk with e | m
      · rw [e]
        omega
      · have := h3 k m
        omega
  exact (all ks fun k hk => (L k hk).f0).2
end KR
/-! ### gaps between amounts -/
namespace KR
open PySem PySem.Spec PyProof.Rows L2
def absQ (q : Rat) : Rat := if q < 0 then -q else q
theorem absQ_nn (q : Rat) : 0 ≤ absQ q := by
  unfold absQ
  split <;> grind
theorem absQ_neg (q : Rat) : absQ (-q) = absQ q := by
  unfold absQ
  split <;> split <;> grind
theorem absQ_le {q u : Rat} (h1 : q ≤ u) (h2 : -u ≤ q) : absQ q ≤ u := by
  unfold absQ
  split <;> grind
theorem absQ_add (p q : Rat) : absQ (p + q) ≤ absQ p + absQ q := by
  unfold absQ
  split <;> split <;> split <;> grind
theorem absQ_mul {p q : Rat} (h : 0 ≤ q) : absQ (p * q) = absQ p * q := by
  unfold absQ
  by_cases c : p < 0
  · rw [if_pos c]
    by_cases d : p * q < 0
    · rw [if_pos d]
      grind
    · rw [if_neg d]
      have k := Rat.mul_le_mul_of_nonneg_right (Rat.le_of_lt c) h
      grind
  · rw [if_neg c]
    have k := Rat.mul_nonneg (Rat.not_lt.mp c) h
    rw [if_neg (by grind)]
theorem absQ_zero : absQ 0 = 0 := rfl
theorem Dv.abs {M : Nat} {q : Rat} (h : Dv M q) : Dv M (absQ q) := by
  unfold absQ
  split
  · exact h.neg
  · exact h
/-- a fraction without its sign -/
theorem abs_at {K : PySem.W.Frag} {H : Hp} {t : Addr} {q : Rat} (h : H t = some (.tup [.int (if q.num < 0 then -q.num else q.num), .int (q.den : Int)])) : FrQ K H t (absQ q) := by
  have nz : (q.num < 0) ↔ q < 0 := by
    have := Rat.num_nonneg (q := q)
    constructor
    · intro a
      refine Rat.not_le.mp fun b => ?_
      have := this.mpr b
      omega
    · intro a
      refine Int.not_le.mp fun b => ?_
      exact absurd a (Rat.not_lt.mpr (this.mp b))
  unfold absQ
  by_cases c : q < 0
  · rw [if_pos (nz.mpr c)] at h
    rw [if_pos c]
    exact .of (by rw [Rat.neg_num, Rat.neg_den]; exact h)
  · rw [if_neg fun z => c (nz.mp z)] at h
    rw [if_neg c]
    exact .of h
def gapsQ (a b : List Rat) : List Rat := List.zipWith (fun x y => absQ (x - y)) a b
def gapQ (a b : List Rat) : Rat := zsum (gapsQ a b)
theorem gaps_len {a b : List Rat} (h : a.length = b.length) : (gapsQ a b).length = a.length := by
  unfold gapsQ
  rw [List.length_zipWith, ← h, Nat.min_self]
theorem gaps_get {a b : List Rat} {j : Nat} {x y : Rat} (h1 : a[j]? = some x) (h2 : b[j]? = some y) : (gapsQ a b)[j]? = some (absQ (x - y)) := by
  unfold gapsQ
  rw [List.getElem?_zipWith, h1, h2]
theorem gaps_mem {a b : List Rat} {r : Rat} (h : r ∈ gapsQ a b) : ∃ x ∈ a, ∃ y ∈ b, r = absQ (x - y) := by
  obtain ⟨j, hj, e⟩ := List.getElem_of_mem h
  have hj' := hj
  unfold gapsQ at hj'
  rw [List.length_zipWith] at hj'
  have g := gaps_get (List.getElem?_eq_getElem (show j < a.length by omega)) (List.getElem?_eq_getElem (show j < b.length by omega))
  rw [List.getElem?_eq_getElem hj, e] at g
  exact ⟨_, List.getElem_mem _, _, List.getElem_mem _, Option.some.inj g⟩
theorem gaps_comm : ∀ (a b : List Rat), gapsQ a b = gapsQ b a
  | [], [] => rfl
  | [], _ :: _ => rfl
  | _ :: _, [] => rfl
  | x :: a, y :: b => by
    show absQ (x - y) :: gapsQ a b = absQ (y - x) :: gapsQ b a
    rw [gaps_comm a b, ← absQ_neg (y - x)]
    refine congrArg (· :: gapsQ b a) (congrArg absQ ?_)
    grind
/-- what has a common bottom and a bound -/
structure AmB (M B : Nat) (qs : List Rat) : Prop where
  dv : ∀ q ∈ qs, Dv M q
  lo : ∀ q ∈ qs, 0 ≤ q
  hi : ∀ q ∈ qs, q ≤ ((B : Int) : Rat)
  hM : 0 < M
  hB : 1 ≤ B
/-- gaps that may be reckoned -/
structure GapOk (a b : List Rat) : Prop where
  ba : ∀ q ∈ a, Big q
  bb : ∀ q ∈ b, Big q
  bd : ∀ x ∈ a, ∀ y ∈ b, Big (x - y)
  bg : ∀ q ∈ gapsQ a b, Big q
  add : AddOk (gapsQ a b)
  bz : Big (gapQ a b)
theorem AmB.gap {M B N C : Nat} {a b : List Rat} (h : AmB M B a) (k : AmB N C b) (l6 : a.length ≤ 6) (fit : 20 * (B + C) * (M * N) < 2 ^ 4400) : GapOk a b := by
  have mn : 0 < M * N := Nat.mul_pos h.hM k.hM
  have hB := h.hB
  have hC := k.hB
  have all : ∀ r ∈ gapsQ a b, Dv (M * N) r ∧ 0 ≤ r ∧ r ≤ ((B + C : Nat) : Int) := fun r hr => by
    obtain ⟨x, hx, y, hy, rfl⟩ := gaps_mem hr
    refine ⟨(((h.dv x hx).up (Nat.dvd_mul_right _ _)).sub ((k.dv y hy).up (Nat.dvd_mul_left _ _))).abs, absQ_nn _, ?_⟩
    have x1 := h.hi x hx
    have y1 := k.hi y hy
    have x0 := h.lo x hx
    have y0 := k.lo y hy
    have b0 := cast_nn (show (0 : Int) ≤ (B : Int) by omega)
    have c0 := cast_nn (show (0 : Int) ≤ (C : Int) by omega)
    rw [Int.natCast_add, Rat.intCast_add]
    refine absQ_le ?_ ?_ <;> grind
  have big : ∀ (n : Nat) (q : Rat), Dv (M * N) q → 0 ≤ q → q ≤ ((n : Int) : Rat) → 1 ≤ n → n ≤ 20 * (B + C) → Big q := fun n q d lo hi n1 n2 =>
    d.szN (B := n) mn lo hi n1 (Nat.lt_of_le_of_lt (Nat.mul_le_mul_right _ n2) fit)
  have s : zsum (gapsQ a b) ≤ ((20 * (B + C) : Nat) : Int) := by
    have k1 := zsum_le fun r hr => (all r hr).2.2
    rw [← Rat.intCast_mul] at k1
    refine Rat.le_trans k1 (Rat.intCast_le_intCast.mpr ?_)
    have len : (gapsQ a b).length ≤ 20 := by
      unfold gapsQ
      rw [List.length_zipWith]
      omega
    have := Nat.mul_le_mul_right (B + C) len
    rw [← Int.natCast_mul]
    omega
  refine ⟨fun q hq => ?_, fun q hq => ?_, fun x hx y hy => ?_, fun q hq => ?_, ?_, ?_⟩
  · exact big B q ((h.dv q hq).up (Nat.dvd_mul_right _ _)) (h.lo q hq) (h.hi q hq) hB (by omega)
  · exact big C q ((k.dv q hq).up (Nat.dvd_mul_left _ _)) (k.lo q hq) (k.hi q hq) hC (by omega)
  · have d := ((h.dv x hx).up (Nat.dvd_mul_right M N)).sub ((k.dv y hy).up (Nat.dvd_mul_left N M))
    have x1 := h.hi x hx
    have y1 := k.hi y hy
    have x0 := h.lo x hx
    have y0 := k.lo y hy
    have b0 := cast_nn (show (0 : Int) ≤ (B : Int) by omega)
    have c0 := cast_nn (show (0 : Int) ≤ (C : Int) by omega)
    refine d.sz (B := B + C) mn ?_ ?_ (by omega) (Nat.lt_of_le_of_lt (Nat.mul_le_mul_right _ (by omega)) fit)
    · rw [Int.natCast_add, Rat.intCast_add]
      grind
    · rw [Int.natCast_add, Rat.intCast_add]
      grind
  · exact big (B + C) q (all q hq).1 (all q hq).2.1 (all q hq).2.2 (by omega) (by omega)
  · exact sum_big (fun q hq => (all q hq).1) (fun q hq => (all q hq).2.1) s mn (by omega) fit
  · exact big _ _ (Dv.all fun q hq => (all q hq).1) (zsum_nn fun q hq => (all q hq).2.1) s (by omega) (Nat.le_refl _)
theorem AmB.rounds {M B : Nat} {ks : List Kq} {qs : List Rat} (h : AmB M B qs) (hk : ∀ k ∈ ks, KqOk k) (l6 : ks.length ≤ 6) (lq : qs.length = ks.length) (fit : (6 * bR B 41 + 1000000) * (M * 768398400 ^ 42) < 2 ^ 4300) : ∀ r, r ≤ 41 → AmOk (M * 768398400 ^ r) (bR B r) (roundsQ ks r qs) ∧ AmB (M * 768398400 ^ 41) (bR B 41) (roundsQ ks r qs) := fun r hr => by
  have a := rounds_ok hk l6 lq h.dv h.lo h.hi h.hM h.hB (N := 41) fit r hr
  refine ⟨a, fun q hq => (a.dv q hq).up (Nat.mul_dvd_mul_left _ (Nat.pow_dvd_pow _ hr)), a.lo, fun q hq => Rat.le_trans (a.hi q hq) (Rat.intCast_le_intCast.mpr (by have := bR_mono B hr; omega)), Nat.mul_pos h.hM (Nat.pow_pos (by decide)), bR_pos h.hB _⟩
theorem sol_amb {ks : List Kq} {y : Nat → Rat} (O : KsOk ks) (s : Sta 6000000 ks.length 0 ks.length (initA ks) y) : ∃ D, D ≤ fS ks.length ∧ AmB D (6000000 * vS ks.length) (solQ ks) := by
  obtain ⟨D, d0, d1, all⟩ := sol_facts O s
  exact ⟨D, d1, fun q hq => (all q hq).1, fun q hq => (all q hq).2.1, fun q hq => (all q hq).2.2, d0, Nat.mul_pos (by decide) (vS_pos _)⟩
/-- the first round from which on a gap is at most so much -/
def TillV (g : Nat → Rat) (m : Rat) (v : V) : Prop := (∃ r : Nat, r ≤ 40 ∧ (∀ j, j < r → m < g j) ∧ ¬ m < g r ∧ v = .int (r : Int)) ∨ ((∀ j, j ≤ 40 → m < g j) ∧ v = .non)
theorem TillV.one {g : Nat → Rat} {m : Rat} {v w : V} (a : TillV g m v) (b : TillV g m w) : v = w := by
  rcases a with ⟨r, r1, r2, r3, rfl⟩ | ⟨n1, rfl⟩
  · rcases b with ⟨t, t1, t2, t3, rfl⟩ | ⟨n2, rfl⟩
    · have e : r = t := by
        rcases Nat.lt_trichotomy r t with h | h | h
        · exact absurd (t2 r h) r3
        · exact h
        · exact absurd (r2 t h) t3
      rw [e]
    · exact absurd (n2 r r1) r3
  · rcases b with ⟨t, t1, t2, t3, rfl⟩ | ⟨n2, rfl⟩
    · exact absurd (n1 t t1) t3
    · rfl
theorem TillV.ext {g h : Nat → Rat} {m : Rat} {v : V} (a : TillV g m v) (e : ∀ r, r ≤ 40 → g r = h r) : TillV h m v := by
  rcases a with ⟨r, r1, r2, r3, rfl⟩ | ⟨n1, rfl⟩
  · exact .inl ⟨r, r1, fun j hj => by rw [← e j (by omega)]; exact r2 j hj, by rw [← e r r1]; exact r3, rfl⟩
  · exact .inr ⟨fun j hj => by rw [← e j hj]; exact n1 j hj, rfl⟩
theorem TillV.dat {g : Nat → Rat} {m : Rat} {v : V} (a : TillV g m v) {K : PySem.W.Frag} {H : Hp} : ∃ (d : PyData) (t : String), Dp K H v d ∧ SeqAt.shaped d = true ∧ TyX K H v (.type t) ∧ kitB t "bool" = some false := by
  rcases a with ⟨r, _, _, _, rfl⟩ | ⟨_, rfl⟩
  · exact ⟨_, "int", .int _, rfl, .base (.int _), by decide +kernel⟩
  · exact ⟨_, "NoneType", .non, rfl, .base .non, by decide +kernel⟩
theorem TillV.nought {g : Nat → Rat} {m : Rat} {v : V} (a : TillV g m v) (h : g 0 ≤ m) : v = .int ((0 : Nat) : Int) := by
  rcases a with ⟨r, _, r2, _, rfl⟩ | ⟨n1, _⟩
  · rcases Nat.eq_zero_or_pos r with e | e
    · rw [e]
    · exact absurd (r2 0 e) (Rat.not_lt.mpr h)
  · exact absurd (n1 0 (by decide)) (Rat.not_lt.mpr h)
def sp_lessW (K : PySem.W.Frag) : Sp := fun vs H Q _ => ∃ (x y : Addr) (p q : Rat), vs = [.ref x, .ref y] ∧ FrQ K H x p ∧ FrQ K H y q ∧ Big p ∧ Big q ∧ Q (.bl (decide (p < q))) H
def sp_aboveW (K : PySem.W.Frag) : Sp := fun vs H Q _ => ∃ (x y : Addr) (p q : Rat), vs = [.ref x, .ref y] ∧ FrQ K H x p ∧ FrQ K H y q ∧ Big p ∧ Big q ∧ Q (.bl (decide (q < p))) H
/-! a round never widens a gap -/
theorem gap_nn (a b : List Rat) : ∀ q ∈ gapsQ a b, 0 ≤ q := fun q hq => by
  obtain ⟨x, _, y, _, rfl⟩ := gaps_mem hq
  exact absQ_nn _
theorem comes_gap (p : Nat) : ∀ (ks : List Kq) (a b : List Rat), (∀ k ∈ ks, KqOk k) → a.length = ks.length → b.length = ks.length → absQ (zsum (comes ks a p) - zsum (comes ks b p)) ≤ zsum (comes ks (gapsQ a b) p)
  | [], [], [], _, _, _ => by
    show absQ (0 - 0) ≤ 0
    rw [show (0 : Rat) - 0 = 0 by grind, absQ_zero]
    exact Rat.le_refl
  | k :: ks, x :: a, y :: b, hk, ha, hb => by
    have ih := comes_gap p ks a b (fun k h => hk k (List.mem_cons_of_mem _ h)) (Nat.succ.inj ha) (Nat.succ.inj hb)
    have K := hk k List.mem_cons_self
    have w : 0 ≤ k.drip * k.goes.getD p 0 := Rat.mul_nonneg K.pd.lo (K.at_ p).lo
    show absQ (x * k.drip * k.goes.getD p 0 + zsum (comes ks a p) - (y * k.drip * k.goes.getD p 0 + zsum (comes ks b p))) ≤ absQ (x - y) * k.drip * k.goes.getD p 0 + zsum (comes ks (gapsQ a b) p)
    generalize zsum (comes ks a p) = za at *
    generalize zsum (comes ks b p) = zb at *
    generalize zsum (comes ks (gapsQ a b) p) = zc at *
    generalize k.goes.getD p 0 = g at *
    have e : x * k.drip * g + za - (y * k.drip * g + zb) = (x - y) * (k.drip * g) + (za - zb) := by grind
    rw [e]
    have t := absQ_add ((x - y) * (k.drip * g)) (za - zb)
    rw [absQ_mul w] at t
    generalize absQ (x - y) = u at *
    grind
  | [], _ :: _, _, _, h, _ => by simp at h
  | [], [], _ :: _, _, _, h => by simp at h
  | _ :: _, [], _, _, h, _ => by simp at h
  | _ :: _, _ :: _, [], _, _, h => by simp at h
theorem gaps_map {α : Type} (f g : α → Rat) (l : List α) : gapsQ (l.map f) (l.map g) = l.map fun p => absQ (f p - g p) := by
  induction l with
  | nil => rfl
  | cons x r ih =>
    show absQ (f x - g x) :: gapsQ (r.map f) (r.map g) = _
    rw [ih] <;> rfl
theorem zsum_map_le {α : Type} {f g : α → Rat} {l : List α} (h : ∀ x ∈ l, f x ≤ g x) : zsum (l.map f) ≤ zsum (l.map g) := by
  induction l with
  | nil => exact Rat.le_refl
  | cons x r ih =>
    have h1 := h x List.mem_cons_self
    have h2 := ih fun y hy => h y (List.mem_cons_of_mem _ hy)
    show f x + zsum (r.map f) ≤ g x + zsum (r.map g)
    grind
theorem kept_le : ∀ (ks : List Kq) (qs : List Rat), (∀ k ∈ ks, KqOk k ∧ zsum k.goes ≤ 1) → (∀ q ∈ qs, 0 ≤ q) → zsum (keptQ ks qs) ≤ zsum qs
  | [], qs, _, h => by
    have e : keptQ [] qs = [] := by
      unfold keptQ
      cases qs <;> rfl
    rw [e]
    exact zsum_nn h
  | k :: ks, [], _, _ => Rat.le_refl
  | k :: ks, q :: qs, hk, h => by
    have ih := kept_le ks qs (fun k h => hk k (List.mem_cons_of_mem _ h)) fun y hy => h y (List.mem_cons_of_mem _ hy)
    obtain ⟨K, one⟩ := hk k List.mem_cons_self
    have q0 := h q List.mem_cons_self
    obtain ⟨a1, a2⟩ := mul_part q0 Rat.le_refl K.pd.lo K.pd.hi
    have b := mul_part a1 a2 (zsum_nn fun x hx => (K.pg x hx).lo) one
    show q * k.drip * zsum k.goes + zsum (keptQ ks qs) ≤ q + zsum qs
    generalize q * k.drip * zsum k.goes = u at *
    grind
theorem gap_once {ks : List Kq} {a b : List Rat} (O : KsOk ks) (ha : a.length = ks.length) (hb : b.length = ks.length) : gapQ (onceQ ks a) (onceQ ks b) ≤ gapQ a b := by
  unfold gapQ
  have e : gapsQ (onceQ ks a) (onceQ ks b) = (List.range ks.length).map fun p => absQ (onceAt ks a p - onceAt ks b p) := gaps_map _ _ _
  rw [e]
  refine Rat.le_trans (zsum_map_le (g := fun p => zsum (comes ks (gapsQ a b) p)) fun p _ => ?_) ?_
  · have k := comes_gap p ks a b O.ok ha hb
    have e2 : onceAt ks a p - onceAt ks b p = zsum (comes ks a p) - zsum (comes ks b p) := by
      unfold onceAt
      generalize zsum (comes ks a p) = za
      generalize zsum (comes ks b p) = zb
      grind
    rw [e2]
    exact k
  · rw [comes_sum ks.length ks (gapsQ a b) O.len]
    exact kept_le ks _ (fun k h => ⟨O.ok k h, O.one k h⟩) (gap_nn a b)
theorem gap_self (a : List Rat) : gapQ a a = 0 := by
  unfold gapQ
  induction a with
  | nil => rfl
  | cons x r ih =>
    show absQ (x - x) + zsum (gapsQ r r) = 0
    rw [ih, show x - x = 0 by grind, absQ_zero, Rat.add_zero]
/-! amounts of at most three kinds -/
def B3 : Nat := 6000000 * vS 3 + 1000
def D3 : Nat := fS 3 * 6000
structure Am3 (q : Rat) : Prop where
  lo : 0 ≤ q
  hi : q ≤ ((B3 : Int) : Rat)
  bt : q.den ≤ D3
theorem prodD_le {N : Nat} : ∀ {l : List Rat}, (∀ q ∈ l, q.den ≤ N) → prodD l ≤ N ^ l.length
  | [], _ => Nat.le_refl _
  | q :: r, h => by
    have ih := prodD_le (l := r) fun y hy => h y (List.mem_cons_of_mem _ hy)
    rw [List.length_cons, Nat.pow_succ, Nat.mul_comm (N ^ r.length)]
    exact Nat.mul_le_mul (h q List.mem_cons_self) ih
theorem am3_amb {qs : List Rat} (h : ∀ q ∈ qs, Am3 q) (l3 : qs.length ≤ 3) : AmB (prodD qs) B3 qs ∧ prodD qs ≤ D3 ^ 3 := by
  refine ⟨⟨fun q hq => (Dv.den q).up (prodD_dvd hq), fun q hq => (h q hq).lo, fun q hq => (h q hq).hi, prodD_pos qs, by decide +kernel⟩, ?_⟩
  exact Nat.le_trans (prodD_le fun q hq => (h q hq).bt) (Nat.pow_le_pow_right (by decide +kernel) l3)
theorem Dv.den_le {D : Nat} {q : Rat} (h : Dv D q) (d0 : 0 < D) : q.den ≤ D := by
  obtain ⟨z, e⟩ := h
  have eq : q = KR.rq z (D : Int) := by
    have h := int_ne (show (D : Int) ≠ 0 by omega)
    unfold KR.rq
    rw [← e]
    generalize ((D : Int) : Rat) = y at *
    grind
  have k := KR.den_le (t := z) (show (0 : Int) < (D : Int) by omega)
  rw [← eq] at k
  omega
theorem Am3.small {q : Rat} (h : AmS q) : Am3 q :=
  ⟨h.lo, Rat.le_trans h.hi (Rat.intCast_le_intCast.mpr (by decide +kernel)), Nat.le_trans h.bt (by decide +kernel)⟩
theorem Am3.sol {ks : List Kq} {y : Nat → Rat} (O : KsOk ks) (s : Sta 6000000 ks.length 0 ks.length (initA ks) y) (l3 : ks.length ≤ 3) : ∀ q ∈ solQ ks, Am3 q := fun q hq => by
  obtain ⟨D, d0, d1, all⟩ := sol_facts O s
  obtain ⟨dv, lo, hi⟩ := all q hq
  have h1 := vS_up l3
  have h2 := fS_up l3
  refine ⟨lo, Rat.le_trans hi (Rat.intCast_le_intCast.mpr ?_), Nat.le_trans (dv.den_le d0) (Nat.le_trans (Nat.le_trans d1 h2) (by decide +kernel))⟩
  have : 6000000 * vS ks.length ≤ B3 := Nat.le_trans (Nat.mul_le_mul_left _ h1) (Nat.le_add_right _ _)
  omega
theorem unit_low {b : Int} (hb : 0 < b) : IsLow 1 b := ⟨hb, Nat.gcd_one_left _⟩
theorem low_frq {K : PySem.W.Frag} {H : Hp} {x : Addr} {a b : Int} (h : H x = some (.tup [.int a, .int b])) (l : IsLow a b) : FrQ K H x (rq a b) := by
  have e := rq_low (t := a) (b := b) (by have := l.pos; omega)
  rw [low_id l] at e
  have e1 : (rq a b).num = a := (congrArg Prod.fst e).symm
  have e2 : ((rq a b).den : Int) = b := (congrArg Prod.snd e).symm
  exact .of (by rw [e1, e2]; exact h)
theorem Am3.near {ks : List Kq} {y : Nat → Rat} (O : KsOk ks) (s : Sta 6000000 ks.length 0 ks.length (initA ks) y) (l3 : ks.length ≤ 3) {b : Int} (b0 : 1 ≤ b) (b1 : b ≤ 100) : ∀ q ∈ solQ ks, Am3 (q + rq 1 b) := fun q hq => by
  obtain ⟨D, d0, d1, all⟩ := sol_facts O s
  obtain ⟨dv, lo, hi⟩ := all q hq
  have h1 := vS_up l3
  have h2 := fS_up l3
  have r0 := rq_nn (t := 1) (b := b) (by decide) (by omega)
  have r1 := rq_le_one (t := 1) (b := b) b0 (by omega)
  have db : Dv (D * b.natAbs) (q + rq 1 b) := (dv.up (Nat.dvd_mul_right _ _)).add ((Dv.rq (by omega)).up (Nat.dvd_mul_left _ _))
  refine ⟨by grind, ?_, Nat.le_trans (db.den_le (Nat.mul_pos d0 (by omega))) ?_⟩
  · have k : ((6000000 * vS ks.length : Nat) : Int) + 1 ≤ (B3 : Int) := by
      have : 6000000 * vS ks.length + 1 ≤ B3 := Nat.add_le_add (Nat.mul_le_mul_left _ h1) (by decide)
      omega
    have k2 := Rat.intCast_le_intCast.mpr k
    rw [Rat.intCast_add] at k2
    have o : ((1 : Int) : Rat) = 1 := rfl
    rw [o] at k2
    grind
  · exact Nat.le_trans (Nat.mul_le_mul (Nat.le_trans d1 h2) (show b.natAbs ≤ 100 by omega)) (by decide +kernel)
section
variable {ks : List Kq} {a b : List Rat} (O : KsOk ks) (l3 : ks.length ≤ 3) (ha : ∀ q ∈ a, Am3 q) (la : a.length = ks.length)
include O l3 ha la
theorem rounds3 : ∃ M, M ≤ D3 ^ 3 ∧ 0 < M ∧ ∀ r, r ≤ 41 → AmOk (M * 768398400 ^ r) (bR B3 r) (roundsQ ks r a) ∧ AmB (M * 768398400 ^ 41) (bR B3 41) (roundsQ ks r a) := by
  obtain ⟨h, m⟩ := am3_amb ha (by omega)
  exact ⟨_, m, h.hM, h.rounds O.ok (by omega) la (Nat.lt_of_le_of_lt (Nat.mul_le_mul_left _ (Nat.mul_le_mul_right _ m)) (by decide +kernel : (6 * bR B3 41 + 1000000) * (D3 ^ 3 * 768398400 ^ 42) < 2 ^ 4300))⟩
theorem gap3 (hb : ∀ q ∈ b, Am3 q) (lb : b.length = ks.length) (r : Nat) (hr : r ≤ 41) : GapOk (roundsQ ks r a) b := by
  obtain ⟨M, m1, m0, h⟩ := rounds3 O l3 ha la
  obtain ⟨h2, n1⟩ := am3_amb hb (by omega)
  exact (h r hr).2.gap h2 (by rw [rounds_len la]; omega) (Nat.lt_of_le_of_lt (Nat.mul_le_mul_left _ (Nat.mul_le_mul (Nat.mul_le_mul_right _ m1) n1)) (by decide +kernel : 20 * (bR B3 41 + B3) * (D3 ^ 3 * 768398400 ^ 41 * D3 ^ 3) < 2 ^ 4400))
theorem gap3o (hb : ∀ q ∈ b, Am3 q) (lb : b.length = ks.length) : GapOk (onceQ ks a) (onceQ ks b) := by
  obtain ⟨M, m1, m0, h⟩ := rounds3 O l3 ha la
  obtain ⟨N, n1, n0, g⟩ := rounds3 O l3 hb lb
  exact (h 1 (by decide)).2.gap (g 1 (by decide)).2 (by rw [rounds_len la]; omega) (Nat.lt_of_le_of_lt (Nat.mul_le_mul_left _ (Nat.mul_le_mul (Nat.mul_le_mul_right _ m1) (Nat.mul_le_mul_right _ n1))) (by decide +kernel : 20 * (bR B3 41 + bR B3 41) * (D3 ^ 3 * 768398400 ^ 41 * (D3 ^ 3 * 768398400 ^ 41)) < 2 ^ 4400))
end
/-! amounts of up to six kinds -/
section
variable {ks : List Kq} {a : List Rat} (O : KsOk ks) (ha : ∀ q ∈ a, AmS q) (la : a.length = ks.length)
include O ha la
theorem rounds6 : ∃ M, M ≤ 60 ^ 6 ∧ 0 < M ∧ ∀ r, r ≤ 41 → AmOk (M * 768398400 ^ r) (bR 1000 r) (roundsQ ks r a) ∧ AmB (M * 768398400 ^ 41) (bR 1000 41) (roundsQ ks r a) := by
  have l6 := O.l6
  have m : prodD a ≤ 60 ^ 6 := Nat.le_trans (prodD_60 fun q hq => (ha q hq).bt) (Nat.pow_le_pow_right (by decide) (by omega))
  have h : AmB (prodD a) 1000 a := ⟨fun q hq => (Dv.den q).up (prodD_dvd hq), fun q hq => (ha q hq).lo, fun q hq => (ha q hq).hi, prodD_pos a, by decide⟩
  exact ⟨_, m, h.hM, h.rounds O.ok l6 la (Nat.lt_of_le_of_lt (Nat.mul_le_mul_left _ (Nat.mul_le_mul_right _ m)) (by decide +kernel : (6 * bR 1000 41 + 1000000) * (60 ^ 6 * 768398400 ^ 42) < 2 ^ 4300))⟩
theorem gap6 {y : Nat → Rat} (s : Sta 6000000 ks.length 0 ks.length (initA ks) y) (r : Nat) (hr : r ≤ 41) : GapOk (roundsQ ks r a) (solQ ks) := by
  obtain ⟨M, m1, m0, h⟩ := rounds6 O ha la
  obtain ⟨D, d1, g⟩ := sol_amb O s
  have l6 := O.l6
  have h1 := vS_up l6
  have h2 := fS_up l6
  refine (h r hr).2.gap g (by rw [rounds_len la]; exact l6) (Nat.lt_of_le_of_lt (Nat.mul_le_mul (Nat.mul_le_mul_left 20 (Nat.add_le_add_left (Nat.mul_le_mul_left 6000000 h1) _)) (Nat.mul_le_mul (Nat.mul_le_mul_right _ m1) (Nat.le_trans d1 h2))) (by decide +kernel : 20 * (bR 1000 41 + 6000000 * vS 6) * (60 ^ 6 * 768398400 ^ 41 * fS 6) < 2 ^ 4400))
end
def sp_gap (K : PySem.W.Frag) : Sp := fun vs H Q _ => ∃ (x y : Addr) (a b : List Fz) (p1 p2 : Bool), vs = [.ref x, .ref y] ∧ SqB K H x (rz a) p1 ∧ SqB K H y (rz b) p2 ∧ FL K H a ∧ FL K H b ∧ a.length = b.length ∧ a.length ≤ 6 ∧ GapOk (a.map (·.2)) (b.map (·.2)) ∧ ∀ z H', Same H H' → FrQ K H' z (gapQ (a.map (·.2)) (b.map (·.2))) → Q (.ref z) H'
theorem neg_at {K : PySem.W.Frag} {H : Hp} {t : Addr} {q : Rat} (h : H t = some (.tup [.int (0 - q.num), .int (q.den : Int)])) : FrQ K H t (-q) :=
  .of (by rw [Rat.neg_num, Rat.neg_den, ← Int.zero_sub]; exact h)
/-! the greatest of a tuple of numbers -/
theorem max_intTuple {prog : Program} {w : World} {A : Around} {E : Value → Shared → Prop} {s : Shared} {l : Addr} {xs : Array (Int × Tok)} {Q : Value → Shared → Prop} (hh : A.handled = none) (hl : s.heap.IsTuple l (intItems xs)) (hne : 0 < xs.size)
    (h : ∀ v h' tk, (intItems xs)[argBest (fun i j => decide (numAt xs i > numAt xs j)) (xs.size - 1)]? = some v → (∀ b o, s.heap.get? b = some o → h'.get? b = some o) → Q v { s with heap := h', toks := tk }) :
    wpAny (model prog w) A (call (.builtin "max") [.ref l]) Q E s := by
  have hlt : l < s.heap.objs.size := by obtain ⟨_, e, _⟩ := id hl; exact Heap.lt_size e
  refine call_max_walk (wpAny_pyIter_tuple hl ?_)
  refine ⟨_, [_, l], [_], _, _, _, _, rfl, Walks.tuple (A := A.in1) hh s.heap.objs.size l (Nat.ne_of_lt hlt) (intItems xs), ⟨⟨_, Heap.get?_push_size _ rfl, rfl, rfl⟩, hl.push _⟩, fun c hc => ?_, by simpa [intItems] using hne, CmpOf.ints_gt (numAt xs) (fun _ _ => intItems_at), fun v h' tk hP hk => ?_⟩
  · show c < (s.heap.push _).objs.size
    rw [Heap.size_push]
    rcases List.mem_cons.mp hc with rfl | hc
    · exact Nat.lt_succ_self _
    · rcases List.mem_cons.mp hc with rfl | hc
      · exact Nat.lt_succ_of_lt hlt
      · cases hc
  · refine h v h' tk (by simpa [intItems] using hP) fun b o e => hk b o (fun hm => ?_) (Heap.get?_push_of_some _ e)
    rcases List.mem_cons.mp hm with e1 | hm
    · exact absurd (e1 ▸ Heap.lt_size e) (Nat.lt_irrefl _)
    · cases hm
theorem max_rawT {prog : Program} {w : World} {A : Around} {E : Value → Shared → Prop} {s : Shared} {l : Addr} {its : List Value} {ns : List Int} {Q : Value → Shared → Prop} (hh : A.handled = none) (hl : s.heap.IsTuple l its.toArray) (hi : IntsAre its ns) (hne : 0 < ns.length)
    (h : ∀ h' tk M t', (∀ b o, s.heap.get? b = some o → h'.get? b = some o) → M ∈ ns → (∀ a, a ∈ ns → a ≤ M) → Q (.int M t') { s with heap := h', toks := tk }) : wpAny (model prog w) A (call (.builtin "max") [.ref l]) Q E s := by
  obtain ⟨xs, e⟩ := hi.allInts.items
  have hn : numsOf (intItems xs).toList = ns := by rw [← e]; exact hi.numsOf
  rw [nums_intItems] at hn
  subst hn
  rw [e] at hl
  have hsz : 0 < xs.size := by simpa using hne
  refine max_intTuple hh hl hsz fun v h' tk hv hk => ?_
  obtain ⟨t, rfl⟩ := intItems_at hv
  obtain ⟨h1, h2⟩ := argBest_gt (numAt xs) (xs.size - 1)
  refine h h' tk _ t hk ?_ fun a ha => ?_
  · rw [numAt_eq]; exact PySem.getD_mem (by rw [List.length_map, Array.length_toList]; omega)
  · obtain ⟨j, hj, rfl⟩ := mem_getD ha
    rw [List.length_map, Array.length_toList] at hj
    rw [← numAt_eq]; exact h2 j (by omega)
def rMaxT (K : PySem.W.Frag) : List V → Hp → VK → Prop := fun vs H Q => ∃ (a : Addr) (ns : List Int), vs = [V.ref a] ∧ SqT K H a (ns.map V.int) ∧ 0 < ns.length ∧ ∀ m, m ∈ ns → (∀ y, y ∈ ns → y ≤ m) → Q (.int m) H
theorem maxTK {X : Cx} {K : PySem.W.Frag} (hK : X.K = K) (hc : X.calm = true) : CallR X (.builtin "max") (rMaxT K) := by
  subst hK
  intro pins s σ H vs us Q I r h
  obtain ⟨a, ns, rfl, hs, hne, q⟩ := h
  obtain ⟨its, rv, hl, _⟩ := I.tuple hs
  rw [Vals.ref1 r]
  exact max_rawT (I.ok.hd hc) hl rv.ints hne fun h' tk m t' hk h1 h2 => ⟨.int _, H, I.kept hk, ⟨_, rfl⟩, q m h1 h2⟩
end KR
/-! ### a caught exception that is kept behind its suite -/
namespace KR
open PySem PySem.Spec PyProof.Rows L2
/-- an exception that was caught, at a: its class, its own dict -/
def ExK (cls : Value) (d : Option Addr) (a : Addr) : HO := .ext fun g => ∃ (ob : Obj) (fs : Array Value), g.get? a = some ob ∧ Zc cls d ob ∧ ob.data = .fields fs
theorem exK_ok {P : Program} {w : World} {H : Hp} {g : Heap} {a : Addr} {cls : Value} {d : Option Addr} {ob : Obj} {fs : Array Value} (e : g.get? a = some ob) (z : Zc cls d ob) (k : ob.data = .fields fs) : ObjOk P w H g a (ExK cls d a) :=
  ⟨⟨ob, fs, e, z, k⟩, ⟨ob, e⟩, fun _ _ ⟨o, v, q, r⟩ m => ⟨o, v, m o q, r⟩⟩
/-- on with the object told -/
def wKeep (K : PySem.W.Frag) (c : Value) (i : Nat) (ts : Addr → Value → Option Addr → TS) (Wo : WX) (D : Ends) : WX := fun cls d σ H =>
  ∃ hit, PySem.W.exmOne K cls c = some hit ∧
    (hit = true → ∀ a, H a = none → ts a cls d { D with nx := fun τ G => D.nx (τ.set i none) (upd G a (ExK cls d a)), bk := fun τ G => D.bk (τ.set i none) G, ct := fun τ G => D.ct (τ.set i none) G } (σ.set i (some (.ref a))) H) ∧
    (hit = false → Wo cls d σ H)
section
variable {X : Cx} {pins : List (Addr × Obj)} {σ : L2.St} {H : Hp} {s : Shared}
/-- an object that nobody tracks, new since the entry, is tracked from now on -/
theorem Inv.track {a : Addr} {o : HO} (I : Inv X pins σ H s) (na : H a = none) (old : a ∈ X.ex ∨ X.s_0.heap.get? a = none) (nL : a ≠ X.env.locals) (nC : ∀ z c, X.env.cells.lookup z = some c → c ≠ a)
    (nP : ∀ p ∈ X.pn ++ pins, p.1 ≠ a) (new : ObjOk X.prog X.w (upd H a o) s.heap a o) : Inv X pins σ (upd H a o) s := by
  refine ⟨I.ok, I.os, I.bare, ⟨I.base.keep, I.base.slot, ?_, I.base.there, ?_, ?_, ?_⟩, I.loc, I.cell, ?_, ?_, ?_, ?_, I.len⟩
  · intro b ob e1 e2 e3
    have ne : b ≠ a := fun z => by
      rw [z] at e1 e3
      rcases old with q | q
      · exact e3 q
      · rw [q] at e1
        cases e1
    rw [upd_ne ne]
    exact I.base.free b ob e1 e2 e3
  · intro b xs e
    have e' := I.base.tups b xs e
    rw [upd_ne (ne_of_none e' na)]
    exact e'
  · intro b ob u e
    have e' := I.base.frzs b ob u e
    rw [upd_ne (ne_of_none e' na)]
    exact e'
  · intro b ps e
    obtain ⟨more, e'⟩ := I.base.tbls b ps e
    refine ⟨more, ?_⟩
    rw [upd_ne (ne_of_none e' na)]
    exact e'
  · rw [upd_ne (Ne.symm nL)]
    exact I.free
  · intro z c e
    rw [upd_ne (nC z c e)]
    exact I.freeC z c e
  · intro p hp
    obtain ⟨h1, h2, h3, h4, h5⟩ := I.pin p hp
    refine ⟨h1, ?_, h3, h4, h5⟩
    rw [upd_ne (nP p hp)]
    exact h2
  · intro b u e
    by_cases z : b = a
    · subst z
      rw [upd_same] at e
      cases e
      exact new
    · rw [upd_ne z] at e
      refine (I.hok b u e).stay (fun _ _ _ g => g) (fun c g => ?_) fun c xs g => ?_
      · rw [upd_ne (ne_of_none g na)]
        exact g
      · rw [upd_ne (ne_of_none g na)]
        exact g
end
section
variable {X : Cx} {x n : Str} {c : Value} {i : Nat} {body suite : List Stmt} {b0 : Stmt} {p1 p2 p3 : Pos} {tb : WX → TS} {ts : Addr → Value → Option Addr → TS} {Wo : WX}
/-- try .. except x as n: what the suite keeps of the exception may be asked behind it -/
theorem ps_try_keep (stk : X.stack = X.env :: X.outer) (frm : X.env.frame = some X.env.locals) (nd : X.N.Nodup) (sl : X.N[i]? = some n) (kn : X.env.kindOf n = some .local) (nm : Names X x c) (out : Takes X Wo)
    (hbody : ∀ (W : WX) (pn : List (Addr × Obj)) (xe : Value → Shared → Prop), Takes (X.tr pn xe) W → PassesOwn (model X.prog X.w) X.A X.env xe → PSs (X.tr pn xe) body (tb W))
    (hsuite : ∀ (a : Addr) (ob : Obj) (cls : Value) (d : Option Addr) (pn : List (Addr × Obj)), Zc cls d ob → (∃ fs, ob.data = .fields fs) → PSs (X.suite a ((a, ob) :: pn)) (b0 :: suite) (ts a cls d)) :
    PS X (.Try body [.ExceptHandler (some (.Name x p1)) (some n) (b0 :: suite) p2] [] [] p3) (fun D σ H => tb (wKeep X.K c i ts Wo D) D σ H) := by
  constructor
  intro pins s σ H D I ask
  have fine := I.ok
  have frames : X.A.frames = some (X.env :: X.outer) := by rw [fine.frames, stk]
  have place : Loc X.env.scope n := .inl kn
  refine wpAny_Try_except ?_
  refine wpAny_mono ((hbody (wKeep X.K c i ts Wo D) (X.pn ++ pins) (fun e t1 => wpAny (model X.prog X.w) X.A (noteFrame e X.env) (fun _ t2 => wpAny (model X.prog X.w) X.A (setFlight e none) (fun _ t3 =>
    wpAny (model X.prog X.w) X.A (handleBy e X.env [.ExceptHandler (some (.Name x p1)) (some n) (b0 :: suite) p2]) (SP X pins D) X.xe t3) X.xe t2) X.xe t1) (fun v t0 air => ?caught) PassesOwn.looking).run [] s σ H D (I.toTry _) ask) (fun f s1 sp => ?done) (fun _ _ h => h)
  case done =>
    cases f with
    | next =>
      obtain ⟨τ, G, J, more⟩ := sp
      exact wpAny_execs_nil ⟨τ, G, J.ofTry fine, more⟩
    | brk =>
      obtain ⟨τ, G, J, more⟩ := sp
      exact ⟨τ, G, J.ofTry fine, more⟩
    | cont =>
      obtain ⟨τ, G, J, more⟩ := sp
      exact ⟨τ, G, J.ofTry fine, more⟩
    | ret u =>
      obtain ⟨v, τ, G, J, rel, more⟩ := sp
      exact ⟨v, τ, G, J.ofTry fine, rel, more⟩
  case caught =>
    obtain ⟨a, B, sB, ps, τ, G, cls, d, rfl, J0, ground, up0, sky, na, os, bare, hit, eHit, yes, no⟩ := air
    have J : Inv X pins τ G sB := J0.ofTry fine
    have sky1 : Sky B (X.env :: X.outer) a (Zc cls d) X.env.locals t0.heap := by rw [← stk]; exact sky
    show wpAny (model X.prog X.w) X.A (noteFrame (.ref a) X.env) _ _ _
    refine Sky.land Zc.steady frames frm sky1 fun g1 fly1 up1 => ?_
    obtain ⟨ob1, fs1, at_1, z1, d1⟩ := fly1.there
    have noFrame : a ∉ frs (X.env :: X.outer) := fun m => by
      obtain ⟨_, o2, e2, bad⟩ := fly1.2.2.1.mem m
      rw [at_1] at e2
      cases e2
      exact bad _ d1
    have nL : a ≠ X.env.locals := fun z => noFrame (List.mem_filterMap.mpr ⟨X.env, List.mem_cons_self, by rw [frm, z]⟩)
    have nF : a ∉ X.fs := fun m => by
      obtain ⟨e, he, q⟩ := List.mem_filterMap.mp m
      exact noFrame (List.mem_filterMap.mpr ⟨e, List.mem_cons_of_mem _ he, q⟩)
    -- the object is new since the entry
    have fresh : sB.heap.get? a = none := by
      cases e : sB.heap.get? a with
      | none => rfl
      | some o =>
        have inB := ground a o e (by rw [stk]; exact noFrame)
        rw [fly1.2.1] at inB
        cases inB
    have old : a ∈ X.ex ∨ X.s_0.heap.get? a = none := by
      by_cases ex : a ∈ X.ex
      · exact .inl ex
      · right
        cases e : X.s_0.heap.get? a with
        | none => rfl
        | some o =>
          obtain ⟨o2, e2⟩ := J.base.there a o e ex
          rw [fresh] at e2
          cases e2
    have J1 : Inv X pins τ G { t0 with heap := g1 } := J.landed ground fly1.1 (up0.trans up1) os bare
    have inner := J1.suite at_1 d1 na nL nF
    refine wpAny_handleBy_cons (codeAny_handlers_test ?_) (by intro q; cases q)
    have kind : PySem.W.Looks (model X.prog X.w) g1 (typeOf (.ref a)) cls := fun _ _ _ _ k q => wpAny_typeOf_ref (k _ _ at_1) (by rw [z1.1]; exact q)
    have match_ := PySem.W.exm_one (M := model X.prog X.w) J1.kIn kind eHit
    have named : ∀ {R : Value → Shared → Prop} {E : Value → Shared → Prop}, R c { t0 with heap := g1 } → wpAny (model X.prog X.w) (X.A.mark (some (.ref a))) (eval (.Name x p1) X.env) R E { t0 with heap := g1 } := fun {R E} r => by
      obtain ⟨u1, u2, u3 | ⟨u3, u4, u5⟩⟩ := nm
      · exact ld_glob (X := X.suite a ((a, ob1) :: (X.pn ++ pins))) inner u1 u3 r u2
      · exact ld_blt (X := X.suite a ((a, ob1) :: (X.pn ++ pins))) inner u1 u3 u4 r u5 u2
    refine named (match_.here ?_)
    have noPin : ∀ p ∈ X.pn ++ pins, p.1 ≠ a := fun p hp z => by
      have q := (J.pin p hp).1
      rw [z, fresh] at q
      cases q
    have noCell : ∀ z c, X.env.cells.lookup z = some c → c ≠ a := fun z c e q => by
      obtain ⟨v, o, e1, _⟩ := J.cell z c e
      rw [q, fresh] at e1
      cases e1
    cases hit with
    | true =>
      refine codeAny_handlers_suite_as ?_
      refine HandSPX.lands_againZ fly1 fun g2 fly2 up2 => ?_
      obtain ⟨ob2, fs2, at_2, z2, d2⟩ := fly2.there
      have J2 : Inv X pins τ G { t0 with heap := g2 } := J.landed ground fly2.1 ((up0.trans up1).trans up2) os bare
      have within := J2.suite at_2 d2 na nL nF
      refine store_ok (X := X.suite a ((a, ob2) :: (X.pn ++ pins))) (v := .ref a) within nd sl place rfl (fun t3 J3 => ?_) (.inr kn)
      refine wpAny_mono ((hsuite a ob2 cls d (X.pn ++ pins) z2 ⟨_, d2⟩).run [] t3 _ G _ J3 (yes rfl a na)) (fun f t4 sp => ?_) (fun _ _ z => False.elim z)
      have leave : ∀ {τ4 : L2.St} {G4 : Hp} {R : Shared → Prop}, Inv (X.suite a ((a, ob2) :: (X.pn ++ pins))) [] τ4 G4 t4 → (∀ t5, Inv (X.suite a ((a, ob2) :: (X.pn ++ pins))) [] (τ4.set i none) G4 t5 → R t5) →
          wpAny (model X.prog X.w) X.A (do bindName X.env n .none; unbindBehindTheSuite X.env n p2) (fun _ t5 => R t5) X.xe t4 := fun {τ4 G4 R} J4 r =>
        gone_ok (X := X.suite a ((a, ob2) :: (X.pn ++ pins))) J4 nd sl kn r
      cases f with
      | next =>
        obtain ⟨τ4, G4, J4, more⟩ := sp
        refine leave J4 fun t5 J5 => ?_
        obtain ⟨k1, k2, _⟩ := J5.pin (a, ob2) (List.mem_append_left _ List.mem_cons_self)
        have J6 := J5.unsuite fine
        exact ⟨_, _, Inv.track J6 k2 old nL noCell noPin (exK_ok k1 z2 d2), more⟩
      | brk =>
        obtain ⟨τ4, G4, J4, more⟩ := sp
        exact leave J4 fun t5 J5 => ⟨_, _, J5.unsuite fine, more⟩
      | cont =>
        obtain ⟨τ4, G4, J4, more⟩ := sp
        exact leave J4 fun t5 J5 => ⟨_, _, J5.unsuite fine, more⟩
      | ret u =>
        obtain ⟨v, τ4, G4, J4, rel, more⟩ := sp
        exact leave J4 fun t5 J5 => ⟨_, _, _, J5.unsuite fine, rel, more⟩
    | false =>
      show wpAny _ X.A (handleBy (.ref a) X.env []) _ _ _
      refine wpAny_handleBy_nil ?_
      obtain ⟨_, _, _, o3, v3, T3, l3, w3, in3, z3, data3, slot3, _⟩ := id fly1
      unfold PySem.passOn
      refine wpAny_bind (wpAny_field in3 data3 slot3 ?_)
      have ref3 : ¬ ((Value.ref T3 == Value.none) = true) := by simp
      rw [if_neg ref3]
      have throw3 : wpAny (model X.prog X.w) X.A (setFlight (.ref a) X.env.frame) (fun _ t4 => wpAny (model X.prog X.w) X.A (throw (.ref a) : Sem Flow) (SP X pins D) X.xe t4) X.xe { t0 with heap := g1 } := by
        rw [frm]
        refine HandSPX.setFlight_upZ fly1 fun g2 held2 up2 => wpAny_throw (out _ _ ?_)
        have sky2 : Sky B X.stack a (Zc cls d) X.env.locals g2 := .inr (.inr (by rw [stk]; exact held2))
        exact ⟨a, B, sB, pins, τ, G, cls, d, rfl, J, ground, (up0.trans up1).trans up2, sky2, na, os, bare, no rfl⟩
      first
        | exact wpAny_bind throw3
        | exact wpAny_bind (wpAny_pure (wpAny_bind throw3))
end
/-- what the written part says of a class whose objects are caught -/
structure ExcFacts (K : PySem.W.Frag) (C : Addr) : Prop where
  cl : (PySem.W.clsIn K C).isSome = true
  ga : PySem.W.findIn K (.ref C) "__getattribute__" = some (some (.builtin "BaseException.__getattribute__"))
  gg : PySem.W.findIn K (.ref C) "__getattr__" = some none
  sub : PySem.W.subIn K (.ref C) (.type "BaseException") = some true
  cls : PySem.W.findIn K (.ref C) "__class__" = some (some (.builtin "object.__class__"))
  get : PySem.W.specialIn K (.builtin "object.__class__") "__get__" = some (some (.builtin "getset_descriptor.__get__"))
  tak : PySem.W.takesIn K (.builtin "object.__class__") = some true
  obj : PySem.W.mroIn K C (.type "object") = some true
  dic : PySem.W.hasDictIn K C = true
  fld : PySem.W.findIn K (.ref C) "what" = some none
/-- which classes an exception's class stands under, by what the written part says of both -/
theorem kit_own {K : PySem.W.Frag} {C D : Addr} {b : Bool} (h1 : PySem.W.isClsIn K D = true) (h2 : PySem.W.typeIn K (.ref D) = some (.type "type")) (h3 : PySem.W.subIn K (.ref C) (.ref D) = some b) (h4 : PySem.W.subIn K (.ref C) (.ref C) = some true) : PySem.W.kitOne K (.ref C) (.ref D) = some b := by
  unfold PySem.W.kitOne
  by_cases e : (Value.ref C == Value.ref D) = true
  · rw [if_pos e]
    have e2 : Value.ref C = Value.ref D := eq_of_beq e
    rw [← e2, h4] at h3
    exact h3
  · rw [if_neg e]
    show (if ((PySem.W.clsIn K D).isSome && PySem.W.typeIn K (.ref D) == some (.type "type")) = true then PySem.W.subIn K (.ref C) (.ref D) else none) = some b
    have h1' : (PySem.W.clsIn K D).isSome = true := h1
    have e1 : ((PySem.W.clsIn K D).isSome && PySem.W.typeIn K (.ref D) == some (.type "type")) = true := by rw [h1', h2] <;> rfl
    rw [if_pos e1]
    exact h3
theorem kit_ve {K : PySem.W.Frag} {C : Addr} (h : PySem.W.subIn K (.ref C) (.type "ValueError") = some true) : PySem.W.kitOne K (.ref C) (.type "ValueError") = some true := by
  unfold PySem.W.kitOne
  rw [if_neg (by intro z; exact absurd (eq_of_beq z) (by intro y; cases y))]
  show (if PySem.W.kitMeta "ValueError" = true then PySem.W.subIn K (.ref C) (.type "ValueError") else none) = some true
  rw [if_pos (by decide +kernel)]
  exact h
theorem exm_own {K : PySem.W.Frag} {C D : Addr} {b : Bool} (h0 : PySem.W.subIn K (.ref D) (.type "BaseException") = some true) (h1 : PySem.W.isClsIn K D = true) (h2 : PySem.W.typeIn K (.ref D) = some (.type "type")) (h3 : PySem.W.subIn K (.ref C) (.ref D) = some b) : PySem.W.exmOne K (.ref C) (.ref D) = some b := by
  unfold PySem.W.exmOne
  have e0 : (PySem.W.subIn K (.ref D) (.type "BaseException") == some true) = true := by rw [h0] <;> rfl
  rw [if_pos e0]
  show (if ((PySem.W.clsIn K D).isSome && PySem.W.typeIn K (.ref D) == some (.type "type")) = true then PySem.W.subIn K (.ref C) (.ref D) else none) = some b
  have h1' : (PySem.W.clsIn K D).isSome = true := h1
  have e1 : ((PySem.W.clsIn K D).isSome && PySem.W.typeIn K (.ref D) == some (.type "type")) = true := by rw [h1', h2] <;> rfl
  rw [if_pos e1]
  exact h3
/-- what an exception's own dict has: its class's name, what it was made with -/
def wh (nm : Str) (v : V) : List (Str × V) := [(("word" : Str), .str nm), (("what" : Str), v)]
/-- a caught one at a, its dict at d: the field what is v -/
structure Kept (K : PySem.W.Frag) (H : Hp) (a C d : Addr) (v : V) : Prop where
  F : ExcFacts K C
  ob : H a = some (ExK (.ref C) (some d) a)
  di : ∃ nm : Str, H d = some (.xd (wh nm v))
theorem Kept.same {K : PySem.W.Frag} {H G : Hp} {a C d : Addr} {v : V} (k : Kept K H a C d v) (s : Same H G) : Kept K G a C d v := ⟨k.F, s _ _ k.ob, k.di.imp fun _ e => s _ _ e⟩
section
variable {X : Cx} {pins : List (Addr × Obj)} {σ : L2.St} {H : Hp} {s : Shared}
theorem Kept.inst {a C d : Addr} {v : V} (k : Kept X.K H a C d v) (I : Inv X pins σ H s) : ∃ (nm : Str) (ob od : Obj) (m : Str → Option Value), PySem.W.InstAt s.heap a ob C (some od) ∧ s.heap.Ns1 d m ∧ s.heap.get? d = some od ∧ (∀ f, RelO (List.lookup f (wh nm v)) (m f)) := by
  obtain ⟨nm, kdi⟩ := k.di
  obtain ⟨⟨ob, fs, e, z, da⟩, _⟩ := (show ObjOk X.prog X.w H s.heap a (ExK (.ref C) (some d) a) from I.hok a _ k.ob)
  obtain ⟨m, ns, r⟩ := (show ObjOk X.prog X.w H s.heap d (.xd (wh nm v)) from I.hok d _ kdi)
  obtain ⟨od, ho, _⟩ := lookIn_ns ns
  exact ⟨nm, ob, od, m, ⟨e, z.1, by unfold PySem.W.notCls; rw [da] <;> rfl, by rw [z.2]; exact ho⟩, ns, ho, r⟩
end
/-- isinstance of a kept one: a class, a tuple of classes -/
def rIsX (K : PySem.W.Frag) : List V → Hp → VK → Prop := fun xs H Q => ∃ (a C d : Addr) (v k : V) (u : Value) (b : Bool), xs = [.ref a, k] ∧ Kept K H a C d v ∧ ClsV k u ∧ PySem.W.kitOne K (.ref C) u = some b ∧ Q (.bl b) H
def rIsXT (K : PySem.W.Frag) : List V → Hp → VK → Prop := fun xs H Q => ∃ (a C d tp : Addr) (v : V) (ks : List V) (us : List Value) (b : Bool), xs = [.ref a, .ref tp] ∧ Kept K H a C d v ∧ H tp = some (.tup ks) ∧ Paired ClsV ks us ∧ PySem.W.kitAny K (.ref C) us = some b ∧ Q (.bl b) H
section
variable {X : Cx} {K : PySem.W.Frag}
theorem isX (hK : X.K = K) : CallR X (.builtin "isinstance") (rIsX K) := by
  subst hK
  intro pins s σ H xs us Q I rel ⟨a, C, d, v, k, u, b, e, kp, kc, ko, q⟩
  subst e
  obtain ⟨w1, w2, e2, r1, r2⟩ := vals2 rel
  subst e2
  obtain rfl : w1 = Value.ref a := r1
  obtain rfl := kc.eq r2
  obtain ⟨nm, ob, od, m, inst, _⟩ := kp.inst I
  have kit := PySem.W.kitx_exc (x := a) (ox := ob) (od := some od) kp.F.cl kp.F.ga kp.F.gg kp.F.sub kp.F.cls kp.F.get kp.F.tak kp.F.obj
  exact PySem.W.kia_one kit I.kIn inst ko (fun z => nomatch z) fun tk => ⟨.bl b, H, I.tok tk, rfl, q⟩
theorem isXT (hK : X.K = K) : CallR X (.builtin "isinstance") (rIsXT K) := by
  subst hK
  intro pins s σ H xs us Q I rel ⟨a, C, d, tp, v, ks, cs, b, e, kp, ht, kc, ko, q⟩
  subst e
  obtain ⟨w1, w2, e2, r1, r2⟩ := vals2 rel
  subst e2
  obtain rfl : w1 = Value.ref a := r1
  obtain rfl : w2 = Value.ref tp := r2
  obtain ⟨nm, ob, od, m, inst, _⟩ := kp.inst I
  have kit := PySem.W.kitx_exc (x := a) (ox := ob) (od := some od) kp.F.cl kp.F.ga kp.F.gg kp.F.sub kp.F.cls kp.F.get kp.F.tak kp.F.obj
  obtain ⟨_, items, rv, o, at_o, c_o, len_o, data_o⟩ := (show ObjOk X.prog X.w H s.heap tp (.tup ks) from I.hok tp _ ht)
  obtain rfl := ClsV.all kc rv
  obtain ⟨oc, odict, odata, oslots⟩ := o
  simp only at c_o data_o
  subst c_o data_o
  exact PySem.W.kia_tup kit I.kIn inst at_o ko (fun z => nomatch z) fun tk => ⟨.bl b, H, I.tok tk, rfl, q⟩
/-- caught.what -/
def tWhat (K : PySem.W.Frag) (te : TE) : TE := fun σ H Q => te σ H fun x G => ∃ (a C d : Addr) (v : V), x = .ref a ∧ Kept K G a C d v ∧ Q v G
theorem pe_what {e : Expr} {te : TE} {pos : Pos} (hK : X.K = K) (he : PE X e te) (hb : attributeBase e "what" X.env (eval e X.env) = eval e X.env := by rfl) : PE X (.Attribute e "what" pos) (tWhat K te) := by
  subst hK
  constructor
  intro pins s σ H Q I ask
  refine attr_of hb (thn (he.run pins s σ H _ I ask) fun u t1 got => ?_)
  obtain ⟨x, G, J, rel, a, C, d, v, e1, kp, q⟩ := got
  subst e1
  obtain rfl : u = Value.ref a := rel
  obtain ⟨nm, ob, od, m, inst, ns, at_d, fs⟩ := kp.inst J
  obtain ⟨od2, at_d2, look⟩ := lookIn_ns ns
  rw [at_d] at at_d2
  obtain rfl := Option.some.inj at_d2
  have l1 : List.lookup ("what" : Str) (wh nm v) = some v := rfl
  obtain ⟨w, hw, rw_⟩ := RelO.some_of (v := v) (o := m "what") (by rw [← l1]; exact fs "what")
  have found := PySem.W.findObj_own (K := X.K) (C := C) (od := od) kp.F.dic kp.F.fld rfl (by rw [look, hw])
  exact HandSPX.exc_get J.kIn inst kp.F.ga kp.F.gg kp.F.sub found (handed_of rw_) ⟨v, G, J.tok _, rw_, q⟩
end
end KR
/-! ### the name of its class, which an exception keeps: self.word = self.__class__.__name__ -/
namespace PySem.W
open PySem PySem.Calls PySem.Spec PyProof.Rows Builtin Builtin.Getset_descriptor
section
variable {pg : Program} {wd : World} {Ar : Around} {Ex : Value → Shared → Prop} {sh : Shared} {Fg : Frag} {Rr : Result → Shared → Prop} {Cl z : Addr} {oz : Obj} {oy : Option Obj}
theorem own_dga (dv tv : Value) (b : Addr) : descrGetArgs ⟨[dv, .ref b, tv], []⟩ = pure (dv, some (.ref b), given tv) := by kernel_rfl
theorem own_name_get {tv : Value} {oc : Obj} {nm : Str} {tk : Tok} (at_C : sh.heap.get? Cl = some oc) (ty : oc.cls = .type "type") (sl : (oc.slots[2]?).join = some (.str nm tk)) (want : Rr (.ok (.ret (.str nm tk))) sh) :
    codeAny (model pg wd) Ar (.call (.builtin "getset_descriptor.__get__") ⟨[.builtin "type.__name__", .ref Cl, tv], []⟩) Rr sh := by
  obtain ⟨hh, g, dr, t, os⟩ := sh
  have K0 : Looks (model pg wd) hh (typeOf (.ref Cl)) (.type "type") := fun _ _ _ _ keep q => wpAny_typeOf_ref (keep _ _ at_C) (by rw [ty]; exact q)
  have K1 : Looks (model pg wd) hh (isSubtype (.type "type") (.type "type")) true := .of_pure (by rw [isSubtype_type] <;> kernel_rfl)
  refine codeAny_call_builtin KF.slot_gs.plain KF.entry_gs <| KF.slot_gs.check _ _ _ _ _ _ _ _ ktyn_type (KF.args_gs _ _ _) ?_
  unfold Builtin.«getset_descriptor.__get__» descrGet; rw [own_dga]; refine wpAny_bind <| wpAny_pure ?_
  unfold descrGetter descrCheckInstance descrNameAndClass isInstance; simp only [ktyn_owner]
  repeat lk
  refine ⟨Code.quiet_builtin _ (by decide +kernel), codeAny_builtin ktyn_entry ?_⟩
  unfold Builtin.«type.__name__»; dsimp only
  unfold keptObject slotAt; dsimp only
  refine wpAny_bind (wpAny_bind (wpAny_loadPart_at at_C (wpAny_pure ?_)))
  rw [sl]; dsimp only
  first
    | exact wpAny_pure want
    | exact wpAny_bind (wpAny_pure want)
    | exact wpAny_bind (wpAny_pure (wpAny_pure want))
theorem own_name {expr : Bool} {Q : Value → Shared → Prop} {oc : Obj} {nm : Str} {tk : Tok} (X : Fg.In sh.heap) (rd : readsIn Fg Cl (.type "type") = true) (fc : findCls Fg (.ref Cl) (.type "type") "__name__" = some (.get (.builtin "getset_descriptor.__get__") (.builtin "type.__name__") (.ref Cl) (.type "type")))
    (lk : Fg.lookup Cl = some oc) (ty : oc.cls = .type "type") (sl : (oc.slots[2]?).join = some (.str nm tk)) (want : ∀ u, Q (.str nm tk) { sh with toks := u }) : wpAny (model pg wd) Ar (getAttr (.ref Cl) "__name__" expr) Q Ex sh := by
  refine cls_read X rd fc ?_
  show wpAny _ _ (holding [Value.builtin "type.__name__"] (call (.builtin "getset_descriptor.__get__") [.builtin "type.__name__", .ref Cl, .type "type"]) >>= ret) _ _ _
  refine wpAny_bind <| wpAny_holding <| wpAny_call <| own_name_get (sh := { sh with toks := sh.toks + 1 }) (X _ _ lk) ty sl ?_
  exact wpAny_pure (handed_on rfl (want _))
theorem own_class {expr : Bool} {Q : Value → Shared → Prop} (X : Fg.In sh.heap) (I : InstAt sh.heap z oz Cl oy) (c1 : findIn Fg (.ref Cl) "__getattribute__" = some (some (.builtin "BaseException.__getattribute__"))) (c2 : findIn Fg (.ref Cl) "__getattr__" = some none)
    (c3 : subIn Fg (.ref Cl) (.type "BaseException") = some true) (c4 : (clsIn Fg Cl).isSome = true) (c5 : findIn Fg (.ref Cl) "__class__" = some (some (.builtin "object.__class__"))) (c6 : specialIn Fg (.builtin "object.__class__") "__get__" = some (some (.builtin "getset_descriptor.__get__")))
    (c7 : takesIn Fg (.builtin "object.__class__") = some true) (c8 : mroIn Fg Cl (.type "object") = some true) (want : ∀ u, Q (.ref Cl) { sh with toks := u }) : wpAny (model pg wd) Ar (getAttr (.ref z) "__class__" expr) Q Ex sh := by
  have fo : findObj Fg Cl oy "__class__" = some (.bind (.builtin "getset_descriptor.__get__") (.builtin "object.__class__")) := by
    cases oy with
    | none => exact findObj_dataN c4 c5 c6 c7
    | some ob => exact findObj_data c4 c5 c6 c7
  obtain ⟨hh, g, dr, t, os⟩ := sh
  have K0 := I.type (M := model pg wd)
  have K1 := looks_findIn (M := model pg wd) X c1
  have K2 := looks_findIn (M := model pg wd) X c2
  have K3 := looks_find (M := model pg wd) X I fo
  have below : Looks (model pg wd) hh (isInstance (.ref z) (.type "BaseException")) true := K0.andThen (looks_subIn X c3)
  have n0 : (expr && onTheHeap (Value.builtin "BaseException.__getattribute__")) = false := by cases expr <;> rfl
  have n1 : (Value.builtin "BaseException.__getattribute__" == Value.builtin "object.__getattribute__") = false := by decide +kernel
  have n2 : (onTheHeap (Value.ref Cl) && Value.builtin "BaseException.__getattribute__" == Value.builtin "object.__getattribute__") = false := by rw [n1] <;> rfl
  unfold getAttr getAttrBy
  refine wpAny_bind <| wpAny_mkText <| wpAny_holding <| wpAny_bind <| K0.at <| wpAny_bind <| K1.at ?_
  show wpAny _ _ (ite ((onTheHeap (Value.ref Cl) && Value.builtin "BaseException.__getattribute__" == Value.builtin "object.__getattribute__") = true) _ _) _ _ _
  rw [n2, if_neg Bool.false_ne_true]; unfold getAttrByItsOwn hookBefore; refine wpAny_bind ?_
  rw [if_pos (show onTheHeap (Value.ref Cl) = true from rfl)]; refine K2.at ?_; refine wpAny_bind <| wpAny_attempt <| wpAny_holding ?_
  unfold callGetattribute; rw [n0, if_neg Bool.false_ne_true]; unfold boundAndCalled; rw [PySem.F.excAttr_ValueError.ga.bind (.ref z)]; refine wpAny_bind <| wpAny_pure ?_
  show wpAny _ _ (call (.builtin "BaseException.__getattribute__") [.ref z, .str "__class__" t]) _ _ _
  refine wpAny_call <| codeAny_call_builtin PySem.F.excAttr_ValueError.ga.plain PySem.F.entry_bexc_ga ?_
  refine @check_slot (model pg wd) _ _ ⟨hh, g, dr, t + 1, os⟩ "BaseException.__getattribute__" "BaseException" "__getattribute__" (.ref z) [.str "__class__" t] [] _ (by decide +kernel) (by decide +kernel) below (PySem.F.args_bexc_ga (.ref z) (.str "__class__" t)) ?_
  unfold Builtin.«object.__getattribute__»; refine wpAny_bind <| wpAny_of_eq (a := ((Value.ref z : Value), [Value.str "__class__" t])) (by first | rfl | (simp only [slotArgs]; rfl)) ?_
  refine wpAny_bind <| wpAny_pure <| wpAny_bind <| K0.at <| wpAny_bind <| K3.at ?_
  show wpAny _ _ (holding [Value.builtin "object.__class__"] (call (.builtin "getset_descriptor.__get__") [.builtin "object.__class__", .ref z, .ref Cl]) >>= ret) _ _ _
  refine wpAny_bind <| wpAny_holding <| wpAny_call <| class_get (s := ⟨hh, g, dr, t + 1, os⟩) (ox := oz) (od := oy) X I c8 ?_
  refine wpAny_pure ?_
  show wpAny _ _ (handedOut (.ref Cl)) _ _ _
  rw [handedOut_of (v := .ref Cl) rfl]
  first
    | exact wpAny_pure (want _)
    | exact wpAny_pure (wpAny_pure (want _))
end
end PySem.W
namespace KR
open PySem PySem.Spec PyProof.Rows L2
/-- a class whose own name, kept since it was made, is nm -/
structure NmC (K : PySem.W.Frag) (C : Addr) (nm : Str) : Prop where
  ro : ∃ (oc : Obj) (tk : Tok), K.lookup C = some oc ∧ oc.cls = .type "type" ∧ (oc.slots[2]?).join = some (.str nm tk)
  rd : PySem.W.readsIn K C (.type "type") = true
  fw : PySem.W.findIn K (.ref C) "word" = some none
  fc : PySem.W.findCls K (.ref C) (.type "type") "__name__" = some (.get (.builtin "getset_descriptor.__get__") (.builtin "type.__name__") (.ref C) (.type "type"))
/-- self.__class__.__name__ of one that is being made -/
def tCnm (K : PySem.W.Frag) (to : TE) : TE := fun σ H Q => to σ H fun x H1 => ∃ (a C d : Addr) (fs : List (Str × V)) (nm : Str), x = .ref a ∧ ExcFacts K C ∧ NmC K C nm ∧ H1 a = some (exo a C (some d)) ∧ H1 d = some (exd d fs) ∧ Q (.str nm) H1
theorem pe_cnm {X : Cx} {o : Expr} {to : TE} {p1 p2 : Pos} (ho : PE X o to) (h1 : attributeBase o "__class__" X.env (eval o X.env) = eval o X.env := by rfl)
    (h2 : attributeBase (.Attribute o "__class__" p1) "__name__" X.env (eval (.Attribute o "__class__" p1) X.env) = eval (.Attribute o "__class__" p1) X.env := by rfl) : PE X (.Attribute (.Attribute o "__class__" p1) "__name__" p2) (tCnm X.K to) := by
  refine ⟨fun pins s σ H Q I ask => ?_⟩
  refine attr_of h2 (attr_of h1 (thn (ho.run pins s σ H _ I ask) fun u s1 got => ?_))
  obtain ⟨x, H1, J, rel, a, C, d, fs, nm, e1, F, N, ha, hd, q⟩ := got
  subst e1
  obtain rfl : u = Value.ref a := rel
  obtain ⟨t1, at_a⟩ := exo_at J.hok ha
  obtain ⟨mA, ns, _⟩ := exd_at J.hok hd
  obtain ⟨od, at_d, _⟩ := lookIn_ns ns
  obtain ⟨oc, tk, lk, ty, sl⟩ := N.ro
  refine PySem.W.own_class J.kIn (oy := some od) ⟨at_a, rfl, rfl, at_d⟩ F.ga F.gg F.sub F.cl F.cls F.get F.tak F.obj fun u1 => ?_
  exact PySem.W.own_name (J.tok u1).kIn N.rd N.fc lk ty sl fun u2 => ⟨.str nm, H1, J.tok u2, ⟨tk, rfl⟩, q⟩
/-- the dict of one that is being made, told twice -/
theorem upd_twice {H : Hp} {a d : Addr} {o1 o2 o3 : HO} (ne : d ≠ a) : upd (upd (upd H d o1) a o2) d o3 = upd (upd H d o3) a o2 := by
  funext b
  by_cases e1 : b = a
  · subst e1
    rw [upd_ne (Ne.symm ne), upd_same, upd_same]
  · by_cases e2 : b = d
    · subst e2
      rw [upd_same, upd_ne e1, upd_same]
    · rw [upd_ne e2, upd_ne e1, upd_ne e2, upd_ne e1, upd_ne e2]
/-- self.what = what; self.word = self.__class__.__name__ -/
theorem init_reads {K : PySem.W.Frag} {C a : Addr} {nm : Str} {v : V} {H : Hp} {D : Ends} (O : OexC K C) (F : ExcFacts K C) (N : NmC K C nm) (ha : H a = some (exo a C none)) (q : ∀ dx, H dx = none → dx ≠ a → D.nx [some (.ref a), some v] (upd (upd H dx (exd dx (wh nm v))) a (exo a C (some dx)))) :
    tSeq (tOst K "what" (tVar 0) (tVar 1)) (tOst K "word" (tVar 0) (tCnm K (tVar 0))) D [some (.ref a), some v] H := by
  refine ⟨_, rfl, _, rfl, a, C, rfl, O, F.fld, .inl ⟨ha, fun dx h1 h2 => ?_⟩⟩
  have e1 : (upd (upd H dx (exd dx [(("what" : Str), v)])) a (exo a C (some dx))) dx = some (exd dx [(("what" : Str), v)]) := by rw [upd_ne h2, upd_same]
  refine ⟨_, rfl, a, C, dx, _, nm, rfl, F, N, upd_same, e1, _, rfl, a, C, rfl, O, N.fw, .inr ⟨dx, _, upd_same, e1, by show 1 ≤ 900; decide, ?_⟩⟩
  rw [upd_twice h2]
  exact q dx h1 h2
end KR
/-! ### an instance that is made, where its own __init__ may raise -/
namespace KR
open PySem PySem.Spec PyProof.Rows L2
theorem passX0 {X : Cx} : Passes (L2.CX X.prog X.w) X E0 := fun pins σ H s1 e s' I z => by
  obtain ⟨a, B, H', cls, d, _, _, _, _, _, _, _, q⟩ := z
  exact q.elim
section
variable {X : Cx} {CX : CXT} {n : Nat} {fI cl : Addr} {fd : FuncData} {names : List Str} {sp : Sp} {E : L2.St → XK} {x : Str} {p pos : Pos} {e : Expr} {es : List Expr} {t : TA}
/-- what is left to be shown of it: __init__ with the new instance ahead -/
def tMakeS (cl : Addr) (sp : Sp) (E : L2.St → XK) (t : TA) : TE := fun σ H Q => t σ H fun vs G => ∀ a da, G a = none → G da = none → da ≠ a → sp (.ref a :: vs) (upd (upd G da (.own a)) a (.ins cl da [])) (fun u J => u = .non ∧ Q (.ref a) J) (E σ)
theorem pe_makeS (mk : Mk X.K cl fI) (F : FnOk X.prog X.w X.K X.mg X.base CX n fI fd names sp) (room : Room (n + 1) X.A) (glob : Gl X x) (here : X.mg x = some (.ref cl)) (bind : Binds X.K fd names []) (pass : ∀ σ, PassesAt CX X σ (E σ)) (args : PA X (e :: es) t)
    (nd : (x == ("__debug__" : Str)) = false := by decide) (st : starEach (e :: es) X.env = (false, eval e X.env) :: starEach es X.env := by rfl) (bk : (backTo pos (starEach es X.env)).any (·.1) = false := by rfl) : PE X (.Call (.Name x p) (e :: es) [] pos) (tMakeS cl sp E t) := by
  constructor
  intro pins s σ H Q I ask
  refine wpAny_Call_Name_kw (ld_glob I glob here (PySem.W.callWith_K (h₀ := X.base) I.ok.mod.kin mk.kp (thn (args.run pos pins s σ H _ I ask) ?_) st bk) nd)
  rintro us s1 ⟨vs, G, J, rel, q⟩
  refine ⟨J.kIn, ?_⟩
  have ask2 := q (s1.heap.objs.size + 1) s1.heap.objs.size (J.hok.fresh (Nat.le_succ _)) (J.hok.fresh (Nat.le_refl _)) (Nat.ne_of_lt (Nat.lt_succ_self _))
  have made := Inv.made (C := cl) J
  have rel2 : Vals (V.ref (s1.heap.objs.size + 1) :: vs) (Value.ref (s1.heap.objs.size + 1) :: us) := .cons rfl rel
  have many : (Value.ref (s1.heap.objs.size + 1) :: us).length = names.length := by rw [← F.len _ _ _ _ ask2]; exact rel2.length.symm
  have bound := bind _ (Value.ref (s1.heap.objs.size + 1) :: us) made.kIn (by rw [List.append_nil]; exact many)
  rw [List.append_nil] at bound
  refine wpAny_call (make_map (f := fI) J.kIn mk.makes mk.init (beq_iff_eq.mp mk.fn) (codeAny_mono (F.run _ X.stack _ _ ⟨Value.ref (s1.heap.objs.size + 1) :: us, []⟩ _ _ _ (E σ) (room.make cl us []) (made.env0.make cl us []) bound rel2 ask2) ?_))
  intro r s2 post
  match r, post with
  | .error er, post => exact pass σ pins _ _ er s2 made post
  | .ok (.ret u), post =>
    obtain ⟨v, H2, J2, rv, ev, q3⟩ := made.after post
    cases ev
    exact ⟨rv, V.ref (s1.heap.objs.size + 1), H2, J2, rfl, q3⟩
  | .ok .next, post => exact post.elim
  | .ok .brk, post => exact post.elim
  | .ok .cont, post => exact post.elim
end
/-- behind a raise all is as it was, beside it the new one's own dict -/
theorem raised_keeps {G : Hp} {a d : Addr} {o1 o2 o3 o4 : HO} (na : G a = none) (ndd : G d = none) : Same G (upd (del (upd (upd (upd G a o1) d o2) a o3) a) d o4) := fun b o e => by
  have ba := ne_of_none e na
  have bd := ne_of_none e ndd
  rw [upd_ne bd, del_ne ba, upd_ne ba, upd_ne bd, upd_ne ba]
  exact e
/-- how a refusal is made: its field what is what it is made with, its field word its class's name -/
def sp_initX (C : Addr) (nm : Str) : Sp := fun vs H Q _ => ∃ (a : Addr) (v : V), vs = [.ref a, v] ∧ H a = some (exo a C none) ∧ ∀ dx, H dx = none → dx ≠ a → Q .non (upd (upd H dx (exd dx (wh nm v))) a (exo a C (some dx)))
end KR
namespace KR
open PySem PySem.Spec PyProof.Rows L2
def top (i : Nat) : Stmt := PySem.Challenge.pw_kettlerow_k56_kinds_that_lose_nothing.main.body.getD i (.Pass ⟨0, 0, 0, 0⟩)
abbrev s_p_is_number : Stmt := top 24
theorem sc_p_is_number : FnScope ["thing"] ["thing"] (defScope s_p_is_number) := ⟨rfl, rfl, rfl, by decide +kernel, rfl, by decide +kernel, by decide +kernel⟩
abbrev s_p_is_frac : Stmt := top 28
theorem sc_p_is_frac : FnScope ["thing", "top", "bottom"] ["thing"] (defScope s_p_is_frac) := ⟨rfl, rfl, rfl, by decide +kernel, rfl, by decide +kernel, by decide +kernel⟩
abbrev s_p_frac_of : Stmt := top 29
theorem sc_p_frac_of : FnScope ["top", "bottom", "common"] ["top", "bottom"] (defScope s_p_frac_of) := ⟨rfl, rfl, rfl, by decide +kernel, rfl, by decide +kernel, by decide +kernel⟩
abbrev s_p_sum_of : Stmt := top 30
theorem sc_p_sum_of : FnScope ["one", "other"] ["one", "other"] (defScope s_p_sum_of) := ⟨rfl, rfl, rfl, by decide +kernel, rfl, by decide +kernel, by decide +kernel⟩
abbrev s_p_sum_of_all : Stmt := top 31
theorem sc_p_sum_of_all : FnScope ["ones", "whole", "one"] ["ones"] (defScope s_p_sum_of_all) := ⟨rfl, rfl, rfl, by decide +kernel, rfl, by decide +kernel, by decide +kernel⟩
abbrev s_p_difference : Stmt := top 32
theorem sc_p_difference : FnScope ["one", "other"] ["one", "other"] (defScope s_p_difference) := ⟨rfl, rfl, rfl, by decide +kernel, rfl, by decide +kernel, by decide +kernel⟩
abbrev s_p_product : Stmt := top 33
theorem sc_p_product : FnScope ["one", "other"] ["one", "other"] (defScope s_p_product) := ⟨rfl, rfl, rfl, by decide +kernel, rfl, by decide +kernel, by decide +kernel⟩
abbrev s_p_quotient : Stmt := top 34
theorem sc_p_quotient : FnScope ["one", "other"] ["one", "other"] (defScope s_p_quotient) := ⟨rfl, rfl, rfl, by decide +kernel, rfl, by decide +kernel, by decide +kernel⟩
abbrev s_p_is_lesser : Stmt := top 35
theorem sc_p_is_lesser : FnScope ["one", "other"] ["one", "other"] (defScope s_p_is_lesser) := ⟨rfl, rfl, rfl, by decide +kernel, rfl, by decide +kernel, by decide +kernel⟩
abbrev s_p_walked_once : Stmt := top 37
theorem sc_p_walked_once : FnScope ["kinds", "amounts", "dripped", "later", "place", "fresh", "_", "come", "drips", "goes"] ["kinds", "amounts"] (defScope s_p_walked_once) := ⟨rfl, rfl, rfl, by decide +kernel, rfl, by decide +kernel, by decide +kernel⟩
abbrev s_p_gap_between : Stmt := top 38
theorem sc_p_gap_between : FnScope ["one", "other", "gaps", "mine", "yours", "top", "bottom"] ["one", "other"] (defScope s_p_gap_between) := ⟨rfl, rfl, rfl, by decide +kernel, rfl, by decide +kernel, by decide +kernel⟩
abbrev s_p__dripped_of : Stmt := top 39
theorem sc_p__dripped_of : FnScope ["kinds", "amounts", "amount", "_", "drip"] ["kinds", "amounts"] (defScope s_p__dripped_of) := ⟨rfl, rfl, rfl, by decide +kernel, rfl, by decide +kernel, by decide +kernel⟩
abbrev s_p_steady_state : Stmt := top 42
theorem sc_p_steady_state : FnScope ["kinds", "lossless", "rows", "place", "at", "row"] ["kinds"] (defScope s_p_steady_state) := ⟨rfl, rfl, rfl, by decide +kernel, rfl, by decide +kernel, by decide +kernel⟩
abbrev s_p_rounds_till : Stmt := top 43
theorem sc_p_rounds_till : FnScope ["kinds", "amounts", "most", "steady", "later", "rounds"] ["kinds", "amounts", "most"] (defScope s_p_rounds_till) := ⟨rfl, rfl, rfl, by decide +kernel, rfl, by decide +kernel, by decide +kernel⟩
abbrev s_p__places_without_loss : Stmt := top 44
theorem sc_p__places_without_loss : FnScope ["kinds", "places", "place", "_", "drip", "left"] ["kinds"] (defScope s_p__places_without_loss) := ⟨rfl, rfl, rfl, by decide +kernel, rfl, by decide +kernel, by decide +kernel⟩
abbrev s_p__goes_in_all : Stmt := top 45
theorem sc_p__goes_in_all : FnScope ["kind", "places", "place"] ["kind", "places"] (defScope s_p__goes_in_all) := ⟨rfl, rfl, rfl, by decide +kernel, rfl, by decide +kernel, by decide +kernel⟩
abbrev s_p__row_of : Stmt := top 46
theorem sc_p__row_of : FnScope ["kinds", "place", "parts", "_", "drip", "goes"] ["kinds", "place"] (defScope s_p__row_of) := ⟨rfl, rfl, rfl, by decide +kernel, rfl, by decide +kernel, by decide +kernel⟩
abbrev s_p__freed_of_itself : Stmt := top 47
theorem sc_p__freed_of_itself : FnScope ["row", "place", "lost", "freed", "part"] ["row", "place"] (defScope s_p__freed_of_itself) := ⟨rfl, rfl, rfl, by decide +kernel, rfl, by decide +kernel, by decide +kernel⟩
abbrev s_p__put_into : Stmt := top 48
theorem sc_p__put_into : FnScope ["row", "place", "freed", "many", "put", "part", "more"] ["row", "place", "freed"] (defScope s_p__put_into) := ⟨rfl, rfl, rfl, by decide +kernel, rfl, by decide +kernel, by decide +kernel⟩
abbrev s_l_cell_at : Stmt := top 50
theorem sc_l_cell_at : FnScope ["_law_script", "_law_k"] ["_law_script", "_law_k"] (defScope s_l_cell_at) := ⟨rfl, rfl, rfl, by decide +kernel, rfl, by decide +kernel, by decide +kernel⟩
abbrev s_l_box : Stmt := top 51
theorem sc_l_box : FnScope ["_law_script", "_law_k", "_law_cell"] ["_law_script", "_law_k"] (defScope s_l_box) := ⟨rfl, rfl, rfl, by decide +kernel, rfl, by decide +kernel, by decide +kernel⟩
abbrev s_l_take : Stmt := top 52
theorem sc_l_take : FnScope ["_law_box_here", "_law_many", "_law_found", "_law_once_here", "_law_twice"] ["_law_box_here", "_law_many"] (defScope s_l_take) := ⟨rfl, rfl, rfl, by decide +kernel, rfl, by decide +kernel, by decide +kernel⟩
abbrev s_l_low : Stmt := top 53
theorem sc_l_low : FnScope ["_law_top", "_law_bottom", "_law_one", "_law_other"] ["_law_top", "_law_bottom"] (defScope s_l_low) := ⟨rfl, rfl, rfl, by decide +kernel, rfl, by decide +kernel, by decide +kernel⟩
abbrev s_l_plus : Stmt := top 54
theorem sc_l_plus : FnScope ["_law_one", "_law_other"] ["_law_one", "_law_other"] (defScope s_l_plus) := ⟨rfl, rfl, rfl, by decide +kernel, rfl, by decide +kernel, by decide +kernel⟩
abbrev s_l_all : Stmt := top 56
theorem sc_l_all : FnScope ["_law_fracs", "_law_found", "_law_one"] ["_law_fracs"] (defScope s_l_all) := ⟨rfl, rfl, rfl, by decide +kernel, rfl, by decide +kernel, by decide +kernel⟩
abbrev s_l_goes : Stmt := top 59
theorem sc_l_goes : FnScope ["_law_box_here", "_law_many", "_law_bottom", "_law_way", "_law_left", "_law_found", "_law_turn", "_law_at", "_law_own", "_law_some", "_law_whole", "_law_top"] ["_law_box_here", "_law_many"] (defScope s_l_goes) := ⟨rfl, rfl, rfl, by decide +kernel, rfl, by decide +kernel, by decide +kernel⟩
abbrev s_l_kinds : Stmt := top 60
theorem sc_l_kinds : FnScope ["_law_box_here", "_law_many", "_law_found", "_law_turn", "_law_fresh", "_law_bottom", "_law_drip"] ["_law_box_here", "_law_many"] (defScope s_l_kinds) := ⟨rfl, rfl, rfl, by decide +kernel, rfl, by decide +kernel, by decide +kernel⟩
abbrev s_l_amounts : Stmt := top 61
theorem sc_l_amounts : FnScope ["_law_box_here", "_law_many", "_law_sorts", "_law_found", "_law_turn", "_law_top"] ["_law_box_here", "_law_many", "_law_sorts"] (defScope s_l_amounts) := ⟨rfl, rfl, rfl, by decide +kernel, rfl, by decide +kernel, by decide +kernel⟩
abbrev s_l_strays : Stmt := top 63
theorem sc_l_strays : FnScope ["_law_row", "_law_places", "_law_k", "_law_one"] ["_law_row", "_law_places"] (defScope s_l_strays) := ⟨rfl, rfl, rfl, by decide +kernel, rfl, by decide +kernel, by decide +kernel⟩
abbrev s_l_lossless : Stmt := top 64
theorem sc_l_lossless : FnScope ["_law_kinds_here", "_law_best", "_law_bits", "_law_places", "_law_place", "_law_fine"] ["_law_kinds_here"] (defScope s_l_lossless) := ⟨rfl, rfl, rfl, by decide +kernel, rfl, by decide +kernel, by decide +kernel⟩
abbrev s_l_within : Stmt := top 65
theorem sc_l_within : FnScope ["_law_box_here", "_law_many", "_law_places", "_law_bottom", "_law_found", "_law_left", "_law_order", "_law_top", "_law_place", "_law_one"] ["_law_box_here", "_law_many", "_law_places"] (defScope s_l_within) := ⟨rfl, rfl, rfl, by decide +kernel, rfl, by decide +kernel, by decide +kernel⟩
abbrev s_l_closed : Stmt := top 66
theorem sc_l_closed : FnScope ["_law_box_here", "_law_many", "_law_kinds_here", "_law_places", "_law_place", "_law_fresh", "_law_drip", "_law_goes_here"] ["_law_box_here"] (defScope s_l_closed) := ⟨rfl, rfl, rfl, by decide +kernel, rfl, by decide +kernel, by decide +kernel⟩
abbrev s_l_refused : Stmt := top 67
theorem sc_l_refused : FnScope ["_law_kinds_here", "_law_amounts_here", "_law_most", "_law_caught", "error"] ["_law_kinds_here", "_law_amounts_here", "_law_most"] (defScope s_l_refused) := ⟨rfl, rfl, rfl, by decide +kernel, rfl, by decide +kernel, by decide +kernel⟩
abbrev s_l_right : Stmt := top 68
theorem sc_l_right : FnScope ["_law_box_here", "_law_kinds_here", "_law_amounts_here", "_law_places", "_law_due", "_law_most", "_law_handed", "_law_some", "_law_found", "_law_place"] ["_law_box_here"] (defScope s_l_right) := ⟨rfl, rfl, rfl, by decide +kernel, rfl, by decide +kernel, by decide +kernel⟩
abbrev s_p_law : Stmt := top 69
theorem sc_p_law : FnScope ["_law_script", "_law_k"] ["_law_script"] (defScope s_p_law) := ⟨rfl, rfl, rfl, by decide +kernel, rfl, by decide +kernel, by decide +kernel⟩
def clsBody : Stmt → List Stmt
  | .ClassDef (body := b) .. => b
  | _ => []
abbrev s_init_NoSteady : Stmt := (clsBody (top 14)).getD 0 (.Pass ⟨0, 0, 0, 0⟩)
theorem sc_init_NoSteady : FnScope ["self", "what"] ["self", "what"] (defScope s_init_NoSteady) := ⟨rfl, rfl, rfl, by decide +kernel, rfl, by decide +kernel, by decide +kernel⟩
structure All (K : PySem.W.Frag) (mg : Str → Option Value) where
  f_p_is_number : Addr
  fd_p_is_number : FuncData
  d_p_is_number : Def K mg "is_number" s_p_is_number f_p_is_number fd_p_is_number ["thing"]
  f_p_is_frac : Addr
  fd_p_is_frac : FuncData
  d_p_is_frac : Def K mg "is_frac" s_p_is_frac f_p_is_frac fd_p_is_frac ["thing"]
  f_p_frac_of : Addr
  fd_p_frac_of : FuncData
  d_p_frac_of : Def K mg "frac_of" s_p_frac_of f_p_frac_of fd_p_frac_of ["top", "bottom"]
  f_p_sum_of : Addr
  fd_p_sum_of : FuncData
  d_p_sum_of : Def K mg "sum_of" s_p_sum_of f_p_sum_of fd_p_sum_of ["one", "other"]
  f_p_sum_of_all : Addr
  fd_p_sum_of_all : FuncData
  d_p_sum_of_all : Def K mg "sum_of_all" s_p_sum_of_all f_p_sum_of_all fd_p_sum_of_all ["ones"]
  f_p_difference : Addr
  fd_p_difference : FuncData
  d_p_difference : Def K mg "difference" s_p_difference f_p_difference fd_p_difference ["one", "other"]
  f_p_product : Addr
  fd_p_product : FuncData
  d_p_product : Def K mg "product" s_p_product f_p_product fd_p_product ["one", "other"]
  f_p_quotient : Addr
  fd_p_quotient : FuncData
  d_p_quotient : Def K mg "quotient" s_p_quotient f_p_quotient fd_p_quotient ["one", "other"]
  f_p_is_lesser : Addr
  fd_p_is_lesser : FuncData
  d_p_is_lesser : Def K mg "is_lesser" s_p_is_lesser f_p_is_lesser fd_p_is_lesser ["one", "other"]
  f_p_walked_once : Addr
  fd_p_walked_once : FuncData
  d_p_walked_once : Def K mg "walked_once" s_p_walked_once f_p_walked_once fd_p_walked_once ["kinds", "amounts"]
  f_p_gap_between : Addr
  fd_p_gap_between : FuncData
  d_p_gap_between : Def K mg "gap_between" s_p_gap_between f_p_gap_between fd_p_gap_between ["one", "other"]
  f_p__dripped_of : Addr
  fd_p__dripped_of : FuncData
  d_p__dripped_of : Def K mg "_dripped_of" s_p__dripped_of f_p__dripped_of fd_p__dripped_of ["kinds", "amounts"]
  f_p_steady_state : Addr
  fd_p_steady_state : FuncData
  d_p_steady_state : Def K mg "steady_state" s_p_steady_state f_p_steady_state fd_p_steady_state ["kinds"]
  f_p_rounds_till : Addr
  fd_p_rounds_till : FuncData
  d_p_rounds_till : Def K mg "rounds_till" s_p_rounds_till f_p_rounds_till fd_p_rounds_till ["kinds", "amounts", "most"]
  f_p__places_without_loss : Addr
  fd_p__places_without_loss : FuncData
  d_p__places_without_loss : Def K mg "_places_without_loss" s_p__places_without_loss f_p__places_without_loss fd_p__places_without_loss ["kinds"]
  f_p__goes_in_all : Addr
  fd_p__goes_in_all : FuncData
  d_p__goes_in_all : Def K mg "_goes_in_all" s_p__goes_in_all f_p__goes_in_all fd_p__goes_in_all ["kind", "places"]
  f_p__row_of : Addr
  fd_p__row_of : FuncData
  d_p__row_of : Def K mg "_row_of" s_p__row_of f_p__row_of fd_p__row_of ["kinds", "place"]
  f_p__freed_of_itself : Addr
  fd_p__freed_of_itself : FuncData
  d_p__freed_of_itself : Def K mg "_freed_of_itself" s_p__freed_of_itself f_p__freed_of_itself fd_p__freed_of_itself ["row", "place"]
  f_p__put_into : Addr
  fd_p__put_into : FuncData
  d_p__put_into : Def K mg "_put_into" s_p__put_into f_p__put_into fd_p__put_into ["row", "place", "freed"]
  f_l_cell_at : Addr
  fd_l_cell_at : FuncData
  d_l_cell_at : Def K mg "_law_cell_at" s_l_cell_at f_l_cell_at fd_l_cell_at ["_law_script", "_law_k"]
  f_l_box : Addr
  fd_l_box : FuncData
  d_l_box : Def K mg "_law_box" s_l_box f_l_box fd_l_box ["_law_script", "_law_k"]
  f_l_take : Addr
  fd_l_take : FuncData
  d_l_take : Def K mg "_law_take" s_l_take f_l_take fd_l_take ["_law_box_here", "_law_many"]
  f_l_low : Addr
  fd_l_low : FuncData
  d_l_low : Def K mg "_law_low" s_l_low f_l_low fd_l_low ["_law_top", "_law_bottom"]
  f_l_plus : Addr
  fd_l_plus : FuncData
  d_l_plus : Def K mg "_law_plus" s_l_plus f_l_plus fd_l_plus ["_law_one", "_law_other"]
  f_l_all : Addr
  fd_l_all : FuncData
  d_l_all : Def K mg "_law_all" s_l_all f_l_all fd_l_all ["_law_fracs"]
  f_l_goes : Addr
  fd_l_goes : FuncData
  d_l_goes : Def K mg "_law_goes" s_l_goes f_l_goes fd_l_goes ["_law_box_here", "_law_many"]
  f_l_kinds : Addr
  fd_l_kinds : FuncData
  d_l_kinds : Def K mg "_law_kinds" s_l_kinds f_l_kinds fd_l_kinds ["_law_box_here", "_law_many"]
  f_l_amounts : Addr
  fd_l_amounts : FuncData
  d_l_amounts : Def K mg "_law_amounts" s_l_amounts f_l_amounts fd_l_amounts ["_law_box_here", "_law_many", "_law_sorts"]
  f_l_strays : Addr
  fd_l_strays : FuncData
  d_l_strays : Def K mg "_law_strays" s_l_strays f_l_strays fd_l_strays ["_law_row", "_law_places"]
  f_l_lossless : Addr
  fd_l_lossless : FuncData
  d_l_lossless : Def K mg "_law_lossless" s_l_lossless f_l_lossless fd_l_lossless ["_law_kinds_here"]
  f_l_within : Addr
  fd_l_within : FuncData
  d_l_within : Def K mg "_law_within" s_l_within f_l_within fd_l_within ["_law_box_here", "_law_many", "_law_places"]
  f_l_closed : Addr
  fd_l_closed : FuncData
  d_l_closed : Def K mg "_law_closed" s_l_closed f_l_closed fd_l_closed ["_law_box_here"]
  f_l_refused : Addr
  fd_l_refused : FuncData
  d_l_refused : Def K mg "_law_refused" s_l_refused f_l_refused fd_l_refused ["_law_kinds_here", "_law_amounts_here", "_law_most"]
  f_l_right : Addr
  fd_l_right : FuncData
  d_l_right : Def K mg "_law_right" s_l_right f_l_right fd_l_right ["_law_box_here"]
  f_p_law : Addr
  fd_p_law : FuncData
  d_p_law : Def K mg "law" s_p_law f_p_law fd_p_law ["_law_script"]
  b_ValueError : mg "ValueError" = none
  b_abs : mg "abs" = none
  b_all : mg "all" = none
  b_any : mg "any" = none
  b_bool : mg "bool" = none
  b_enumerate : mg "enumerate" = none
  b_int : mg "int" = none
  b_isinstance : mg "isinstance" = none
  b_len : mg "len" = none
  b_list : mg "list" = none
  b_min : mg "min" = none
  b_range : mg "range" = none
  b_tuple : mg "tuple" = none
  b_zip : mg "zip" = none
  m_gcd : mg "gcd" = some (.builtin "math.gcd")
  t_MOST_ROUNDS : Tok
  c_MOST_ROUNDS : mg "MOST_ROUNDS" = some (.int 40 t_MOST_ROUNDS)
  C_BoilError : Addr
  g_BoilError : mg "BoilError" = some (.ref C_BoilError)
  C_NoSteady : Addr
  g_NoSteady : mg "NoSteady" = some (.ref C_NoSteady)
  C_BadDeed : Addr
  g_BadDeed : mg "BadDeed" = some (.ref C_BadDeed)
  C_BadFrac : Addr
  g_BadFrac : mg "BadFrac" = some (.ref C_BadFrac)
  C_BadKettles : Addr
  g_BadKettles : mg "BadKettles" = some (.ref C_BadKettles)
  C_BadMoulds : Addr
  g_BadMoulds : mg "BadMoulds" = some (.ref C_BadMoulds)
  C_BadRow : Addr
  g_BadRow : mg "BadRow" = some (.ref C_BadRow)
  C_Cured : Addr
  g_Cured : mg "Cured" = some (.ref C_Cured)
  C_Empty : Addr
  g_Empty : mg "Empty" = some (.ref C_Empty)
  C_InWork : Addr
  g_InWork : mg "InWork" = some (.ref C_InWork)
  C_NoHour : Addr
  g_NoHour : mg "NoHour" = some (.ref C_NoHour)
  C_NoKettle : Addr
  g_NoKettle : mg "NoKettle" = some (.ref C_NoKettle)
  C_NoMould : Addr
  g_NoMould : mg "NoMould" = some (.ref C_NoMould)
  C_NoRoom : Addr
  g_NoRoom : mg "NoRoom" = some (.ref C_NoRoom)
  C_NoShare : Addr
  g_NoShare : mg "NoShare" = some (.ref C_NoShare)
  C_NoTelling : Addr
  g_NoTelling : mg "NoTelling" = some (.ref C_NoTelling)
  C_NotCured : Addr
  g_NotCured : mg "NotCured" = some (.ref C_NotCured)
  C_NotReady : Addr
  g_NotReady : mg "NotReady" = some (.ref C_NotReady)
  C_Same : Addr
  g_Same : mg "Same" = some (.ref C_Same)
  C_Stopped : Addr
  g_Stopped : mg "Stopped" = some (.ref C_Stopped)
  C_TooStrong : Addr
  g_TooStrong : mg "TooStrong" = some (.ref C_TooStrong)
  O_NoSteady : OexC K C_NoSteady
  fI_NoSteady : Addr
  fdI_NoSteady : FuncData
  i_NoSteady : PySem.W.findIn K (.ref C_NoSteady) "__init__" = some (some (.ref fI_NoSteady))
  tI_NoSteady : PySem.W.typeIn K (.ref fI_NoSteady) = some (.type "function")
  FI_NoSteady : Fun K "__init__" "NoSteady.__init__" s_init_NoSteady fI_NoSteady fdI_NoSteady
  bI_NoSteady : Binds K fdI_NoSteady ["self", "what"] []
  E_NoSteady : ExcFacts K C_NoSteady
  N_NoSteady : NmC K C_NoSteady "NoSteady"
  te : PySem.W.exmOne K (.ref C_NoSteady) (.ref C_BoilError) = some true
  k10 : PySem.W.kitAny K (.ref C_NoSteady) [.ref C_BadDeed, .ref C_BadFrac, .ref C_BadKettles, .ref C_BadMoulds, .ref C_BadRow, .ref C_Cured, .ref C_Empty, .ref C_InWork, .ref C_NoHour, .ref C_NoKettle] = some false
  k9 : PySem.W.kitAny K (.ref C_NoSteady) [.ref C_NoMould, .ref C_NoRoom, .ref C_NoShare, .ref C_NoTelling, .ref C_NotCured, .ref C_NotReady, .ref C_Same, .ref C_Stopped, .ref C_TooStrong] = some false
  kV : PySem.W.kitOne K (.ref C_NoSteady) (.type "ValueError") = some true
  kF : PySem.W.kitOne K (.ref C_NoSteady) (.ref C_NoSteady) = some true
  C_NOUGHT : Addr
  g_NOUGHT : mg "NOUGHT" = some (.ref C_NOUGHT)
  q_NOUGHT : ∀ H, SqT K H C_NOUGHT [.int 0, .int 1]
  C_ONE : Addr
  g_ONE : mg "ONE" = some (.ref C_ONE)
  q_ONE : ∀ H, SqT K H C_ONE [.int 1, .int 1]
theorem ok_init_NoSteady {P : Program} {w : World} {K : PySem.W.Frag} {mg : Str → Option Value} {base : Heap} (T : All K mg) : FnOk P w K mg base CX0 1 T.fI_NoSteady T.fdI_NoSteady ["self", "what"] (sp_initX T.C_NoSteady "NoSteady") := by
  refine T.FI_NoSteady.ok sc_init_NoSteady (fun vs H Q E h => ?_) (fun cdv A outer s H vs Q E hr h => ?_)
  · obtain ⟨a, v, rfl, _⟩ := h
    rfl
  · obtain ⟨a, v, rfl, ha, q⟩ := h
    exact ⟨_, pss_cons (ps_ost (pv 0) (pv 1)) (pss_one (ps_ost (pv 0) (pe_cnm (pv 0)))), init_reads T.O_NoSteady T.E_NoSteady T.N_NoSteady ha fun dx h1 h2 => q dx h1 h2⟩
end KR
namespace KR
open PySem PySem.Spec PyProof.Rows L2
section
variable {P : Program} {w : World} {K : PySem.W.Frag} {mg : Str → Option Value} {base : Heap}
def sp_l_cell_at (K : PySem.W.Frag) : Sp := fun vs H Q _ => ∃ (a : Addr) (ns : List Int) (k : Int), vs = [.ref a, .int k] ∧ SqL K H a (ns.map V.int) ∧ 0 ≤ k ∧ ∀ z : Int, Q (.int z) H
theorem ok_l_cell_at (T : All K mg) : FnOk P w K mg base CX0 1 T.f_l_cell_at T.fd_l_cell_at ["_law_script", "_law_k"] (sp_l_cell_at K) := by
  refine T.d_l_cell_at.fn.ok sc_l_cell_at (fun vs H Q E h => ?_) (fun cdv A outer s H vs Q E hr h => ?_)
  · obtain ⟨a, ns, k, rfl, _⟩ := h
    rfl
  · obtain ⟨a, ns, k, rfl, hS, h0, q⟩ := h
    refine ⟨_, (pss_cons (ps_if (pt_cmpR op_lt (pv 1) (pe_callB (lenQ (K := K) rfl) (by rfl) T.b_len PySem.boot_len (pa_cons (pv 0) pa_nil)) (nomark _)) (pss_one (ps_ret (pe_ix (ixL (K := K) rfl) (pv 0) (pv 1) (fun _ _ => rfl)))) pss_nil)
      (pss_one (ps_ret pe_int))), ?_⟩
    refine ⟨_, rfl, _, rfl, a, _, rfl, .inl hS, _, _, rfl, rfl, _, rfl, ite2 (fun c => ?_) (fun c => ?_)⟩
    · have c1 : k < ((ns.map V.int).length : Int) := of_decide_eq_true c
      rw [List.length_map] at c1
      refine ⟨_, rfl, _, rfl, a, _, k, _, rfl, rfl, hS, at_of (j := k.toNat) (by omega) (by rw [List.getElem?_map, List.getElem?_eq_getElem (show k.toNat < ns.length by omega)]; rfl), ?_⟩
      exact q _
    · exact q _

end
end KR
namespace KR
open PySem PySem.Spec PyProof.Rows L2
section
variable {P : Program} {w : World} {K : PySem.W.Frag} {mg : Str → Option Value} {base : Heap}
def sp_l_box (K : PySem.W.Frag) : Sp := fun vs H Q _ => ∃ (a : Addr) (ns : List Int) (k : Int), vs = [.ref a, .int k] ∧ SqL K H a (ns.map V.int) ∧ 0 ≤ k ∧ k ≤ 63 ∧ ∀ p H', Same H H' → H p = none → BoxAt H' p 0 → Q (.ref p) H'
theorem ok_l_box (T : All K mg) : FnOk P w K mg base CX0 2 T.f_l_box T.fd_l_box ["_law_script", "_law_k"] (sp_l_box K) := by
  refine T.d_l_box.fn.ok sc_l_box (fun vs H Q E h => ?_) (fun cdv A outer s H vs Q E hr h => ?_)
  · obtain ⟨a, ns, k, rfl, _⟩ := h
    rfl
  · obtain ⟨a, ns, k, rfl, hS, h0, h1, q⟩ := h
    refine ⟨_, (pss_cons (ps_set (i := 2) sc_l_box.nd rfl (by first | exact Or.inl rfl | exact Or.inr rfl) (pe_call (ok_l_cell_at T) hr (by rfl) T.d_l_cell_at.mg T.d_l_cell_at.fn.kp T.d_l_cell_at.b .nil pass0 (pa_cons (pv 0) (pa_cons (pv 1) pa_nil))))
      (pss_one (ps_ret (pe_lstI (pa_cons (pe_op op_mulX (pe_callB call_abs (by rfl) T.b_abs (by decide +kernel) (pa_cons (pv 2) pa_nil)) (pe_callTy call_int1 (by rfl) T.b_int (by decide +kernel) (pa_cons (pe_cmpR op_ge (pe_callB call_abs (by rfl) T.b_abs (by decide +kernel) (pa_cons (pv 2) pa_nil)) (pe_op op_pow pe_int pe_int) (nomark _)) pa_nil))) (pa_cons (pe_op op_add (pe_op op_add (pe_op op_mod (pv 2) pe_int) (pe_op op_mulX pe_int (pv 1))) pe_int) (pa_cons pe_int pa_nil))))))), ?_⟩
    refine ⟨_, rfl, _, rfl, a, ns, k, rfl, hS, h0, fun z => ?_⟩
    refine ⟨_, rfl, _, rfl, _, rfl, _, rfl, _, _, rfl, rfl, ⟨by decide, by decide, by decide⟩, _, _, rfl, rfl, .inr ⟨_, rfl, ?_⟩⟩
    refine ⟨_, _, rfl, rfl, mulR bit_lt, ?_⟩
    refine ⟨_, rfl, _, _, rfl, rfl, (by show (0 : Int) < 2305843009213693951; decide), _, rfl, _, _, rfl, rfl, mulL (by decide), _, _, rfl, rfl, _, _, rfl, rfl, rfl, fun p H1 s1 hp h1 => ?_⟩
    refine q p _ s1 hp ⟨_, _, _, h1, ?_, ?_, ?_, by decide, by decide⟩
    · refine Int.mul_nonneg (by split <;> omega) bit_nn
    · omega
    · omega

end
end KR
namespace KR
open PySem PySem.Spec PyProof.Rows L2
section
variable {P : Program} {w : World} {K : PySem.W.Frag} {mg : Str → Option Value} {base : Heap}
def sp_l_take : Sp := fun vs H Q _ => ∃ (p : Addr) (m : Int) (n : Nat), vs = [.ref p, .int m] ∧ BoxAt H p n ∧ n ≤ 1000000000 ∧ 0 < m ∧ m.natAbs < 2 ^ 200 ∧ ∀ (z : Int) (H' : Hp), 0 ≤ z → z < m → BoxAt H' p (n + 1) → Fr p H H' → Q (.int z) H'
theorem ok_l_take (T : All K mg) : FnOk P w K mg base CX0 1 T.f_l_take T.fd_l_take ["_law_box_here", "_law_many"] sp_l_take := by
  refine T.d_l_take.fn.ok sc_l_take (fun vs H Q E h => ?_) (fun cdv A outer s H vs Q E hr h => ?_)
  · obtain ⟨p, m, n, rfl, _⟩ := h
    rfl
  · obtain ⟨p, m, n, rfl, hB, hn, h0, hm, q⟩ := h
    obtain ⟨a, b, c, hp, ha, hb, hb2, hc, hcn⟩ := hB
    refine ⟨_, (pss_cons (ps_if (pt_cmpR op_gt (pe_ix (ixL (K := K) rfl) (pv 0) pe_int (fun _ _ => rfl)) pe_int (nomark _)) (pss_cons (ps_set (i := 2) sc_l_take.nd rfl (by first | exact Or.inl rfl | exact Or.inr rfl) (pe_op op_mod (pe_ix (ixL (K := K) rfl) (pv 0) pe_int (fun _ _ => rfl)) (pv 1)))
      (pss_cons (ps_asg (pe_op op_fdivW (pe_ix (ixL (K := K) rfl) (pv 0) pe_int (fun _ _ => rfl)) (pv 1)) (pg_sub (pv 0) pe_int set_list))
      (pss_one (ps_ret (pv 2))))) pss_nil)
      (pss_cons (ps_asg (pe_op op_add (pe_ix (ixL (K := K) rfl) (pv 0) pe_int (fun _ _ => rfl)) pe_int) (pg_sub (pv 0) pe_int set_list))
      (pss_cons (ps_set (i := 3) sc_l_take.nd rfl (by first | exact Or.inl rfl | exact Or.inr rfl) (pe_op op_mod (pe_op op_mulX (pe_op op_add (pe_ix (ixL (K := K) rfl) (pv 0) pe_int (fun _ _ => rfl)) (pe_op op_mulX pe_int (pe_ix (ixL (K := K) rfl) (pv 0) pe_int (fun _ _ => rfl)))) (pe_op op_add pe_int (pe_ix (ixL (K := K) rfl) (pv 0) pe_int (fun _ _ => rfl)))) pe_int))
      (pss_cons (ps_set (i := 4) sc_l_take.nd rfl (by first | exact Or.inl rfl | exact Or.inr rfl) (pe_op op_mod (pe_op op_mulX (pe_op op_add (pv 3) (pe_ix (ixL (K := K) rfl) (pv 0) pe_int (fun _ _ => rfl))) (pe_op op_add (pe_op op_mod (pv 3) pe_int) pe_int)) pe_int))
      (pss_one (ps_ret (pe_op op_mod (pe_op op_fdivW (pe_op op_mod (pe_op op_add (pe_op op_mulX (pv 4) pe_int) (pv 3)) pe_int) pe_int) (pv 1)))))))), ?_⟩
    refine ⟨_, rfl, p, _, 0, _, rfl, rfl, SqL.of hp, at0, _, _, rfl, rfl, _, rfl, ite2 (fun c1 => ?_) (fun c1 => ?_)⟩
    · refine ⟨_, rfl, p, _, 0, _, rfl, rfl, SqL.of hp, at0, _, rfl, _, _, rfl, rfl, h0, ?_⟩
      refine ⟨_, rfl, p, _, 0, _, rfl, rfl, SqL.of hp, at0, _, rfl, _, _, rfl, rfl, wide_div h0 hm (by decide) (by decide), ?_⟩
      refine ⟨_, rfl, p, _, 0, 0, rfl, rfl, hp, rfl, ?_⟩
      refine ⟨_, rfl, ?_⟩
      refine q _ _ (Int.emod_nonneg _ (by omega)) (Int.emod_lt_of_pos _ h0) ⟨_, _, _, upd_same, ?_, hb, hb2, hc, by omega⟩ (Fr.put Fr.refl)
      exact Int.ediv_nonneg ha (by omega)
    · refine ⟨_, rfl, p, _, 2, _, rfl, rfl, SqL.of hp, at2, _, _, rfl, rfl, _, rfl, p, _, 2, 2, rfl, rfl, hp, rfl, ?_⟩
      have hp2 : (upd H p (.lst [.int a, .int b, .int (c + 1)])) p = some (.lst [.int a, .int b, .int (c + 1)]) := upd_same
      refine ⟨_, rfl, p, _, 1, _, rfl, rfl, SqL.of hp2, at1, _, rfl, p, _, 2, _, rfl, rfl, SqL.of hp2, at2, _, _, rfl, rfl, mulL (by decide), _, _, rfl, rfl, ?_⟩
      refine ⟨_, rfl, p, _, 2, _, rfl, rfl, SqL.of hp2, at2, _, _, rfl, rfl, _, _, rfl, rfl, mulL (by omega), _, _, rfl, rfl, (by show (0 : Int) < 2147483647; decide), ?_⟩
      generalize e1 : (b + 48271 * (c + 1)) * (39373 + (c + 1)) % 2147483647 = o
      have o1 : 0 ≤ o ∧ o < 2147483647 := by omega
      refine ⟨_, rfl, _, rfl, p, _, 2, _, rfl, rfl, SqL.of hp2, at2, _, _, rfl, rfl, _, rfl, _, _, rfl, rfl, (by show (0 : Int) < 40009; decide), _, _, rfl, rfl, _, _, rfl, rfl, mulL (by omega), _, _, rfl, rfl, (by show (0 : Int) < 2147483629; decide), ?_⟩
      generalize e2 : (o + (c + 1)) * (o % 40009 + 7) % 2147483629 = t
      have t1 : 0 ≤ t ∧ t < 2147483629 := by omega
      refine ⟨_, rfl, _, _, rfl, rfl, mulL (by omega), _, rfl, _, _, rfl, rfl, _, _, rfl, rfl, (by show (0 : Int) < 2147483587; decide), _, _, rfl, rfl, wide_div (b := 10) (by decide) (by decide) (by decide) (by decide), _, rfl, _, _, rfl, rfl, h0, ?_⟩
      exact q _ _ (Int.emod_nonneg _ (by omega)) (Int.emod_lt_of_pos _ h0) ⟨_, _, _, upd_same, ha, hb, hb2, by omega, by omega⟩ (Fr.put Fr.refl)

end
end KR
namespace KR
open PySem PySem.Spec PyProof.Rows L2
section
variable {P : Program} {w : World} {K : PySem.W.Frag} {mg : Str → Option Value} {base : Heap}
theorem ok0_l_low (T : All K mg) : FnOk P w K mg base CX0 1 T.f_l_low T.fd_l_low ["_law_top", "_law_bottom"] sp_lowV := by
  refine T.d_l_low.fn.ok sc_l_low (fun vs H Q E h => ?_) (fun cdv A outer s H vs Q E hr h => ?_)
  · obtain ⟨t, b, rfl, _⟩ := h
    rfl
  · obtain ⟨t, b, rfl, hb, ht, hb2, q⟩ := h
    refine ⟨_, (pss_cons (ps_par (i := 2) (j := 3) (by rfl) sc_l_low.nd rfl rfl (by decide) rfl rfl (pa_cons (pe_callB call_abs (by rfl) T.b_abs (by decide +kernel) (pa_cons (pv 0) pa_nil)) (pa_cons (pe_callB call_abs (by rfl) T.b_abs (by decide +kernel) (pa_cons (pv 1) pa_nil)) pa_nil)) (by rfl))
      (pss_cons (ps_while PassesOwn.never (pt_cmpR op_gt (pv 3) pe_int (nomark _)) (pss_one (ps_par (i := 2) (j := 3) (by rfl) sc_l_low.nd rfl rfl (by decide) rfl rfl (pa_cons (pv 3) (pa_cons (pe_op op_mod (pv 2) (pv 3)) pa_nil)) (by rfl))))
      (pss_one (ps_ret (pe_tupI (pa_cons (pe_op op_mulX (pe_op op_fdivW (pv 0) (pv 2)) (pe_op op_sub pe_int (pe_op op_mulX pe_int (pe_callTy call_int1 (by rfl) T.b_int (by decide +kernel) (pa_cons (pe_cmpR op_lt (pv 1) pe_int (nomark _)) pa_nil))))) (pa_cons (pe_op op_fdivW (pe_callB call_abs (by rfl) T.b_abs (by decide +kernel) (pa_cons (pv 1) pa_nil)) (pv 2)) pa_nil))))))), ?_⟩
    have abs_ : ∀ z : Int, (if z < 0 then -z else z) = (z.natAbs : Int) := fun z => by split <;> omega
    refine ⟨_, rfl, _, rfl, _, rfl, _, rfl, _, _, rfl, ?_⟩
    rw [abs_, abs_]
    refine ⟨fun m σ H' => ∃ x y : Nat, σ = [some (.int t), some (.int b), some (.int x), some (.int y)] ∧ H' = H ∧ Nat.gcd x y = Nat.gcd t.natAbs b.natAbs ∧ m = y, ⟨_, _, _, rfl, rfl, rfl, rfl⟩, ?_⟩
    rintro m σ H' ⟨x, y, rfl, rfl, hg, rfl⟩
    refine ⟨_, rfl, _, _, rfl, rfl, _, rfl, ite2 (fun c => ?_) (fun c => ?_)⟩
    · have c1 : (0 : Int) < m := of_decide_eq_true c
      refine ⟨fun σ' H1 => ∃ x' y' : Nat, σ' = [some (.int t), some (.int b), some (.int x'), some (.int y')] ∧ H1 = H' ∧ Nat.gcd x' y' = Nat.gcd t.natAbs b.natAbs ∧ y' < m, fun σ' H1 ⟨x', y', e1, e2, e3, e4⟩ => ⟨y', e4, x', y', e1, e2, e3, rfl⟩, ?_⟩
      refine ⟨_, rfl, _, rfl, _, rfl, _, _, rfl, rfl, c1, _, _, rfl, ?_⟩
      refine ⟨m, x % m, by rw [Int.natCast_emod]; rfl, rfl, ?_, Nat.mod_lt _ (by omega)⟩
      rw [← hg, Nat.gcd_comm x m, Nat.gcd_rec m x, Nat.gcd_comm]
    · have c1 : ¬ (0 : Int) < m := of_decide_eq_false (Bool.eq_false_iff.mpr c)
      have m0 : m = 0 := by omega
      subst m0
      rw [Nat.gcd_zero_right] at hg
      have x0 : 0 < x := by
        rw [hg]
        exact Nat.gcd_pos_of_pos_right _ (by omega)
      have x1 : (x : Int).natAbs < 2 ^ 8900 := by
        rw [Int.natAbs_natCast, hg]
        exact Nat.lt_of_le_of_lt (Nat.le_of_dvd (by omega) (Nat.gcd_dvd_right _ _)) hb2
      refine ⟨_, rfl, _, rfl, _, _, rfl, rfl, wide_div (b := 8900) (by omega) x1 (by decide) (by decide), _, rfl, _, _, rfl, rfl, .inr ⟨_, rfl, ?_⟩⟩
      refine ⟨_, _, rfl, rfl, mulL (by decide), _, _, rfl, rfl, _, _, rfl, rfl, mulR (by rcases bit_or (c := decide (b < 0) = true) with z | z <;> rw [z] <;> decide), ?_⟩
      refine ⟨_, rfl, _, rfl, _, rfl, _, _, rfl, rfl, wide_div (b := 8900) (by omega) x1 (by decide) (by decide), rfl, fun p H1 s1 hp h1 => ?_⟩
      have e1 : t / (x : Int) * (1 - 2 * (if decide (b < 0) = true then 1 else 0)) = (low t b).1 := by
        unfold low
        rw [hg]
        by_cases z : b < 0
        · rw [if_pos (decide_eq_true z), if_pos z] <;> rfl
        · rw [if_neg (by rw [decide_eq_false z]; exact Bool.false_ne_true), if_neg z] <;> rfl
      have e2 : (if b < 0 then -b else b) / (x : Int) = (low t b).2 := by
        rw [abs_]
        unfold low
        rw [hg]
      refine q p H1 s1 hp ?_
      rw [← e1, ← e2]
      exact h1
theorem ok_l_low (T : All K mg) : FnOk P w K mg base CX0 1 T.f_l_low T.fd_l_low ["_law_top", "_law_bottom"] (sp_lowW K) := (ok0_l_low T).imp fun _ _ _ _ h => lowW h

end
end KR
namespace KR
open PySem PySem.Spec PyProof.Rows L2
section
variable {P : Program} {w : World} {K : PySem.W.Frag} {mg : Str → Option Value} {base : Heap}
theorem ok_l_plus (T : All K mg) : FnOk P w K mg base CX0 2 T.f_l_plus T.fd_l_plus ["_law_one", "_law_other"] (sp_w2 K (fun p q => p + q) (fun _ q => True)) := by
  refine T.d_l_plus.fn.ok sc_l_plus (fun vs H Q E h => ?_) (fun cdv A outer s H vs Q E hr h => ?_)
  · obtain ⟨x, y, p, q, rfl, _⟩ := h
    rfl
  · obtain ⟨x, y, p, q, rfl, hx, hy, zp, zq, hok, k⟩ := h
    have hx' : SqT K H x [.int p.num, .int (p.den : Int)] := hx
    have hy' : SqT K H y [.int q.num, .int (q.den : Int)] := hy
    refine ⟨_, (pss_one (ps_ret (pe_call (ok_l_low T) hr (by rfl) T.d_l_low.mg T.d_l_low.fn.kp T.d_l_low.b .nil pass0 (pa_cons (pe_op op_add (pe_op op_mulX (pe_ix (ixT (K := K) rfl) (pv 0) pe_int (fun _ _ => rfl)) (pe_ix (ixT (K := K) rfl) (pv 1) pe_int (fun _ _ => rfl))) (pe_op op_mulX (pe_ix (ixT (K := K) rfl) (pv 1) pe_int (fun _ _ => rfl)) (pe_ix (ixT (K := K) rfl) (pv 0) pe_int (fun _ _ => rfl)))) (pa_cons (pe_op op_mulX (pe_ix (ixT (K := K) rfl) (pv 0) pe_int (fun _ _ => rfl)) (pe_ix (ixT (K := K) rfl) (pv 1) pe_int (fun _ _ => rfl))) pa_nil))))), ?_⟩
    obtain ⟨a1, a2⟩ := zp
    obtain ⟨b1, b2⟩ := zq
    have hp := den_ne' p
    have hq := den_ne' q
    refine ⟨_, rfl, x, _, 0, _, rfl, rfl, hx', at0, _, rfl, y, _, 1, _, rfl, rfl, hy', at1, _, _, rfl, rfl, mulZ a1 b2 (by omega), _, rfl, y, _, 0, _, rfl, rfl, hy', at0, _, rfl, x, _, 1, _, rfl, rfl, hx', at1, _, _, rfl, rfl, mulZ b1 a2 (by omega), _, _, rfl, rfl, ?_⟩
    refine ⟨_, rfl, x, _, 1, _, rfl, rfl, hx', at1, _, rfl, y, _, 1, _, rfl, rfl, hy', at1, _, _, rfl, rfl, mulZ a2 b2 (by omega), ?_⟩
    refine ⟨_, _, rfl, Int.mul_ne_zero hp hq, lt_up (add_lt (wide_lt a1 b2) (wide_lt b1 a2)) (by omega), lt_up (wide_lt a2 b2) (by omega), ?_⟩
    intro z H' s1 n1 h1
    rw [rq_add] at h1
    exact k z H' s1 n1 h1

end
end KR
namespace KR
open PySem PySem.Spec PyProof.Rows L2
section
variable {P : Program} {w : World} {K : PySem.W.Frag} {mg : Str → Option Value} {base : Heap}
def sp_l_all (K : PySem.W.Frag) : Sp := fun vs H Q _ => ∃ (a : Addr) (l : List Fz) (p : Bool), vs = [.ref a] ∧ SqB K H a (rz l) p ∧ FL K H l ∧ (∀ z ∈ l, Big z.2) ∧ AddOk (l.map (·.2)) ∧ ∀ z H', Same H H' → FrQ K H' z (zsum (l.map (·.2))) → Q (.ref z) H'
theorem ok_l_all (T : All K mg) : FnOk P w K mg base CX0 3 T.f_l_all T.fd_l_all ["_law_fracs"] (sp_l_all K) := by
  refine T.d_l_all.fn.ok sc_l_all (fun vs H Q E h => ?_) (fun cdv A outer s H vs Q E hr h => ?_)
  · obtain ⟨a, l, p, rfl, _⟩ := h
    rfl
  · obtain ⟨a, l, p, rfl, ha, hf, big, add, q⟩ := h
    refine ⟨_, (pss_cons (ps_set (i := 1) sc_l_all.nd rfl (by first | exact Or.inl rfl | exact Or.inr rfl) (pe_tupI (pa_cons pe_int (pa_cons pe_int pa_nil))))
      (pss_cons (ps_for PassesOwn.never rfl (pi_seqB (K := K) rfl (pv 0)) (pg_name (i := 2) sc_l_all.nd rfl (by first | exact Or.inl rfl | exact Or.inr rfl)) (pss_one (ps_set (i := 1) sc_l_all.nd rfl (by first | exact Or.inl rfl | exact Or.inr rfl) (pe_call (ok_l_plus T) hr (by rfl) T.d_l_plus.mg T.d_l_plus.fn.kp T.d_l_plus.b .nil pass0 (pa_cons (pv 1) (pa_cons (pv 2) pa_nil))))))
      (pss_one (ps_ret (pv 1))))), ?_⟩
    refine ⟨rfl, fun z0 H1 s1 n1 h1 => ?_⟩
    have h1 : FrQ K H1 z0 0 := .of h1
    cases p with
    | true => exact ⟨_, rfl, a, rfl, .inl ⟨⟨_, s1.seq ha⟩, all_loop walk_list (fun H' s => s.seq ha) s1 h1 hf big add fun z v H' s hz => ⟨_, rfl, q z H' s hz⟩⟩⟩
    | false => exact ⟨_, rfl, a, rfl, .inr ⟨⟨_, Same.tup s1 ha⟩, all_loop walk_tup (fun H' s => Same.tup s ha) s1 h1 hf big add fun z v H' s hz => ⟨_, rfl, q z H' s hz⟩⟩⟩

end
end KR
namespace KR
open PySem PySem.Spec PyProof.Rows L2
section
variable {P : Program} {w : World} {K : PySem.W.Frag} {mg : Str → Option Value} {base : Heap}
def sp_l_goes (K : PySem.W.Frag) : Sp := fun vs H Q _ => ∃ (p : Addr) (k n : Nat), vs = [.ref p, .int (k : Int)] ∧ BoxAt H p n ∧ n ≤ 999998000 ∧ 1 ≤ k ∧ k ≤ 6 ∧ ∀ (g : Addr) (l : List Fz) (H' : Hp), H' g = some (.tup (rz l)) → FL K H' l → l.length = k → (∀ z ∈ l, Part z.2) → zsum (l.map (·.2)) ≤ 1 → BoxAt H' p (n + 40) → Fr p H H' → Q (.ref g) H'
theorem ok_l_goes (T : All K mg) : FnOk P w K mg base CX0 4 T.f_l_goes T.fd_l_goes ["_law_box_here", "_law_many"] (sp_l_goes K) := by
  refine T.d_l_goes.fn.ok sc_l_goes (fun vs H Q E h => ?_) (fun cdv A outer s H vs Q E hr h => ?_)
  · obtain ⟨p, k, n, rfl, _⟩ := h
    rfl
  · obtain ⟨p, k, n, rfl, hB, hn, k1, k6, q⟩ := h
    refine ⟨_, (pss_cons (ps_par (i := 2) (j := 3) (by rfl) sc_l_goes.nd rfl rfl (by decide) rfl rfl (pa_cons (pe_op op_add pe_int (pe_call (ok_l_take T) (hr.mono (by decide)) (by rfl) T.d_l_take.mg T.d_l_take.fn.kp T.d_l_take.b .nil pass0 (pa_cons (pv 0) (pa_cons pe_int pa_nil)))) (pa_cons (pe_call (ok_l_take T) (hr.mono (by decide)) (by rfl) T.d_l_take.mg T.d_l_take.fn.kp T.d_l_take.b .nil pass0 (pa_cons (pv 0) (pa_cons pe_int pa_nil))) pa_nil)) (by rfl))
      (pss_cons (ps_par (i := 4) (j := 5) (by rfl) sc_l_goes.nd rfl rfl (by decide) rfl rfl (pa_cons (pv 2) (pa_cons (pe_op op_rep (pe_lstI (pa_cons (pe_tupI (pa_cons pe_int (pa_cons pe_int pa_nil))) pa_nil)) (pv 1)) pa_nil)) (by rfl))
      (pss_cons (ps_for PassesOwn.never rfl (pi_range1 (by rfl) T.b_range (pa_cons (pv 1) pa_nil)) (pg_name (i := 6) sc_l_goes.nd rfl (by first | exact Or.inl rfl | exact Or.inr rfl)) (pss_cons (ps_set (i := 7) sc_l_goes.nd rfl (by first | exact Or.inl rfl | exact Or.inr rfl) (pe_call (ok_l_take T) (hr.mono (by decide)) (by rfl) T.d_l_take.mg T.d_l_take.fn.kp T.d_l_take.b .nil pass0 (pa_cons (pv 0) (pa_cons (pv 1) pa_nil))))
      (pss_one (ps_if (pt_cmpR op_eq (pv 3) pe_int (nomark _)) (pss_cons (ps_set (i := 8) sc_l_goes.nd rfl (by first | exact Or.inl rfl | exact Or.inr rfl) (pe_op op_add pe_int (pe_call (ok_l_take T) (hr.mono (by decide)) (by rfl) T.d_l_take.mg T.d_l_take.fn.kp T.d_l_take.b .nil pass0 (pa_cons (pv 0) (pa_cons pe_int pa_nil)))))
      (pss_cons (ps_set (i := 9) sc_l_goes.nd rfl (by first | exact Or.inl rfl | exact Or.inr rfl) (pe_op op_catI (pe_op op_catI (pe_slice (slL (K := K) rfl) (pv 5) po_none (po_some (pv 7))) (pe_lstI (pa_cons (pe_call (ok_l_low T) (hr.mono (by decide)) (by rfl) T.d_l_low.mg T.d_l_low.fn.kp T.d_l_low.b .nil pass0 (pa_cons (pe_call (ok_l_take T) (hr.mono (by decide)) (by rfl) T.d_l_take.mg T.d_l_take.fn.kp T.d_l_take.b .nil pass0 (pa_cons (pv 0) (pa_cons (pe_op op_add (pv 8) pe_int) pa_nil))) (pa_cons (pv 8) pa_nil))) pa_nil))) (pe_slice (slL (K := K) rfl) (pv 5) (po_some (pe_op op_add (pv 7) pe_int)) po_none)))
      (pss_cons (ps_set (i := 10) sc_l_goes.nd rfl (by first | exact Or.inl rfl | exact Or.inr rfl) (pe_call (ok_l_all T) hr (by rfl) T.d_l_all.mg T.d_l_all.fn.kp T.d_l_all.b .nil pass0 (pa_cons (pv 9) pa_nil)))
      (pss_one (ps_set (i := 5) sc_l_goes.nd rfl (by first | exact Or.inl rfl | exact Or.inr rfl) (pe_ifExp (pt_cmpR op_le (pe_ix (ixT (K := K) rfl) (pv 10) pe_int (fun _ _ => rfl)) (pe_ix (ixT (K := K) rfl) (pv 10) pe_int (fun _ _ => rfl)) (nomark _)) (pv 9) (pv 5))))))) (pss_one (ps_if (pt_cmpR (eqDK (K := K) rfl hr.units) (pe_ix (ixL (K := K) rfl) (pv 5) (pv 7) (fun _ _ => rfl)) (pe_tupI (pa_cons pe_int (pa_cons pe_int pa_nil))) (nomark _)) (pss_cons (ps_set (i := 11) sc_l_goes.nd rfl (by first | exact Or.inl rfl | exact Or.inr rfl) (pe_ifExp (PW.pt (pw_and (pt_cmpR op_eq (pv 3) pe_int (nomark _)) (pw_and1 (pt_cmpR op_gt (pv 6) (pe_op op_fdivW (pv 1) pe_int) (nomark _))))) (pv 4) (pe_call (ok_l_take T) (hr.mono (by decide)) (by rfl) T.d_l_take.mg T.d_l_take.fn.kp T.d_l_take.b .nil pass0 (pa_cons (pv 0) (pa_cons (pe_op op_add (pv 4) pe_int) pa_nil)))))
      (pss_one (ps_asg (pe_tupI (pa_cons (pe_op op_sub (pv 4) (pv 11)) (pa_cons (pe_call (ok_l_low T) (hr.mono (by decide)) (by rfl) T.d_l_low.mg T.d_l_low.fn.kp T.d_l_low.b .nil pass0 (pa_cons (pv 11) (pa_cons (pv 2) pa_nil))) pa_nil))) (pg_tupK (K := K) rfl rfl (pgs_cons (pg_name (i := 4) sc_l_goes.nd rfl (by first | exact Or.inl rfl | exact Or.inr rfl)) (pgs_cons (pg_sub (pv 5) (pv 7) set_list) pgs_nil)))))) pss_nil))))))
      (pss_one (ps_ret (pe_callTy call_tuple_of (by rfl) T.b_tuple (by decide +kernel) (pa_cons (pv 5) pa_nil))))))), ?_⟩
    refine ⟨_, rfl, p, 12, n, rfl, hB, by omega, by decide, by decide, fun b H1 b0 b1 B1 F1 => ?_⟩
    refine ⟨_, _, rfl, rfl, _, rfl, p, 4, n + 1, rfl, B1, by omega, by decide, by decide, fun w H2 w0 w1 B2 F2 => ?_⟩
    refine ⟨_, _, rfl, ?_⟩
    refine ⟨_, rfl, rfl, fun t0 H3 s3 n3 h3 => ⟨rfl, fun l0 H4 s4 n4 h4 => ⟨_, rfl, ?_⟩⟩⟩
    refine ⟨l0, (k : Int), _, rfl, rfl, h4, by omega, by omega, by show 1 * _ ≤ _; rw [sizeLine_eq]; omega, fun fl nfl => ?_⟩
    rw [rep_rz k (t0, 0)]
    have s5 : Same H4 (upd H4 fl (.lst (rz (List.replicate k (t0, 0))))) := same_new nfl
    have h5 : (upd H4 fl (.lst (rz (List.replicate k (t0, 0))))) fl = some (.lst (rz (List.replicate k (t0, 0)))) := upd_same
    generalize upd H4 fl (.lst (rz (List.replicate k (t0, 0)))) = H5 at s5 h5
    have s35 := s4.trans s5
    have B5 := (B2.same s3).same s35
    have flp : fl ≠ p := ((B2.same s3).same s4).new nfl
    have F5 : Fr p H H5 := ((F1.trans F2).trans (.of s3)).trans (.of s35)
    have nflH : H fl = none := by
      cases e : H fl with
      | none => rfl
      | some o =>
        have k := (((F1.trans F2).trans (.of s3)).trans (.of s4)) _ _ flp e
        rw [nfl] at k
        cases k
    refine ⟨_, _, rfl, ?_⟩
    have f0 : FrQ K H5 t0 0 := .of (s35 _ _ h3)
    have z0 : GoOk K H5 k (List.replicate k (t0, 0)) := ⟨fun z hz => by rw [List.eq_of_mem_replicate hz]; exact f0, List.length_replicate, fun z hz => by rw [List.eq_of_mem_replicate hz]; exact Part.zero, by rw [List.map_replicate, zsum_rep]; decide⟩
    refine ⟨_, rfl, k, rfl, by omega, by omega, for_range (lo := 0) (n := k) (fun i σ H' => ∃ (lf : Int) (f : Addr) (l : List Fz) (v6 v7 v8 v9 v10 v11 : Option V), σ = [some (.ref p), some (.int (k : Int)), some (.int (1 + b)), some (.int w), some (.int lf), some (.ref f), v6, v7, v8, v9, v10, v11] ∧ H' f = some (.lst (rz l)) ∧ H f = none ∧ f ≠ p ∧ GoOk K H' k l ∧
      0 ≤ lf ∧ lf ≤ 1 + b ∧ (w ≠ 3 → zsum (l.map (·.2)) * ((1 + b : Int) : Rat) = ((1 + b - lf : Int) : Rat)) ∧ BoxAt H' p (n + 2 + 6 * i) ∧ Fr p H H') ⟨1 + b, fl, _, none, none, none, none, none, none, rfl, h5, nflH, flp, z0, by omega, by omega, fun _ => ?_, B5, F5⟩ ?_ ?_⟩
    · rw [List.map_replicate, zsum_rep, show (1 + b - (1 + b) : Int) = 0 by omega, Rat.zero_mul] <;> rfl
    · rintro i σ H0 hi ⟨lf, f, l, v6, v7, v8, v9, v10, v11, rfl, hf, nf, fp, G, lf0, lf1, inv, B, F⟩
      refine ⟨_, rfl, _, rfl, p, (k : Int), n + 2 + 6 * i, rfl, B, by omega, by omega, by omega, fun at_ H6 a0 a1 B6 F6 => ?_⟩
      have hf6 := F6 _ _ fp hf
      have G6 := G.fr B F6
      have F06 := F.trans F6
      obtain ⟨an, rfl⟩ : ∃ an : Nat, at_ = (an : Int) := ⟨at_.toNat, by omega⟩
      have al : an < l.length := by rw [G.len]; omega
      have ga : l[an]? = some l[an] := List.getElem?_eq_getElem al
      generalize l[an] = y at ga
      have my := List.mem_of_getElem? ga
      refine ⟨_, rfl, rfl, _, rfl, ite2 (fun c3 => ?_) (fun c3 => ?_)⟩
      · refine ⟨_, rfl, p, 12, n + 2 + 6 * i + 1, rfl, B6, by omega, by decide, by decide, fun o H7 o0 o1 B7 F7 => ?_⟩
        refine ⟨_, _, rfl, rfl, ?_⟩
        have hf7 := F7 _ _ fp hf6
        refine ⟨_, rfl, _, rfl, _, rfl, f, _, rfl, SqL.of hf7, fun c1 H8 s8 n8 h8 => ?_⟩
        rw [cut_to (by rw [rz_len]; omega), rz_take] at h8
        have B8 := B7.same s8
        have c1p : c1 ≠ p := B7.new n8
        refine ⟨_, rfl, _, rfl, _, _, rfl, rfl, p, 1 + o + 1, n + 2 + 6 * i + 2, rfl, B8, by omega, by omega, by omega, fun t H9 t0 t1 B9 F9 => ?_⟩
        refine ⟨_, rfl, t, 1 + o, rfl, by omega, ?_, ?_, fun d H10 s10 n10 h10 => ?_⟩
        · exact lt_up (a := 8) (by omega) (by decide)
        · exact lt_up (a := 8) (by omega) (by decide)
        refine ⟨rfl, fun c2 H11 s11 n11 h11 => ?_⟩
        have h9 := F9 _ _ c1p h8
        have f9 := F9 _ _ fp (s8 _ _ hf7)
        refine ⟨c1, c2, _, _, rfl, rfl, s11 _ _ (s10 _ _ h9), h11, by simp only [rz_len, List.length_take, List.length_singleton]; exact small' (by have := G.len; omega), fun c3' H12 s12 n12 h12 => ?_⟩
        refine ⟨_, rfl, _, rfl, _, _, rfl, rfl, _, rfl, f, _, rfl, SqL.of (s12 _ _ (s11 _ _ (s10 _ _ f9))), fun c4 H13 s13 n13 h13 => ?_⟩
        rw [show ((an : Int) + 1) = ((an + 1 : Nat) : Int) by omega, cut_from (by rw [rz_len]; omega), rz_drop] at h13
        have lens : (rz (l.take an) ++ [V.ref d]).length + (rz (l.drop (an + 1))).length ≤ sizeLine := by
          have := G.len
          rw [List.length_append, rz_len, rz_len, List.length_take, List.length_drop, sizeLine_eq]
          show min an l.length + 1 + _ ≤ _
          omega
        refine ⟨c3', c4, _, _, rfl, rfl, s13 _ _ h12, h13, lens, fun c5 H14 s14 n14 h14 => ?_⟩
        have es : rz (l.take an) ++ [V.ref d] ++ rz (l.drop (an + 1)) = rz (l.set an (d, rq t (1 + o))) := by
          rw [List.set_eq_take_append_cons_drop, if_pos al, rz_app]
          show rz (l.take an) ++ [V.ref d] ++ rz (l.drop (an + 1)) = rz (l.take an) ++ (V.ref d :: rz (l.drop (an + 1)))
          rw [List.append_assoc] <;> rfl
        rw [es] at h14
        have s1014 : Same H10 H14 := s11.trans (s12.trans (s13.trans s14))
        have F79 : Fr p H7 H14 := (Fr.of s8).trans (F9.trans (.of (s10.trans s1014)))
        have G7 := (G6.fr B6 F7).fr B7 F79
        have F014 : Fr p H H14 := (F06.trans F7).trans F79
        have B14 := (B9.same s10).same s1014
        have c5p : c5 ≠ p := (((((B9.same s10).same s11).same s12).same s13)).new n14
        have fd14 : FrQ K H14 d (rq t (1 + o)) := FrQ.same h10 s1014
        have pd : Part (rq t (1 + o)) := Part.rq t0 (by omega) (by omega) (by omega)
        have ps : ∀ z ∈ l.set an (d, rq t (1 + o)), Part z.2 := fun z hz => by
          rcases mem_set hz with h | h
          · exact G.pa z h
          · rw [h]
            exact pd
        have fs : FL K H14 (l.set an (d, rq t (1 + o))) := fun z hz => by
          rcases mem_set hz with h | h
          · exact G7.fl z h
          · rw [h]
            exact fd14
        refine ⟨_, rfl, c5, _, true, rfl, SqL.of h14, fs, fun z hz => part_big (ps z hz), parts_add (mem_q ps) (by rw [List.length_map, List.length_set, G.len]; omega), fun wq H15 s15 hw => ?_⟩
        have hw' : SqT K H15 wq [.int (zsum ((l.set an (d, rq t (1 + o))).map (·.2))).num, .int ((zsum ((l.set an (d, rq t (1 + o))).map (·.2))).den : Int)] := hw
        have f15 := s15 _ _ (s14 _ _ (s13 _ _ (s12 _ _ (s11 _ _ (s10 _ _ f9)))))
        have B15 := (B14.same s15).mono (show n + 2 + 6 * i + 2 + 1 ≤ n + 2 + 6 * (i + 1) by omega)
        have F15 := F014.trans (.of s15)
        refine ⟨_, rfl, wq, _, 0, _, rfl, rfl, hw', at0, _, rfl, wq, _, 1, _, rfl, rfl, hw', at1, _, _, rfl, rfl, _, rfl, ite2 (fun cw => ?_) (fun cw => ?_)⟩
        · have w3 : w = 3 := V.int.inj (of_decide_eq_true c3)
          have le1 := (le_one_iff _).mp (of_decide_eq_true cw)
          refine ⟨_, rfl, lf, c5, l.set an (d, rq t (1 + o)), _, _, _, _, _, _, rfl, s15 _ _ h14, ?_, ?_, ⟨fs.same s15, by rw [List.length_set, G.len], ps, le1⟩, lf0, lf1, fun z => absurd w3 z, B15, F15⟩
          · exact fr_new ((F06.trans F7).trans ((Fr.of s8).trans (F9.trans (.of (s10.trans (s11.trans (s12.trans s13))))))) n14 c5p
          · exact c5p
        · exact ⟨_, rfl, lf, f, l, _, _, _, _, _, _, rfl, f15, nf, fp, G7.same s15, lf0, lf1, inv, B15, F15⟩
      · have f6 := G6.fl y my
        have hf6' : SqL K H6 f (rz l) := SqL.of hf6
        have gx : (rz l)[an]? = some (.ref y.1) := by
          unfold rz
          rw [List.getElem?_map, ga] <;> rfl
        have w3 : w ≠ 3 := fun e => c3 (by rw [e]; exact decide_eq_true rfl)
        refine ⟨_, rfl, _, rfl, f, _, (an : Int), _, rfl, rfl, hf6', at_of rfl gx, rfl, fun z1 H7 s7 n7 h7 => ?_⟩
        have q0 : FrQ K H7 z1 0 := .of h7
        refine ⟨dq y.2, dq 0, (f6.same s7).dp, q0.dp, rfl, rfl, _, rfl, ?_⟩
        rw [eqv_dq]
        have B7 := B6.same s7
        have hf7 := s7 _ _ hf6
        have G7 := G6.same s7
        have F07 := F06.trans (.of s7)
        refine ite2 (fun cz => ?_) (fun cz => ?_)
        · have y0 : y.2 = 0 := of_decide_eq_true cz
          refine ⟨_, rfl, rfl, _, rfl, ite2 (fun cw => ?_) (fun cw => ?_)⟩
          · refine ⟨_, rfl, _, rfl, _, _, rfl, rfl, wide_div (b := 3) (by decide) (by decide) (by decide) (by decide), _, _, rfl, rfl, _, rfl, ite2 (fun ct => ?_) (fun ct => ?_)⟩
            · refine ⟨_, rfl, ?_⟩
              refine ⟨_, rfl, _, rfl, _, _, rfl, rfl, _, rfl, _, rfl, lf, 1 + b, rfl, by omega, lt_up (a := 8) (by omega) (by decide), lt_up (a := 8) (by omega) (by decide), fun d H9 s9 n9 h9 => ?_⟩
              refine ⟨rfl, fun u H10 s10 n10 h10 => ?_⟩
              have s810 := s9.trans s10
              have hf10 := s810 _ _ hf7
              refine ⟨u, _, rfl, SqT.of h10, rfl, _, _, rfl, _, _, rfl, _, rfl, _, rfl, f, _, (an : Int), an, rfl, rfl, hf10, by rw [rz_len]; unfold ixN; rw [if_pos (by omega), if_pos (by omega), Int.toNat_natCast], rfl, ?_⟩
              rw [rz_set l an (d, rq lf (1 + b))]
              have pd : Part (rq lf (1 + b)) := Part.rq lf0 (by omega) (by omega) (by omega)
              have G10 := G7.same s810
              have fd : FrQ K H10 d (rq lf (1 + b)) := h9.same s10
              have ps : ∀ z ∈ l.set an (d, rq lf (1 + b)), Part z.2 := fun z hz => by
                rcases mem_set hz with h | h
                · exact G.pa z h
                · rw [h]
                  exact pd
              have fs : FL K H10 (l.set an (d, rq lf (1 + b))) := fun z hz => by
                rcases mem_set hz with h | h
                · exact G10.fl z h
                · rw [h]
                  exact fd
              have eq := goes_sum (d := d) ga y0 (inv w3) lf0 (Int.le_refl lf) lf1 (by omega)
              refine ⟨lf - lf, f, l.set an (d, rq lf (1 + b)), _, _, _, _, _, _, rfl, upd_same, nf, fp, ⟨fs.put hf10, by rw [List.length_set, G.len], ps, eq.2⟩, by omega, by omega, fun _ => eq.1, ((B7.same s810).upd fp).mono (by omega), (F07.trans (.of s810)).put' nf⟩
            · refine ⟨_, rfl, _, rfl, _, _, rfl, rfl, p, lf + 1, n + 2 + 6 * i + 1, rfl, B7, by omega, by omega, by omega, fun tp H8 tp0 tp1 B8 F8 => ?_⟩
              have F08 := F07.trans F8
              have hf8 := F8 _ _ fp hf7
              have G8 := G7.fr B7 F8
              have tpl : tp ≤ lf := by omega
              refine ⟨_, rfl, _, rfl, _, _, rfl, rfl, _, rfl, _, rfl, tp, 1 + b, rfl, by omega, lt_up (a := 8) (by omega) (by decide), lt_up (a := 8) (by omega) (by decide), fun d H9 s9 n9 h9 => ?_⟩
              refine ⟨rfl, fun u H10 s10 n10 h10 => ?_⟩
              have s810 := s9.trans s10
              have hf10 := s810 _ _ hf8
              refine ⟨u, _, rfl, SqT.of h10, rfl, _, _, rfl, _, _, rfl, _, rfl, _, rfl, f, _, (an : Int), an, rfl, rfl, hf10, by rw [rz_len]; unfold ixN; rw [if_pos (by omega), if_pos (by omega), Int.toNat_natCast], rfl, ?_⟩
              rw [rz_set l an (d, rq tp (1 + b))]
              have pd : Part (rq tp (1 + b)) := Part.rq tp0 (by omega) (by omega) (by omega)
              have G10 := G8.same s810
              have fd : FrQ K H10 d (rq tp (1 + b)) := h9.same s10
              have ps : ∀ z ∈ l.set an (d, rq tp (1 + b)), Part z.2 := fun z hz => by
                rcases mem_set hz with h | h
                · exact G.pa z h
                · rw [h]
                  exact pd
              have fs : FL K H10 (l.set an (d, rq tp (1 + b))) := fun z hz => by
                rcases mem_set hz with h | h
                · exact G10.fl z h
                · rw [h]
                  exact fd
              have eq := goes_sum (d := d) ga y0 (inv w3) tp0 tpl lf1 (by omega)
              refine ⟨lf - tp, f, l.set an (d, rq tp (1 + b)), _, _, _, _, _, _, rfl, upd_same, nf, fp, ⟨fs.put hf10, by rw [List.length_set, G.len], ps, eq.2⟩, by omega, by omega, fun _ => eq.1, ((B8.same s810).upd fp).mono (by omega), (F08.trans (.of s810)).put' nf⟩
          · refine ⟨_, rfl, _, rfl, _, _, rfl, rfl, p, lf + 1, n + 2 + 6 * i + 1, rfl, B7, by omega, by omega, by omega, fun tp H8 tp0 tp1 B8 F8 => ?_⟩
            have F08 := F07.trans F8
            have hf8 := F8 _ _ fp hf7
            have G8 := G7.fr B7 F8
            have tpl : tp ≤ lf := by omega
            refine ⟨_, rfl, _, rfl, _, _, rfl, rfl, _, rfl, _, rfl, tp, 1 + b, rfl, by omega, lt_up (a := 8) (by omega) (by decide), lt_up (a := 8) (by omega) (by decide), fun d H9 s9 n9 h9 => ?_⟩
            refine ⟨rfl, fun u H10 s10 n10 h10 => ?_⟩
            have s810 := s9.trans s10
            have hf10 := s810 _ _ hf8
            refine ⟨u, _, rfl, SqT.of h10, rfl, _, _, rfl, _, _, rfl, _, rfl, _, rfl, f, _, (an : Int), an, rfl, rfl, hf10, by rw [rz_len]; unfold ixN; rw [if_pos (by omega), if_pos (by omega), Int.toNat_natCast], rfl, ?_⟩
            rw [rz_set l an (d, rq tp (1 + b))]
            have pd : Part (rq tp (1 + b)) := Part.rq tp0 (by omega) (by omega) (by omega)
            have G10 := G8.same s810
            have fd : FrQ K H10 d (rq tp (1 + b)) := h9.same s10
            have ps : ∀ z ∈ l.set an (d, rq tp (1 + b)), Part z.2 := fun z hz => by
              rcases mem_set hz with h | h
              · exact G.pa z h
              · rw [h]
                exact pd
            have fs : FL K H10 (l.set an (d, rq tp (1 + b))) := fun z hz => by
              rcases mem_set hz with h | h
              · exact G10.fl z h
              · rw [h]
                exact fd
            have eq := goes_sum (d := d) ga y0 (inv w3) tp0 tpl lf1 (by omega)
            refine ⟨lf - tp, f, l.set an (d, rq tp (1 + b)), _, _, _, _, _, _, rfl, upd_same, nf, fp, ⟨fs.put hf10, by rw [List.length_set, G.len], ps, eq.2⟩, by omega, by omega, fun _ => eq.1, ((B8.same s810).upd fp).mono (by omega), (F08.trans (.of s810)).put' nf⟩
        · exact ⟨lf, f, l, _, _, _, _, _, _, rfl, hf7, nf, fp, G7, lf0, lf1, inv, B7.mono (by omega), F07⟩
    · rintro σ H0 ⟨lf, f, l, v6, v7, v8, v9, v10, v11, rfl, hf, nf, fp, G, lf0, lf1, inv, B, F⟩
      refine ⟨_, rfl, f, _, rfl, .inl ⟨SqL.of hf, fun g ng => ?_⟩⟩
      have sg : Same H0 (upd H0 g (.tup (rz l))) := same_new ng
      have Gg := G.same sg
      exact q g l _ upd_same Gg.fl G.len G.pa G.one ((B.same sg).mono (by omega)) (F.trans (.of sg))

end
end KR
namespace KR
open PySem PySem.Spec PyProof.Rows L2
section
variable {P : Program} {w : World} {K : PySem.W.Frag} {mg : Str → Option Value} {base : Heap}
def sp_l_kinds (K : PySem.W.Frag) : Sp := fun vs H Q _ => ∃ (p : Addr) (k n : Nat), vs = [.ref p, .int (k : Int)] ∧ BoxAt H p n ∧ n ≤ 999990000 ∧ 1 ≤ k ∧ k ≤ 6 ∧ ∀ (f : Addr) (ks : List Kn) (H' : Hp), H' f = some (.lst (rk ks)) → KnL K H' k ks → ks.length = k → BoxAt H' p (n + 300) → Fr p H H' → f ≠ p → H f = none → Q (.ref f) H'
theorem ok_l_kinds (T : All K mg) : FnOk P w K mg base CX0 5 T.f_l_kinds T.fd_l_kinds ["_law_box_here", "_law_many"] (sp_l_kinds K) := by
  refine T.d_l_kinds.fn.ok sc_l_kinds (fun vs H Q E h => ?_) (fun cdv A outer s H vs Q E hr h => ?_)
  · obtain ⟨p, k, n, rfl, _⟩ := h
    rfl
  · obtain ⟨p, k, n, rfl, hB, hn, k1, k6, q⟩ := h
    refine ⟨_, (pss_cons (ps_set (i := 2) sc_l_kinds.nd rfl (by first | exact Or.inl rfl | exact Or.inr rfl) (pe_lstI pa_nil))
      (pss_cons (ps_for PassesOwn.never rfl (pi_range1 (by rfl) T.b_range (pa_cons (pv 1) pa_nil)) (pg_name (i := 3) sc_l_kinds.nd rfl (by first | exact Or.inl rfl | exact Or.inr rfl)) (pss_cons (ps_par (i := 4) (j := 5) (by rfl) sc_l_kinds.nd rfl rfl (by decide) rfl rfl (pa_cons (pe_call (ok_l_take T) (hr.mono (by decide)) (by rfl) T.d_l_take.mg T.d_l_take.fn.kp T.d_l_take.b .nil pass0 (pa_cons (pv 0) (pa_cons (pe_ix (ixL (K := K) rfl) (pe_lstI (pa_cons pe_int (pa_cons pe_int (pa_cons (pe_op op_add (pe_op op_pow pe_int pe_int) pe_int) pa_nil)))) (pe_call (ok_l_take T) (hr.mono (by decide)) (by rfl) T.d_l_take.mg T.d_l_take.fn.kp T.d_l_take.b .nil pass0 (pa_cons (pv 0) (pa_cons pe_int pa_nil))) (fun _ _ => rfl)) pa_nil))) (pa_cons (pe_op op_add pe_int (pe_call (ok_l_take T) (hr.mono (by decide)) (by rfl) T.d_l_take.mg T.d_l_take.fn.kp T.d_l_take.b .nil pass0 (pa_cons (pv 0) (pa_cons pe_int pa_nil)))) pa_nil)) (by rfl))
      (pss_cons (ps_set (i := 6) sc_l_kinds.nd rfl (by first | exact Or.inl rfl | exact Or.inr rfl) (pe_ix (ixL (K := K) rfl) (pe_lstI (pa_cons (pe_tupI (pa_cons pe_int (pa_cons pe_int pa_nil))) (pa_cons (pe_tupI (pa_cons pe_int (pa_cons pe_int pa_nil))) (pa_cons (pe_call (ok_l_low T) (hr.mono (by decide)) (by rfl) T.d_l_low.mg T.d_l_low.fn.kp T.d_l_low.b .nil pass0 (pa_cons (pe_call (ok_l_take T) (hr.mono (by decide)) (by rfl) T.d_l_take.mg T.d_l_take.fn.kp T.d_l_take.b .nil pass0 (pa_cons (pv 0) (pa_cons (pe_op op_add (pv 5) pe_int) pa_nil))) (pa_cons (pv 5) pa_nil))) pa_nil)))) (pe_callB (call_min2 rfl) (by rfl) T.b_min (by decide +kernel) (pa_cons pe_int (pa_cons (pe_call (ok_l_take T) (hr.mono (by decide)) (by rfl) T.d_l_take.mg T.d_l_take.fn.kp T.d_l_take.b .nil pass0 (pa_cons (pv 0) (pa_cons pe_int pa_nil))) pa_nil))) (fun _ _ => rfl)))
      (pss_one (ps_expr (pe_bm PySem.F.plainAttrs_list PySem.F.slot_list_append PySem.F.type_list_append mt_append (pv 2) (pa_cons (pe_tupI (pa_cons (pv 4) (pa_cons (pv 6) (pa_cons (pe_call (ok_l_goes T) hr (by rfl) T.d_l_goes.mg T.d_l_goes.fn.kp T.d_l_goes.b .nil pass0 (pa_cons (pv 0) (pa_cons (pv 1) pa_nil))) pa_nil)))) pa_nil)))))))
      (pss_one (ps_ret (pv 2))))), ?_⟩
    refine ⟨rfl, fun f H1 s1 n1 h1 => ?_⟩
    have fp : f ≠ p := hB.new n1
    refine ⟨_, rfl, k, rfl, by omega, by omega, for_range (lo := 0) (n := k) (fun i σ H' => ∃ (ks : List Kn) (v3 v4 v5 v6 : Option V), σ = [some (.ref p), some (.int (k : Int)), some (.ref f), v3, v4, v5, v6] ∧ H' f = some (.lst (rk ks)) ∧ KnL K H' k ks ∧ ks.length = i ∧ BoxAt H' p (n + 45 * i) ∧ Fr p H H')
      ⟨[], none, none, none, none, rfl, h1, fun z hz => absurd hz List.not_mem_nil, rfl, hB.same s1, .of s1⟩ ?_ ?_⟩
    · rintro i σ H0 hi ⟨ks, v3, v4, v5, v6, rfl, hf, L, len, B, F⟩
      refine ⟨_, rfl, _, _, rfl, rfl, ⟨by decide, by decide, by decide⟩, _, _, rfl, rfl, rfl, fun l1 H2 s2 n2 h2 => ?_⟩
      have B2 := B.same s2
      have l1p : l1 ≠ p := B.new n2
      refine ⟨_, rfl, p, 3, n + 45 * i, rfl, B2, by omega, by decide, by decide, fun w H3 w0 w1 B3 F3 => ?_⟩
      obtain ⟨m, em, m0, m1⟩ : ∃ m : Int, atI ([.int 3, .int 100, .int (10 ^ (6 : Int).toNat + 1)] : List V) w = some (.int m) ∧ 0 < m ∧ m ≤ 1000001 := by
        have ws : w = 0 ∨ w = 1 ∨ w = 2 := by omega
        rcases ws with e | e | e <;> subst e
        · exact ⟨_, rfl, by decide, by decide⟩
        · exact ⟨_, rfl, by decide, by decide⟩
        · exact ⟨_, rfl, by decide, by decide⟩
      refine ⟨l1, _, w, _, rfl, rfl, SqL.of (F3 _ _ l1p h2), em, p, m, n + 45 * i + 1, rfl, B3, by omega, m0, by omega, fun fr H4 fr0 fr1 B4 F4 => ?_⟩
      refine ⟨_, rfl, p, 12, n + 45 * i + 2, rfl, B4, by omega, by decide, by decide, fun b H5 b0 b1 B5 F5 => ?_⟩
      refine ⟨_, _, rfl, rfl, _, _, rfl, ?_⟩
      have F25 : Fr p H2 H5 := F3.trans (F4.trans F5)
      refine ⟨rfl, fun t1 H6 s6 n6 h6 => ⟨rfl, fun t2 H7 s7 n7 h7 => ?_⟩⟩
      have B7 := (B5.same s6).same s7
      refine ⟨_, rfl, _, rfl, _, _, rfl, rfl, p, 1 + b + 1, n + 45 * i + 3, rfl, B7, by omega, by omega, by omega, fun t H8 t0 t4 B8 F8 => ?_⟩
      refine ⟨_, rfl, t, 1 + b, rfl, by omega, lt_up (a := 8) (by omega) (by decide), lt_up (a := 8) (by omega) (by decide), fun t3 H9 s9 n9 h9 => ⟨rfl, fun l2 H10 s10 n10 h10 => ?_⟩⟩
      have B10 := (B8.same s9).same s10
      have l2p : l2 ≠ p := (B8.same s9).new n10
      refine ⟨_, rfl, p, 6, n + 45 * i + 4, rfl, B10, by omega, by decide, by decide, fun z H11 z0 z6 B11 F11 => ?_⟩
      refine ⟨_, _, rfl, ?_⟩
      have s910 := s9.trans s10
      have F8' : Fr p H7 H11 := F8.trans ((Fr.of s910).trans F11)
      have pick : ∃ (d : Addr) (r : Rat), atI [V.ref t1, V.ref t2, V.ref t3] (if z < 2 then z else 2) = some (.ref d) ∧ FrQ K H11 d r ∧ Part r := by
        have f1 : FrQ K H11 t1 1 := FrQ.fr (.of (s7 _ _ h6)) B7 F8'
        have f2 : FrQ K H11 t2 0 := FrQ.fr (.of h7) B7 F8'
        have f3 : FrQ K H11 t3 (rq t (1 + b)) := FrQ.fr (h9.same s10) B10 F11
        have zs : z = 0 ∨ z = 1 ∨ ¬ z < 2 := by omega
        rcases zs with e | e | e
        · subst e
          exact ⟨t1, 1, rfl, f1, ⟨by decide, by decide, by decide⟩⟩
        · subst e
          exact ⟨t2, 0, rfl, f2, Part.zero⟩
        · rw [if_neg e]
          exact ⟨t3, _, rfl, f3, Part.rq t0 (by omega) (by omega) (by omega)⟩
      obtain ⟨d, r, ed, hd, pr⟩ := pick
      refine ⟨l2, _, _, _, rfl, rfl, SqL.of (F11 _ _ l2p h10), ed, ?_⟩
      have F011 : Fr p H0 H11 := (Fr.of s2).trans (F25.trans ((Fr.of (s6.trans s7)).trans F8'))
      have hf11 := F011 _ _ fp hf
      refine ⟨_, rfl, .inl ⟨rfl, _, SqL.of hf11⟩, _, rfl, _, rfl, _, rfl, _, rfl, p, k, n + 45 * i + 5, rfl, B11, by omega, k1, k6, fun g l H12 hg fl gl pa one B12 F12 => ?_⟩
      refine ⟨rfl, fun a H13 s13 n13 h13 => ?_⟩
      have F013 : Fr p H0 H13 := (F011.trans F12).trans (.of s13)
      have hf13 := F013 _ _ fp hf
      refine ⟨f, _, _, rfl, rfl, hf13, by rw [rk_len]; exact small' (by omega), ?_⟩
      have ok : KnOk K H13 k ⟨a, d, g, fr, r, l⟩ := ⟨SqT.of h13, (hd.fr B11 F12).same s13, SqT.of (s13 _ _ hg), ⟨fl.same s13, gl, pa, one⟩, pr, fr0, by show fr ≤ 1000000; omega⟩
      have nf : H f = none := n1
      refine ⟨ks ++ [⟨a, d, g, fr, r, l⟩], _, _, _, _, rfl, ?_, fun y hy => ?_, by rw [List.length_append, len] <;> rfl, ((B12.same s13).upd fp).mono (by omega), (F.trans F013).put' nf⟩
      · rw [upd_same]
        unfold rk
        rw [List.map_append] <;> rfl
      · rcases List.mem_append.mp hy with h | h
        · exact ((L y h).fr B F013).put hf13
        · rw [List.mem_singleton.mp h]
          exact ok.put hf13
    · rintro σ H0 ⟨ks, v3, v4, v5, v6, rfl, hf, L, len, B, F⟩
      exact ⟨_, rfl, q f ks H0 hf L len (B.mono (by omega)) F fp n1⟩

end
end KR
namespace KR
open PySem PySem.Spec PyProof.Rows L2
section
variable {P : Program} {w : World} {K : PySem.W.Frag} {mg : Str → Option Value} {base : Heap}
def sp_l_amounts (K : PySem.W.Frag) : Sp := fun vs H Q _ => ∃ (p : Addr) (k n : Nat) (st : Int), vs = [.ref p, .int (k : Int), .int st] ∧ BoxAt H p n ∧ n ≤ 999990000 ∧ 1 ≤ k ∧ k ≤ 6 ∧ 1 ≤ st ∧ st ≤ 2 ∧ ∀ (f : Addr) (l : List Fz) (H' : Hp), H' f = some (.lst (rz l)) → FL K H' l → l.length = k → (∀ z ∈ l, AmS z.2) → BoxAt H' p (n + 100) → Fr p H H' → f ≠ p → H f = none → Q (.ref f) H'
theorem ok_l_amounts (T : All K mg) : FnOk P w K mg base CX0 2 T.f_l_amounts T.fd_l_amounts ["_law_box_here", "_law_many", "_law_sorts"] (sp_l_amounts K) := by
  refine T.d_l_amounts.fn.ok sc_l_amounts (fun vs H Q E h => ?_) (fun cdv A outer s H vs Q E hr h => ?_)
  · obtain ⟨p, k, n, st, rfl, _⟩ := h
    rfl
  · obtain ⟨p, k, n, st, rfl, hB, hn, k1, k6, st1, st2, q⟩ := h
    refine ⟨_, (pss_cons (ps_set (i := 3) sc_l_amounts.nd rfl (by first | exact Or.inl rfl | exact Or.inr rfl) (pe_lstI pa_nil))
      (pss_cons (ps_for PassesOwn.never rfl (pi_range1 (by rfl) T.b_range (pa_cons (pv 1) pa_nil)) (pg_name (i := 4) sc_l_amounts.nd rfl (by first | exact Or.inl rfl | exact Or.inr rfl)) (pss_cons (ps_set (i := 5) sc_l_amounts.nd rfl (by first | exact Or.inl rfl | exact Or.inr rfl) (pe_call (ok_l_take T) hr (by rfl) T.d_l_take.mg T.d_l_take.fn.kp T.d_l_take.b .nil pass0 (pa_cons (pv 0) (pa_cons (pe_ix (ixL (K := K) rfl) (pe_lstI (pa_cons pe_int (pa_cons pe_int (pa_cons (pe_op op_pow pe_int pe_int) pa_nil)))) (pe_call (ok_l_take T) hr (by rfl) T.d_l_take.mg T.d_l_take.fn.kp T.d_l_take.b .nil pass0 (pa_cons (pv 0) (pa_cons (pv 2) pa_nil))) (fun _ _ => rfl)) pa_nil))))
      (pss_one (ps_expr (pe_bm PySem.F.plainAttrs_list PySem.F.slot_list_append PySem.F.type_list_append mt_append (pv 3) (pa_cons (pe_call (ok_l_low T) hr (by rfl) T.d_l_low.mg T.d_l_low.fn.kp T.d_l_low.b .nil pass0 (pa_cons (pv 5) (pa_cons (pe_op op_add pe_int (pe_call (ok_l_take T) hr (by rfl) T.d_l_take.mg T.d_l_take.fn.kp T.d_l_take.b .nil pass0 (pa_cons (pv 0) (pa_cons (pe_ix (ixL (K := K) rfl) (pe_lstI (pa_cons pe_int (pa_cons pe_int (pa_cons (pe_op op_sub (pe_op op_pow pe_int pe_int) pe_int) pa_nil)))) (pe_call (ok_l_take T) hr (by rfl) T.d_l_take.mg T.d_l_take.fn.kp T.d_l_take.b .nil pass0 (pa_cons (pv 0) (pa_cons (pv 2) pa_nil))) (fun _ _ => rfl)) pa_nil)))) pa_nil))) pa_nil))))))
      (pss_one (ps_ret (pv 3))))), ?_⟩
    refine ⟨rfl, fun f H1 s1 n1 h1 => ?_⟩
    have fp : f ≠ p := hB.new n1
    refine ⟨_, rfl, k, rfl, by omega, by omega, for_range (lo := 0) (n := k) (fun i σ H' => ∃ (l : List Fz) (v4 v5 : Option V), σ = [some (.ref p), some (.int (k : Int)), some (.int st), some (.ref f), v4, v5] ∧ H' f = some (.lst (rz l)) ∧ FL K H' l ∧ (∀ z ∈ l, AmS z.2) ∧ l.length = i ∧ BoxAt H' p (n + 16 * i) ∧ Fr p H H')
      ⟨[], none, none, rfl, h1, .nil, fun z hz => absurd hz List.not_mem_nil, rfl, hB.same s1, .of s1⟩ ?_ ?_⟩
    · rintro i σ H0 hi ⟨l, v4, v5, rfl, hf, L, am, len, B, F⟩
      refine ⟨_, rfl, _, _, rfl, rfl, ⟨by decide, by decide, by decide⟩, rfl, fun l1 H2 s2 n2 h2 => ?_⟩
      have B2 := B.same s2
      have l1p : l1 ≠ p := B.new n2
      refine ⟨_, rfl, _, rfl, p, st, n + 16 * i, rfl, B2, by omega, by omega, by omega, fun w H3 w0 w1 B3 F3 => ?_⟩
      obtain ⟨m, em, m0, m1⟩ : ∃ m : Int, atI ([.int 2, .int 1000, .int (10 ^ (40 : Int).toNat)] : List V) w = some (.int m) ∧ 0 < m ∧ m ≤ 1000 := by
        have ws : w = 0 ∨ w = 1 := by omega
        rcases ws with e | e <;> subst e
        · exact ⟨_, rfl, by decide, by decide⟩
        · exact ⟨_, rfl, by decide, by decide⟩
      refine ⟨l1, _, w, _, rfl, rfl, SqL.of (F3 _ _ l1p h2), em, p, m, n + 16 * i + 1, rfl, B3, by omega, m0, by omega, fun tp H4 tp0 tp1 B4 F4 => ?_⟩
      have F24 : Fr p H0 H4 := (Fr.of s2).trans (F3.trans F4)
      have hf4 := F24 _ _ fp hf
      refine ⟨_, rfl, .inl ⟨rfl, _, SqL.of hf4⟩, _, rfl, _, rfl, _, _, rfl, rfl, ⟨by decide, by decide, by decide⟩, _, _, rfl, rfl, rfl, fun l2 H5 s5 n5 h5 => ?_⟩
      have B5 := B4.same s5
      have l2p : l2 ≠ p := B4.new n5
      refine ⟨_, rfl, _, rfl, p, st, n + 16 * i + 2, rfl, B5, by omega, by omega, by omega, fun x H6 x0 x1 B6 F6 => ?_⟩
      obtain ⟨m', em', m0', m1'⟩ : ∃ m : Int, atI ([.int 1, .int 60, .int (10 ^ (40 : Int).toNat - 1)] : List V) x = some (.int m) ∧ 0 < m ∧ m ≤ 60 := by
        have ws : x = 0 ∨ x = 1 := by omega
        rcases ws with e | e <;> subst e
        · exact ⟨_, rfl, by decide, by decide⟩
        · exact ⟨_, rfl, by decide, by decide⟩
      refine ⟨l2, _, x, _, rfl, rfl, SqL.of (F6 _ _ l2p h5), em', p, m', n + 16 * i + 3, rfl, B6, by omega, m0', by omega, fun y H7 y0 y1 B7 F7 => ?_⟩
      refine ⟨_, _, rfl, rfl, tp, 1 + y, rfl, by omega, lt_up (b133 (by omega)) (by decide), lt_up (b133 (by omega)) (by decide), fun d H8 s8 n8 h8 => ?_⟩
      have F08 : Fr p H0 H8 := F24.trans ((Fr.of s5).trans (F6.trans (F7.trans (.of s8))))
      have hf8 := F08 _ _ fp hf
      refine ⟨f, _, _, rfl, rfl, hf8, by rw [rz_len]; exact small' (by omega), ?_⟩
      have nf : H f = none := n1
      refine ⟨l ++ [(d, rq tp (1 + y))], _, _, rfl, by rw [upd_same, rz_snoc], ?_, fun z hz => ?_, by rw [List.length_append, len] <;> rfl, ((B7.same s8).upd fp).mono (by omega), (F.trans F08).put' nf⟩
      · exact FL.put (FL.snoc (L.fr B F08) h8) hf8
      · rcases List.mem_append.mp hz with h | h
        · exact am z h
        · rw [List.mem_singleton.mp h]
          exact AmS.rq tp0 (by omega) (by omega) (by omega)
    · rintro σ H0 ⟨l, v4, v5, rfl, hf, L, am, len, B, F⟩
      exact ⟨_, rfl, q f l H0 hf L len am (B.mono (by omega)) F fp n1⟩

end
end KR
namespace KR
open PySem PySem.Spec PyProof.Rows L2
section
variable {P : Program} {w : World} {K : PySem.W.Frag} {mg : Str → Option Value} {base : Heap}
def sp_l_strays (K : PySem.W.Frag) : Sp := fun vs H Q _ => ∃ (ra pl : Addr) (l : List Fz) (ps : List Nat), vs = [.ref ra, .ref pl] ∧ SqT K H ra (rz l) ∧ FL K H l ∧ l.length ≤ 6 ∧ H pl = some (.lst (ri ps)) ∧
  ∀ (f : Addr) (H' : Hp), Same H H' → H' f = some (.lst (ri (psF (strayP (fun j => (l.map (·.2)).getD j 0) ps) l.length))) → Q (.ref f) H'
theorem ok_l_strays (T : All K mg) : FnOk P w K mg base CX0 1 T.f_l_strays T.fd_l_strays ["_law_row", "_law_places"] (sp_l_strays K) := by
  refine T.d_l_strays.fn.ok sc_l_strays (fun vs H Q E h => ?_) (fun cdv A outer s H vs Q E hr h => ?_)
  · obtain ⟨ra, pl, l, ps, rfl, _⟩ := h
    rfl
  · obtain ⟨ra, pl, l, ps, rfl, hl, fl, l6, hp, q⟩ := h
    refine ⟨_, (pss_one (ps_ret (pe_lc (own := [("_law_k", 2), ("_law_one", 3)]) (g := gTup K 2 (gCons (gName 2) (gCons (gName 3) gNil))) (by rfl) sc_l_strays.nd (pi_enumB (K := K) rfl (by rfl) T.b_enumerate (pa_cons (pv 0) pa_nil)) (blkOk_by (own := [("_law_k", 2), ("_law_one", 3)]) (N := ["_law_row", "_law_places", "_law_k", "_law_one"]) (sc := defScope s_l_strays) (by decide +kernel)) (fun _ _ _ _ _ => (pg_tupK (K := K) rfl rfl (pgs_cons (pg_name (i := 2) sc_l_strays.nd rfl (by first | exact Or.inl rfl | exact Or.inr rfl)) (pgs_cons (pg_name (i := 3) sc_l_strays.nd rfl (by first | exact Or.inl rfl | exact Or.inr rfl)) pgs_nil)))) (fun _ _ _ _ _ => (pts_one (PW.pt (pw_and (pt_cmpR (neDK (K := K) rfl hr.units) (pv 3) (pe_tupI (pa_cons pe_int (pa_cons pe_int pa_nil))) (nomark _)) (pw_and1 (pt_cmpR (notInQ (K := K) rfl) (pv 2) (pv 1) (by with_unfolding_all rfl))))))) (fun _ _ _ _ _ => (pv 2))))), ?_⟩
    refine ⟨_, rfl, ra, rz l, false, rfl, hl, fun D hD => ?_⟩
    refine lc_it (walk_enumB (K := K) (a := ra) (xs := rz l) (p := false)) (fun j H' => Same H H' ∧ H' D = some (.lst (ri (psF (strayP (fun j => (l.map (·.2)).getD j 0) ps) j))))
      ⟨same_new hD, upd_same⟩ (fun j H' _ z => Same.tup z.1 hl) ?_ ?_
    · rintro j v H2 H3 hj ⟨s2, hD2⟩ ⟨T0, x0, y0, rfl, hT, rfl, e0, ex⟩
      obtain rfl := Option.some.inj e0
      obtain ⟨z, ez, rfl⟩ := rz_get ex
      have sT : Same H2 (upd H2 T0 (.tup [.int (j : Nat), .ref z.1])) := same_new hT
      have hT3 : (upd H2 T0 (.tup [.int (j : Nat), .ref z.1])) T0 = some (.tup [.int (j : Nat), .ref z.1]) := upd_same
      generalize upd H2 T0 (.tup [.int (j : Nat), .ref z.1]) = H3 at sT hT3
      have s3 := s2.trans sT
      have hD3 := sT _ _ hD2
      have fz := (fl z (List.mem_of_getElem? ez)).same s3
      have vz : (fun j => (l.map (·.2)).getD j 0) j = z.2 := by
        show (l.map (·.2)).getD j 0 = z.2
        rw [List.getD_eq_getElem?_getD, rz_q ez] <;> rfl
      have pl6 := psF_le (strayP (fun j => (l.map (·.2)).getD j 0) ps) j
      rw [rz_len] at hj
      refine ⟨T0, _, rfl, SqT.of hT3, rfl, _, _, rfl, _, _, rfl, rfl, rfl, ?_⟩
      refine ⟨_, rfl, rfl, fun t H5 s5 n5 h5 => ⟨_, _, (fz.same s5).dp, (FrQ.of (q := 0) h5).dp, rfl, rfl, _, rfl, ?_⟩⟩
      rw [eqv_dq z.2 0]
      have hD5 := s5 _ _ hD3
      have s05 := s3.trans s5
      by_cases c : z.2 = 0
      · refine ite_bF (by rw [decide_eq_true c] <;> rfl) (iteF ⟨s05, ?_⟩)
        rw [hD5, psF_step, if_neg]
        unfold strayP
        rw [vz, decide_eq_true c, Bool.not_true, Bool.false_and]
        decide
      · refine ite_bT (by rw [decide_eq_false c] <;> rfl) ?_
        refine ⟨_, rfl, _, rfl, pl, _, rfl, .inl (SqL.of (s05 _ _ hp)), rfl, flat_ri _, _, rfl, ?_⟩
        rw [if_pos rfl, inV_ri]
        by_cases m : j ∈ ps
        · refine ite_bF (by rw [decide_eq_true m] <;> rfl) ⟨s05, ?_⟩
          rw [hD5, psF_step, if_neg]
          unfold strayP
          rw [decide_eq_true m, Bool.not_true, Bool.and_false]
          decide
        · refine ite_bT (by rw [decide_eq_false m] <;> rfl) ?_
          refine ⟨_, rfl, _, hD5, by rw [ri_len]; exact small' (by omega), Same.put s05 hD, ?_⟩
          rw [upd_same, psF_step, if_pos, ri_snoc]
          unfold strayP
          rw [vz, decide_eq_false c, decide_eq_false m] <;> rfl
    · rintro H4 ⟨s4, hD4⟩
      rw [rz_len] at hD4
      exact q D H4 s4 hD4

end
end KR
namespace KR
open PySem PySem.Spec PyProof.Rows L2
section
variable {P : Program} {w : World} {K : PySem.W.Frag} {mg : Str → Option Value} {base : Heap}
def sp_l_lossless (K : PySem.W.Frag) : Sp := fun vs H Q _ => ∃ (kl : Addr) (ks : List Kn), vs = [.ref kl] ∧ H kl = some (.lst (rk ks)) ∧ KnL K H ks.length ks ∧ ks.length ≤ 6 ∧
  ∀ (f : Addr) (P : Nat → Bool) (H' : Hp), Same H H' → H f = none → H' f = some (.lst (ri (psF P ks.length))) → Great (ks.map Kn.q) P → Q (.ref f) H'
theorem ok_l_lossless (T : All K mg) : FnOk P w K mg base CX0 4 T.f_l_lossless T.fd_l_lossless ["_law_kinds_here"] (sp_l_lossless K) := by
  refine T.d_l_lossless.fn.ok sc_l_lossless (fun vs H Q E h => ?_) (fun cdv A outer s H vs Q E hr h => ?_)
  · obtain ⟨kl, ks, rfl, _⟩ := h
    rfl
  · obtain ⟨kl, ks, rfl, hk, L, l6, q⟩ := h
    refine ⟨_, (pss_cons (ps_set (i := 1) sc_l_lossless.nd rfl (by first | exact Or.inl rfl | exact Or.inr rfl) (pe_lstI pa_nil))
      (pss_cons (ps_for PassesOwn.never rfl (pi_range1 (by rfl) T.b_range (pa_cons (pe_op op_oneShl pe_int (pe_callB (lenQ (K := K) rfl) (by rfl) T.b_len PySem.boot_len (pa_cons (pv 0) pa_nil))) pa_nil)) (pg_name (i := 2) sc_l_lossless.nd rfl (by first | exact Or.inl rfl | exact Or.inr rfl)) (pss_cons (ps_set (i := 3) sc_l_lossless.nd rfl (by first | exact Or.inl rfl | exact Or.inr rfl) (pe_lc (own := [("_law_place", 4)]) (g := gName 4) (by rfl) sc_l_lossless.nd (pi_range1 (by rfl) T.b_range (pa_cons (pe_callB (lenQ (K := K) rfl) (by rfl) T.b_len PySem.boot_len (pa_cons (pv 0) pa_nil)) pa_nil)) (blkOk_by (own := [("_law_place", 4)]) (N := ["_law_kinds_here", "_law_best", "_law_bits", "_law_places", "_law_place", "_law_fine"]) (sc := defScope s_l_lossless) (by decide +kernel)) (fun _ _ _ _ _ => (pg_name (i := 4) sc_l_lossless.nd rfl (by first | exact Or.inl rfl | exact Or.inr rfl))) (fun _ _ _ _ _ => (pts_one (pt_cmpR op_eq (pe_op op_odd (pe_op op_shrN (pv 2) (pv 4)) pe_int) pe_int (nomark _)))) (fun _ _ _ _ _ => (pv 4))))
      (pss_cons (ps_set (i := 5) sc_l_lossless.nd rfl (by first | exact Or.inl rfl | exact Or.inr rfl) (pe_callB (allK (K := K) rfl rfl) (by rfl) T.b_all (by decide +kernel) (pa_cons (pe_lc (own := [("_law_place", 4)]) (g := gName 4) (tt := tYes) (by rfl) sc_l_lossless.nd (pi_listK (K := K) rfl (pv 3)) (blkOk_by (own := [("_law_place", 4)]) (N := ["_law_kinds_here", "_law_best", "_law_bits", "_law_places", "_law_place", "_law_fine"]) (sc := defScope s_l_lossless) (by decide +kernel)) (fun _ _ _ _ _ => (pg_name (i := 4) sc_l_lossless.nd rfl (by first | exact Or.inl rfl | exact Or.inr rfl))) (fun _ _ _ _ _ => pts_nil) (fun _ _ _ _ _ => (pe_and (pe_cmpR (eqDK (K := K) rfl hr.units) (pe_ix (ixT (K := K) rfl) (pe_ix (ixL (K := K) rfl) (pv 0) (pv 4) (fun _ _ => rfl)) pe_int (fun _ _ => rfl)) (pe_tupI (pa_cons pe_int (pa_cons pe_int pa_nil))) (nomark _)) (pe_one (pe_cmpR (eqDK (K := K) rfl hr.units) (pe_call (ok_l_all T) hr (by rfl) T.d_l_all.mg T.d_l_all.fn.kp T.d_l_all.b .nil pass0 (pa_cons (pe_ix (ixT (K := K) rfl) (pe_ix (ixL (K := K) rfl) (pv 0) (pv 4) (fun _ _ => rfl)) pe_int (fun _ _ => rfl)) pa_nil)) (pe_tupI (pa_cons pe_int (pa_cons pe_int pa_nil))) (nomark _)))))) pa_nil)))
      (pss_cons (ps_set (i := 5) sc_l_lossless.nd rfl (by first | exact Or.inl rfl | exact Or.inr rfl) (pe_and (pv 5) (pe_one (pe_callB (allK (K := K) rfl rfl) (by rfl) T.b_all (by decide +kernel) (pa_cons (pe_lc (own := [("_law_place", 4)]) (g := gName 4) (tt := tYes) (by rfl) sc_l_lossless.nd (pi_listK (K := K) rfl (pv 3)) (blkOk_by (own := [("_law_place", 4)]) (N := ["_law_kinds_here", "_law_best", "_law_bits", "_law_places", "_law_place", "_law_fine"]) (sc := defScope s_l_lossless) (by decide +kernel)) (fun _ _ _ _ _ => (pg_name (i := 4) sc_l_lossless.nd rfl (by first | exact Or.inl rfl | exact Or.inr rfl))) (fun _ _ _ _ _ => pts_nil) (fun _ _ _ _ _ => (pe_cmpR (eqDK (K := K) rfl hr.units) (pe_call (ok_l_strays T) (hr.mono (by decide)) (by rfl) T.d_l_strays.mg T.d_l_strays.fn.kp T.d_l_strays.b .nil pass0 (pa_cons (pe_ix (ixT (K := K) rfl) (pe_ix (ixL (K := K) rfl) (pv 0) (pv 4) (fun _ _ => rfl)) pe_int (fun _ _ => rfl)) (pa_cons (pv 3) pa_nil))) (pe_lstI pa_nil) (nomark _)))) pa_nil)))))
      (pss_one (ps_if (PW.pt (pw_and (pt_val (pv 5)) (pw_and1 (pt_cmpR op_gt (pe_callB (lenQ (K := K) rfl) (by rfl) T.b_len PySem.boot_len (pa_cons (pv 3) pa_nil)) (pe_callB (lenQ (K := K) rfl) (by rfl) T.b_len PySem.boot_len (pa_cons (pv 1) pa_nil)) (nomark _))))) (pss_one (ps_set (i := 1) sc_l_lossless.nd rfl (by first | exact Or.inl rfl | exact Or.inr rfl) (pv 3))) pss_nil))))))
      (pss_one (ps_ret (pv 1))))), ?_⟩
    have len : (ks.map Kn.q).length = ks.length := List.length_map _
    refine ⟨rfl, fun f0 H1 s1 n1 h1 => ?_⟩
    refine ⟨_, rfl, kl, _, rfl, .inl (SqL.of (s1 _ _ hk)), ks.length, rfl, by rw [rk_len], by omega, _, rfl, ?_⟩
    have e2 : (2 : Int) ^ ks.length = ((2 ^ ks.length : Nat) : Int) := by rw [Int.natCast_pow] <;> rfl
    have p6 : 2 ^ ks.length ≤ 2 ^ 6 := Nat.pow_le_pow_right (by decide) l6
    rw [e2]
    have p7 : ((2 ^ ks.length : Nat) : Int) ≤ 64 := by
      have : 2 ^ ks.length ≤ 64 := p6
      exact Int.ofNat_le.mpr this
    have p8 : (0 : Int) ≤ ((2 ^ ks.length : Nat) : Int) := Int.natCast_nonneg _
    refine ⟨Int.le_trans (by decide) p8, Int.lt_of_le_of_lt p7 (by decide), for_range (lo := 0) (n := 2 ^ ks.length) (fun b σ H' => ∃ (f : Addr) (P : Nat → Bool) (v2 v3 v4 v5 : Option V), σ = [some (.ref kl), some (.ref f), v2, v3, v4, v5] ∧ Same H H' ∧ H f = none ∧ H' f = some (.lst (ri (psF P ks.length))) ∧ Best (ks.map Kn.q) b P)
      ⟨f0, fun _ => false, none, none, none, none, rfl, s1, n1, by rw [h1, psF_nil.mpr fun _ _ => rfl] <;> rfl, Best.zero _⟩ ?_ ?_⟩
    · rintro b σ H2 hi ⟨f, P, v2, v3, v4, v5, rfl, s2, nf, hf, BP⟩
      rw [Int.zero_add]
      have hk2 := s2 _ _ hk
      have L2' := L.same s2
      refine ⟨_, rfl, kl, _, rfl, .inl (SqL.of hk2), _, rfl, ?_⟩
      rw [rk_len]
      refine ⟨by omega, by omega, fun D hD => ?_⟩
      refine lc_range (lo := 0) (n := ks.length) (fun j H' => Same H2 H' ∧ H' D = some (.lst (ri (psF (bitP b) j)))) ⟨same_new hD, upd_same⟩ (fun j H3 hj z => ?_) (fun H3 z => ?_)
      · obtain ⟨s3, hD3⟩ := z
        rw [Int.zero_add]
        have e3 : (b : Int) / 2 ^ j = ((b / 2 ^ j : Nat) : Int) := by rw [Int.natCast_ediv, Int.natCast_pow] <;> rfl
        have pl := psF_le (bitP b) j
        refine ⟨rfl, ?_⟩
        refine ⟨_, rfl, _, rfl, _, _, rfl, rfl, b / 2 ^ j, by rw [e3], rfl, rfl, _, rfl, ?_⟩
        by_cases c : b / 2 ^ j % 2 = 1
        · refine ite_iT (by omega) ?_
          refine ⟨_, rfl, _, hD3, by rw [ri_len]; exact small' (by omega), Same.put s3 hD, ?_⟩
          rw [upd_same, psF_step, if_pos (show bitP b j = true from decide_eq_true c), ri_snoc]
        · refine ite_iF (by omega) ⟨s3, ?_⟩
          rw [hD3, psF_step, if_neg]
          unfold bitP
          rw [decide_eq_false c]
          decide
      · obtain ⟨s3, hD3⟩ := z
        have s03 := s2.trans s3
        have hk3 := s03 _ _ hk
        have L3 := L.same s03
        have nD := same_none s2 hD
        have hf3 := s3 _ _ hf
        have pl := psF_le (bitP b) ks.length
        have pl0 := psF_le P ks.length
        -- what is told of the test in the end
        have fin : ∀ (De : Ends) (_ : ∀ σ H', (∃ (f : Addr) (P : Nat → Bool) (v2 v3 v4 v5 : Option V), σ = [some (.ref kl), some (.ref f), v2, v3, v4, v5] ∧ Same H H' ∧ H f = none ∧ H' f = some (.lst (ri (psF P ks.length))) ∧ Best (ks.map Kn.q) (b + 1) P) → De.nx σ H') (ok : Bool) (H4 : Hp) (v4 : Option V), Same H3 H4 → (ok = true ↔ Fine (ks.map Kn.q) (bitP b)) → tIfS (tAnd (tB (tVar 5)) (tTest (tOp (rI0 fun i j => V.bl (decide (j < i))) (tCB (rLenQ K) (tCons (tVar 3) tNil)) (tCB (rLenQ K) (tCons (tVar 1) tNil))))) (tAsg (tVar 3) (gName 1)) tNext
            De [some (.ref kl), some (.ref f), some (.int (b : Int)), some (.ref D), v4, some (.bl ok)] H4 := by
          intro De nx ok H4 v4 s4 iff
          have hf4 := s4 _ _ hf3
          have hD4 := s4 _ _ hD3
          refine ⟨_, rfl, _, rfl, ?_⟩
          cases ok with
          | false =>
            refine iteF (iteF ?_)
            exact nx _ _ ⟨f, P, _, _, _, _, rfl, s03.trans s4, nf, hf4, BP.keep fun z => Bool.noConfusion (iff.mpr z)⟩
          | true =>
            refine iteT ?_
            refine ⟨_, rfl, D, _, rfl, .inl (SqL.of hD4), _, rfl, f, _, rfl, .inl (SqL.of hf4), _, _, rfl, rfl, _, rfl, ?_⟩
            rw [ri_len, ri_len]
            by_cases c : (psF P ks.length).length < (psF (bitP b) ks.length).length
            · refine ite_bT (decide_eq_true (by omega)) ?_
              exact ⟨_, rfl, nx _ _ ⟨D, bitP b, _, _, _, _, rfl, s03.trans s4, nD, hD4, BP.more (iff.mp rfl) (by rw [len]; exact c)⟩⟩
            · refine ite_bF (decide_eq_false (by omega)) ?_
              exact nx _ _ ⟨f, P, _, _, _, _, rfl, s03.trans s4, nf, hf4, BP.keep fun _ => by rw [len]; omega⟩
        refine ⟨_, rfl, D, rfl, ⟨_, SqL.of hD3⟩, fun D1 hD1 => ?_⟩
        refine lc_it (walk_list (K := K) (a := D) (xs := ri (psF (bitP b) ks.length))) (fun j H' => Same H3 H' ∧ H' D1 = some (.lst ((((psF (bitP b) ks.length).take j).map (fineA (ks.map Kn.q))).map V.bl)))
          ⟨same_new hD1, upd_same⟩ (fun j H' _ z => SqL.of (z.1 _ _ hD3)) ?_ ?_
        · rintro j v H4 H5 hj ⟨s4, hD4⟩ ⟨rfl, hv⟩
          obtain ⟨i, ei, rfl⟩ := ri_get hv
          have il : i < ks.length := (psF_mem.mp (List.mem_of_getElem? ei)).1
          have ek : ks[i]? = some ks[i] := List.getElem?_eq_getElem il
          generalize ks[i] = k at ek
          have KO := (L3 k (List.mem_of_getElem? ek)).same s4
          have hk4 := s4 _ _ hk3
          rw [ri_len] at hj
          have more : ∀ (g : Bool) (H6 : Hp), Same H5 H6 → g = fineA (ks.map Kn.q) i → ∃ acc, H6 D1 = some (.lst acc) ∧ acc.length < sizeLine ∧ Same H3 (upd H6 D1 (.lst (acc ++ [.bl g]))) ∧ upd H6 D1 (.lst (acc ++ [.bl g])) D1 = some (.lst ((((psF (bitP b) ks.length).take (j + 1)).map (fineA (ks.map Kn.q))).map V.bl)) := fun g H6 s6 eg => by
            refine ⟨_, s6 _ _ hD4, by rw [List.length_map, List.length_map, List.length_take]; exact small' (by omega), Same.put (s4.trans s6) hD1, ?_⟩
            rw [upd_same, take_one ei, List.map_append, List.map_append, eg] <;> rfl
          refine ⟨rfl, yesT ?_⟩
          refine ⟨_, rfl, _, rfl, kl, _, (i : Int), _, rfl, rfl, SqL.of hk4, at_of rfl (rk_at ek), k.a, _, 1, _, rfl, rfl, KO.at_, at1, rfl, fun t H6 s6 n6 h6 => ⟨_, _, (KO.dr.same s6).dp, (FrQ.of (q := 1) h6).dp, rfl, rfl, _, rfl, ?_⟩⟩
          rw [eqv_dq k.drip 1]
          by_cases c : k.drip = 1
          · refine ite_bT (decide_eq_true c) ?_
            have KO6 := KO.same s6
            refine ⟨_, rfl, _, rfl, kl, _, (i : Int), _, rfl, rfl, SqL.of (s6 _ _ hk4), at_of rfl (rk_at ek), k.a, _, 2, _, rfl, rfl, KO6.at_, at2, k.g, k.goes, false, rfl, KO6.gs, KO6.go.fl, fun z hz => part_big (KO6.go.pa z hz), parts_add (mem_q KO6.go.pa) (by rw [List.length_map, KO6.go.len]; omega), fun z H7 s7 h7 => ?_⟩
            refine ⟨rfl, fun t' H8 s8 n8 h8 => ⟨_, _, (h7.same s8).dp, (FrQ.of (q := 1) h8).dp, rfl, rfl, ?_⟩⟩
            rw [eqv_dq (zsum (k.goes.map (·.2))) 1]
            refine more _ H8 (s6.trans (s7.trans s8)) ?_
            unfold fineA
            rw [kn_kd ek, show k.q.drip = 1 from c, decide_eq_true rfl, Bool.true_and] <;> rfl
          · refine ite_bF (decide_eq_false c) ?_
            refine more _ H6 s6 ?_
            unfold fineA
            rw [kn_kd ek, decide_eq_false (show ¬ k.q.drip = 1 from c), Bool.false_and]
        · rintro H4 ⟨s4, hD4⟩
          have et : (psF (bitP b) ks.length).take (ri (psF (bitP b) ks.length)).length = psF (bitP b) ks.length := List.take_of_length_le (by rw [ri_len]; exact Nat.le_refl _)
          rw [et] at hD4
          refine ⟨D1, _, rfl, SqL.of hD4, ?_⟩
          rw [all_map]
          have hD34 := s4 _ _ hD3
          refine ⟨_, rfl, _, rfl, ?_⟩
          have iff := fine_iff (ks.map Kn.q) (bitP b)
          rw [len] at iff
          cases cA : (psF (bitP b) ks.length).all (fineA (ks.map Kn.q)) with
          | false =>
            refine iteF ?_
            rw [cA, Bool.false_and] at iff
            exact fin _ (fun _ _ h => h) false H4 _ s4 iff
          | true =>
            refine iteT ?_
            rw [cA, Bool.true_and] at iff
            refine ⟨_, rfl, D, rfl, ⟨_, SqL.of hD34⟩, fun D2 hD2 => ?_⟩
            refine lc_it (walk_list (K := K) (a := D) (xs := ri (psF (bitP b) ks.length))) (fun j H' => Same H4 H' ∧ H' D2 = some (.lst ((((psF (bitP b) ks.length).take j).map (fineB (ks.map Kn.q) (bitP b))).map V.bl)))
              ⟨same_new hD2, upd_same⟩ (fun j H' _ z => SqL.of (z.1 _ _ hD34)) ?_ ?_
            · rintro j v H5 H6 hj ⟨s5, hD5⟩ ⟨rfl, hv⟩
              obtain ⟨i, ei, rfl⟩ := ri_get hv
              have il : i < ks.length := (psF_mem.mp (List.mem_of_getElem? ei)).1
              have ek : ks[i]? = some ks[i] := List.getElem?_eq_getElem il
              generalize ks[i] = k at ek
              have KO := (L3 k (List.mem_of_getElem? ek)).same (s4.trans s5)
              have hk5 := (s4.trans s5) _ _ hk3
              rw [ri_len] at hj
              refine ⟨rfl, yesT ?_⟩
              refine ⟨_, rfl, _, rfl, kl, _, (i : Int), _, rfl, rfl, SqL.of hk5, at_of rfl (rk_at ek), k.a, _, 2, _, rfl, rfl, KO.at_, at2, _, rfl, k.g, D, k.goes, _, rfl, KO.gs, KO.go.fl, by rw [KO.go.len]; exact l6, s5 _ _ hD34, fun g H7 s7 h7 => ?_⟩
              refine ⟨rfl, fun t H8 s8 n8 h8 => ⟨_, _, ri_dp (SqL.of (s8 _ _ h7)), ri_dp (ps := []) (SqL.of h8), dpi_shaped _, dpi_shaped _, ?_⟩⟩
              rw [dpi_eqv]
              have eb : decide (psF (strayP (fun j => (k.goes.map (·.2)).getD j 0) (psF (bitP b) ks.length)) k.goes.length = []) = fineB (ks.map Kn.q) (bitP b) i := by
                unfold fineB
                rw [kn_kd ek, len, KO.go.len] <;> rfl
              rw [eb]
              have s58 := s7.trans s8
              refine ⟨_, s58 _ _ hD5, by rw [List.length_map, List.length_map, List.length_take]; exact small' (by omega), Same.put (s5.trans s58) hD2, ?_⟩
              rw [upd_same, take_one ei, List.map_append, List.map_append] <;> rfl
            · rintro H5 ⟨s5, hD5⟩
              rw [et] at hD5
              refine ⟨D2, _, rfl, SqL.of hD5, ?_⟩
              rw [all_map]
              exact fin _ (fun _ _ h => h) _ H5 _ (s4.trans s5) iff
    · rintro σ H2 ⟨f, P, v2, v3, v4, v5, rfl, s2, nf, hf, BP⟩
      refine ⟨_, rfl, q f P H2 s2 nf hf (Best.great (ks := ks.map Kn.q) ?_)⟩
      rw [len]
      exact BP

end
end KR
namespace KR
open PySem PySem.Spec PyProof.Rows L2
section
variable {P : Program} {w : World} {K : PySem.W.Frag} {mg : Str → Option Value} {base : Heap}
theorem map_erase {α β : Type} (f : α → β) : ∀ (l : List α) (k : Nat), (l.map f).eraseIdx k = (l.eraseIdx k).map f
  | [], _ => rfl
  | _ :: _, 0 => rfl
  | x :: r, k + 1 => congrArg (f x :: ·) (map_erase f r k)
def wiI (K : PySem.W.Frag) (p fl ol pl : Addr) (k n : Nat) (b : Int) (H : Hp) (m : Nat) (σ : L2.St) (H' : Hp) : Prop :=
  ∃ (lf : Int) (l : List Fz) (os : List Nat) (v7 : Option V), σ = [some (.ref p), some (.int (k : Int)), some (.ref pl), some (.int (1 + b)), some (.ref fl), some (.int lf), some (.ref ol), v7, none, none] ∧ H' fl = some (.lst (rz l)) ∧ H' ol = some (.lst (ri os)) ∧ GoOk K H' k l ∧
    zsum (l.map (·.2)) * ((1 + b : Int) : Rat) = ((1 + b - lf : Int) : Rat) ∧ 0 ≤ lf ∧ lf ≤ 1 + b ∧ os ≠ [] ∧ os.Nodup ∧ (∀ i ∈ os, i < k ∧ ∀ z : Fz, l[i]? = some z → z.2 = 0) ∧ os.length ≤ 6 ∧ BoxAt H' p (n + 1 + 2 * (6 - os.length)) ∧ Fr p H H' ∧ m = os.length
def sp_l_within (K : PySem.W.Frag) : Sp := fun vs H Q _ => ∃ (p : Addr) (k n : Nat) (pl : Addr) (ps : List Nat), vs = [.ref p, .int (k : Int), .ref pl] ∧ BoxAt H p n ∧ n ≤ 999990000 ∧ 1 ≤ k ∧ k ≤ 6 ∧ H pl = some (.lst (ri ps)) ∧ pl ≠ p ∧ ps ≠ [] ∧ ps.Nodup ∧ (∀ i ∈ ps, i < k) ∧ ps.length ≤ 6 ∧
  ∀ (g : Addr) (l : List Fz) (H' : Hp), H' g = some (.tup (rz l)) → GoOk K H' k l → BoxAt H' p (n + 20) → Fr p H H' → Q (.ref g) H'
theorem ok_l_within (T : All K mg) : FnOk P w K mg base CX0 5 T.f_l_within T.fd_l_within ["_law_box_here", "_law_many", "_law_places"] (sp_l_within K) := by
  refine T.d_l_within.fn.ok sc_l_within (fun vs H Q E h => ?_) (fun cdv A outer s H vs Q E hr h => ?_)
  · obtain ⟨p, k, n, pl, ps, rfl, _⟩ := h
    rfl
  · obtain ⟨p, k, n, pl, ps, rfl, hB, hn, k1, k6, hp, plp, ne0, nd, lt, p6, q⟩ := h
    refine ⟨_, (pss_cons (ps_asg (pe_tupI (pa_cons (pe_op op_add pe_int (pe_call (ok_l_take T) (hr.mono (by decide)) (by rfl) T.d_l_take.mg T.d_l_take.fn.kp T.d_l_take.b .nil pass0 (pa_cons (pv 0) (pa_cons pe_int pa_nil)))) (pa_cons (pe_op op_rep (pe_lstI (pa_cons (pe_tupI (pa_cons pe_int (pa_cons pe_int pa_nil))) pa_nil)) (pv 1)) pa_nil))) (pg_tupK (K := K) rfl rfl (pgs_cons (pg_name (i := 3) sc_l_within.nd rfl (by first | exact Or.inl rfl | exact Or.inr rfl)) (pgs_cons (pg_name (i := 4) sc_l_within.nd rfl (by first | exact Or.inl rfl | exact Or.inr rfl)) pgs_nil))))
      (pss_cons (ps_asg (pe_tupI (pa_cons (pv 3) (pa_cons (pe_callTy (listI (K := K) rfl) (by rfl) T.b_list (by decide +kernel) (pa_cons (pv 2) pa_nil)) pa_nil))) (pg_tupK (K := K) rfl rfl (pgs_cons (pg_name (i := 5) sc_l_within.nd rfl (by first | exact Or.inl rfl | exact Or.inr rfl)) (pgs_cons (pg_name (i := 6) sc_l_within.nd rfl (by first | exact Or.inl rfl | exact Or.inr rfl)) pgs_nil))))
      (pss_cons (ps_while PassesOwn.never (pt_cmpR op_gt (pe_callB (lenQ (K := K) rfl) (by rfl) T.b_len PySem.boot_len (pa_cons (pv 6) pa_nil)) pe_int (nomark _)) (pss_cons (ps_set (i := 7) sc_l_within.nd rfl (by first | exact Or.inl rfl | exact Or.inr rfl) (pe_call (ok_l_take T) (hr.mono (by decide)) (by rfl) T.d_l_take.mg T.d_l_take.fn.kp T.d_l_take.b .nil pass0 (pa_cons (pv 0) (pa_cons (pe_op op_add (pv 5) pe_int) pa_nil))))
      (pss_one (ps_asg (pe_tupI (pa_cons (pe_op op_sub (pv 5) (pv 7)) (pa_cons (pe_call (ok_l_low T) (hr.mono (by decide)) (by rfl) T.d_l_low.mg T.d_l_low.fn.kp T.d_l_low.b .nil pass0 (pa_cons (pv 7) (pa_cons (pv 3) pa_nil))) pa_nil))) (pg_tupK (K := K) rfl rfl (pgs_cons (pg_name (i := 5) sc_l_within.nd rfl (by first | exact Or.inl rfl | exact Or.inr rfl)) (pgs_cons (pg_sub (pv 4) (pe_bm PySem.F.plainAttrs_list PySem.F.slot_list_pop PySem.F.type_list_pop mt_popAt (pv 6) (pa_cons (pe_call (ok_l_take T) (hr.mono (by decide)) (by rfl) T.d_l_take.mg T.d_l_take.fn.kp T.d_l_take.b .nil pass0 (pa_cons (pv 0) (pa_cons (pe_callB (lenQ (K := K) rfl) (by rfl) T.b_len PySem.boot_len (pa_cons (pv 6) pa_nil)) pa_nil))) pa_nil)) set_list) pgs_nil)))))))
      (pss_one (ps_ret (pe_callTy call_tuple_of (by rfl) T.b_tuple (by decide +kernel) (pa_cons (pe_lc (own := [("_law_place", 8), ("_law_one", 9)]) (g := gTup K 2 (gCons (gName 8) (gCons (gName 9) gNil))) (tt := tYes) (by rfl) sc_l_within.nd (pi_enumB (K := K) rfl (by rfl) T.b_enumerate (pa_cons (pv 4) pa_nil)) (blkOk_by (own := [("_law_place", 8), ("_law_one", 9)]) (N := ["_law_box_here", "_law_many", "_law_places", "_law_bottom", "_law_found", "_law_left", "_law_order", "_law_top", "_law_place", "_law_one"]) (sc := defScope s_l_within) (by decide +kernel)) (fun _ _ _ _ _ => (pg_tupK (K := K) rfl rfl (pgs_cons (pg_name (i := 8) sc_l_within.nd rfl (by first | exact Or.inl rfl | exact Or.inr rfl)) (pgs_cons (pg_name (i := 9) sc_l_within.nd rfl (by first | exact Or.inl rfl | exact Or.inr rfl)) pgs_nil)))) (fun _ _ _ _ _ => pts_nil) (fun _ _ _ _ _ => (pe_ifExp (pt_cmpR op_eq (pv 8) (pe_ix (ixL (K := K) rfl) (pv 6) pe_int (fun _ _ => rfl)) (nomark _)) (pe_call (ok_l_low T) (hr.mono (by decide)) (by rfl) T.d_l_low.mg T.d_l_low.fn.kp T.d_l_low.b .nil pass0 (pa_cons (pv 5) (pa_cons (pv 3) pa_nil))) (pv 9)))) pa_nil))))))), ?_⟩
    refine ⟨_, rfl, p, 12, n, rfl, hB, by omega, by decide, by decide, fun b H1 b0 b1 B1 F1 => ?_⟩
    refine ⟨_, _, rfl, rfl, rfl, fun t0 H3 s3 n3 h3 => ⟨rfl, fun l0 H4 s4 n4 h4 => ⟨_, rfl, ?_⟩⟩⟩
    refine ⟨l0, (k : Int), _, rfl, rfl, h4, by omega, by omega, by show 1 * _ ≤ _; rw [sizeLine_eq]; omega, fun fl nfl => ?_⟩
    rw [rep_rz k (t0, 0)]
    have s5 : Same H4 (upd H4 fl (.lst (rz (List.replicate k (t0, 0))))) := same_new nfl
    have h5 : (upd H4 fl (.lst (rz (List.replicate k (t0, 0))))) fl = some (.lst (rz (List.replicate k (t0, 0)))) := upd_same
    generalize upd H4 fl (.lst (rz (List.replicate k (t0, 0)))) = H5 at s5 h5
    have s35 := s4.trans s5
    have B5 := (B1.same s3).same s35
    have flp : fl ≠ p := ((B1.same s3).same s4).new nfl
    have F4 : Fr p H H4 := (F1.trans (.of s3)).trans (.of s4)
    have F5 : Fr p H H5 := F4.trans (.of s5)
    have nflH : H fl = none := fr_new F4 nfl flp
    refine ⟨rfl, fun u H6 s6 n6 h6 => ⟨u, _, rfl, SqT.of h6, rfl, _, _, rfl, _, _, rfl, rfl, ?_⟩⟩
    have hp6 := (F5.trans (.of s6)) _ _ plp hp
    refine ⟨_, rfl, _, rfl, pl, _, rfl, .inl (SqL.of hp6), fun ol H7 s7 n7 h7 => ?_⟩
    refine ⟨rfl, fun u2 H8 s8 n8 h8 => ⟨u2, _, rfl, SqT.of h8, rfl, _, _, rfl, _, _, rfl, rfl, ?_⟩⟩
    have olp : ol ≠ p := (B5.same s6).new n7
    have F7' : Fr p H H6 := F5.trans (.of s6)
    have nolH : H ol = none := fr_new F7' n7 olp
    have s58 := s6.trans (s7.trans s8)
    have hfl8 := s58 _ _ h5
    have hol8 := s8 _ _ h7
    have flol : fl ≠ ol := ne_of_none (s6 _ _ h5) n7
    have B8 := B5.same s58
    have F8 := F5.trans (.of s58)
    have f0 : FrQ K H8 t0 0 := FrQ.same (.of h3) (s35.trans s58)
    have z0 : GoOk K H8 k (List.replicate k (t0, 0)) := ⟨fun z hz => by rw [List.eq_of_mem_replicate hz]; exact f0, List.length_replicate, fun z hz => by rw [List.eq_of_mem_replicate hz]; exact Part.zero, by rw [List.map_replicate, zsum_rep]; decide⟩
    refine ⟨wiI K p fl ol pl k n b H, ⟨_, 1 + b, List.replicate k (t0, 0), ps, none, rfl, hfl8, hol8, z0, ?_, by omega, by omega, ne0, nd, fun i hi => ⟨lt i hi, fun z ez => ?_⟩, p6, B8.mono (by omega), F8, rfl⟩, ?_⟩
    · rw [List.map_replicate, zsum_rep, show (1 + b - (1 + b) : Int) = 0 by omega, Rat.zero_mul] <;> rfl
    · rw [List.eq_of_mem_replicate (List.mem_of_getElem? ez)]
    rintro m σ H9 ⟨lf, l, os, v7, rfl, hfl, hol, G, inv, lf0, lf1, one, ond, zer, o6, B, F, rfl⟩
    refine ⟨_, rfl, ol, _, rfl, .inl (SqL.of hol), _, _, rfl, rfl, _, rfl, ?_⟩
    rw [ri_len]
    have nz : 0 < os.length := List.length_pos_iff.mpr one
    have hb0 : (0 : Int) < 1 + b := by omega
    by_cases c : (1 : Int) < (os.length : Int)
    · refine ite_bT (decide_eq_true c) ?_
      refine ⟨fun σ' H1 => ∃ m', m' < os.length ∧ wiI K p fl ol pl k n b H m' σ' H1, fun σ' H1 ⟨m', lt, w⟩ => ⟨m', lt, w⟩, ?_⟩
      refine ⟨_, rfl, _, rfl, _, _, rfl, rfl, p, lf + 1, _, rfl, B, by omega, by omega, by omega, fun tp H10 tp0 tp1 B10 F10 => ?_⟩
      refine ⟨_, rfl, _, rfl, _, _, rfl, rfl, _, rfl, _, rfl, tp, 1 + b, rfl, by omega, lt_up (a := 8) (by omega) (by decide), lt_up (a := 8) (by omega) (by decide), fun d H11 s11 n11 h11 => ?_⟩
      refine ⟨rfl, fun u3 H12 s12 n12 h12 => ?_⟩
      have s1012 := s11.trans s12
      have F912 : Fr p H9 H12 := F10.trans (.of s1012)
      have hol12 := F912 _ _ olp hol
      have B12 := B10.same s1012
      refine ⟨u3, _, rfl, SqT.of h12, rfl, _, _, rfl, _, _, rfl, _, rfl, _, rfl, .inl ⟨rfl, _, SqL.of hol12⟩, _, rfl, _, rfl, ol, _, rfl, .inl (SqL.of hol12), ?_⟩
      rw [ri_len]
      refine ⟨p, (os.length : Int), _, rfl, B12, by omega, by omega, by omega, fun ix H13 x0 x1 B13 F13 => ?_⟩
      obtain ⟨j, rfl⟩ : ∃ j : Nat, ix = (j : Int) := ⟨ix.toNat, by omega⟩
      have jl : j < os.length := by omega
      have ej : os[j]? = some os[j] := List.getElem?_eq_getElem jl
      generalize os[j] = x at ej
      have mx := List.mem_of_getElem? ej
      obtain ⟨xk, xz⟩ := zer x mx
      obtain ⟨y, ex⟩ : ∃ y, l[x]? = some y := ⟨l[x]'(by rw [G.len]; exact xk), List.getElem?_eq_getElem _⟩
      have y0 := xz y ex
      have hol13 := F13 _ _ olp hol12
      refine ⟨ol, _, (j : Int), j, .int (x : Int), rfl, rfl, hol13, by omega, by omega, ?_, ?_, ?_⟩
      · rw [ri_len, seqIndex_of (by omega) (by omega), Int.toNat_natCast]
      · unfold ri
        rw [List.getElem?_map, ej] <;> rfl
      have F913 := F912.trans F13
      have hfl13 := F913 _ _ flp hfl
      have hfl14 : (upd H13 ol (.lst ((ri os).eraseIdx j))) fl = some (.lst (rz l)) := by rw [upd_ne flol]; exact hfl13
      refine ⟨fl, _, (x : Int), x, rfl, rfl, hfl14, ixN_nat (by rw [rz_len, G.len]; exact xk), rfl, ?_⟩
      rw [rz_set l x (d, rq tp (1 + b)), show (ri os).eraseIdx j = ri (os.eraseIdx j) from map_erase _ _ _]
      obtain ⟨gs1, gs2⟩ := goes_sum (d := d) ex y0 inv tp0 (by omega) lf1 hb0
      have pd : Part (rq tp (1 + b)) := Part.rq tp0 (by omega) (by omega) (by omega)
      have G13 := G.fr B F913
      have fd : FrQ K H13 d (rq tp (1 + b)) := FrQ.fr (FrQ.same h11 s12) B12 F13
      have ol13' : H13 ol = some (.lst (ri os)) := hol13
      have flL : ∀ z ∈ l.set x (d, rq tp (1 + b)), FrQ K (upd (upd H13 ol (.lst (ri (os.eraseIdx j)))) fl (.lst (rz (l.set x (d, rq tp (1 + b)))))) z.1 z.2 := fun z hz => by
        have f1 : FrQ K H13 z.1 z.2 := by
          rcases mem_set hz with h | h
          · exact G13.fl z h
          · rw [h]
            exact fd
        have f2 := sqT_frL (ys := ri os) f1 ol13' (fr_upd (p := ol) (o := .lst (ri (os.eraseIdx j))))
        exact sqT_frL (ys := rz l) f2 (by rw [upd_ne flol]; exact hfl13) fr_upd
      have elen : (os.eraseIdx j).length = os.length - 1 := by rw [List.length_eraseIdx, if_pos jl]
      refine ⟨os.length - 1, by omega, lf - tp, l.set x (d, rq tp (1 + b)), os.eraseIdx j, _, rfl, upd_same, by rw [upd_ne flol.symm, upd_same], ⟨flL, by rw [List.length_set, G.len], fun z hz => ?_, gs2⟩, gs1, by omega, by omega, ?_, ond.sublist (List.eraseIdx_sublist _ _), fun i hi => ?_, by omega, ?_, ?_, elen.symm⟩
      · rcases mem_set hz with h | h
        · exact G.pa z h
        · rw [h]
          exact pd
      · intro e
        rw [e] at elen
        simp only [List.length_nil] at elen
        omega
      · obtain ⟨i', ne', ei⟩ := List.mem_eraseIdx_iff_getElem?.mp hi
        obtain ⟨ik, iz⟩ := zer i (List.mem_of_getElem? ei)
        refine ⟨ik, fun z ez => ?_⟩
        have ix : x ≠ i := fun e => by
          rw [← e, ← ej] at ei
          exact ne' ((List.getElem?_inj (List.getElem?_eq_some_iff.mp (ei.trans ej)).1 ond).mp ei)
        rw [List.getElem?_set_ne ix] at ez
        exact iz z ez
      · exact ((B13.upd olp).upd flp).mono (by rw [elen]; omega)
      · exact ((F.trans F913).put' nolH).put' nflH
    · refine ite_bF (decide_eq_false c) ?_
      obtain ⟨x, rfl⟩ : ∃ x, os = [x] := by
        match os, nz, c with
        | [x], _, _ => exact ⟨x, rfl⟩
        | _ :: _ :: _, _, c => simp only [List.length_cons] at c; omega
      obtain ⟨xk, xz⟩ := zer x List.mem_cons_self
      obtain ⟨y, ex⟩ : ∃ y, l[x]? = some y := ⟨l[x]'(by rw [G.len]; exact xk), List.getElem?_eq_getElem _⟩
      have y0 := xz y ex
      refine ⟨_, rfl, fl, _, true, rfl, SqL.of hfl, fun D hD => ?_⟩
      have Dp : D ≠ p := B.new hD
      refine lc_it (walk_enumB (K := K) (a := fl) (xs := rz l) (p := true)) (fun j H' => ∃ m : List Fz, Same H9 H' ∧ H' D = some (.lst (rz m)) ∧ FL K H' m ∧ m.map (·.2) = ((l.map (·.2)).set x (rq lf (1 + b))).take j)
        ⟨[], same_new hD, upd_same, .nil, rfl⟩ (fun j H' _ ⟨m, s, _⟩ => SqL.of (s _ _ hfl)) ?_ ?_
      · rintro j v H10 H11 hj ⟨m, s10, hD10, fm, em⟩ ⟨T0, x0, y0', rfl, hT, rfl, e0, ez⟩
        obtain rfl := Option.some.inj e0
        obtain ⟨z, ezz, rfl⟩ := rz_get ez
        rw [rz_len] at hj
        have sT : Same H10 (upd H10 T0 (.tup [.int (j : Nat), .ref z.1])) := same_new hT
        have hT11 : (upd H10 T0 (.tup [.int (j : Nat), .ref z.1])) T0 = some (.tup [.int (j : Nat), .ref z.1]) := upd_same
        generalize upd H10 T0 (.tup [.int (j : Nat), .ref z.1]) = H11 at sT hT11
        have s11 := s10.trans sT
        have hD11 := sT _ _ hD10
        have ml : m.length ≤ 6 := by
          have e := congrArg List.length em
          rw [List.length_map, List.length_take, List.length_set, List.length_map, G.len] at e
          omega
        refine ⟨T0, _, rfl, SqT.of hT11, rfl, _, _, rfl, _, _, rfl, rfl, rfl, yesT ?_⟩
        refine ⟨_, rfl, _, rfl, ol, _, 0, _, rfl, rfl, SqL.of (s11 _ _ hol), at0, rfl, _, rfl, ?_⟩
        by_cases cj : j = x
        · subst cj
          refine ite_iT rfl ?_
          refine ⟨_, rfl, _, rfl, lf, 1 + b, rfl, by omega, lt_up (a := 8) (by omega) (by decide), lt_up (a := 8) (by omega) (by decide), fun d H12 s12 n12 h12 => ?_⟩
          have hD12 := s12 _ _ hD11
          refine ⟨_, hD12, by rw [rz_len]; exact small' (by omega), m ++ [(d, rq lf (1 + b))], Same.put (s11.trans s12) hD, by rw [upd_same, rz_snoc], FL.put (FL.snoc (fm.same (sT.trans s12)) h12) hD12, ?_⟩
          rw [List.map_append, em, take_one (show ((l.map (·.2)).set j (rq lf (1 + b)))[j]? = some (rq lf (1 + b)) from List.getElem?_set_self (by rw [List.length_map]; omega))] <;> rfl
        · refine ite_iF (by omega) ?_
          refine ⟨_, rfl, ?_⟩
          refine ⟨_, hD11, by rw [rz_len]; exact small' (by omega), m ++ [z], Same.put s11 hD, by rw [upd_same, rz_snoc], FL.put (FL.snoc (fm.same sT) ((G.fl z (List.mem_of_getElem? ezz)).same s11)) hD11, ?_⟩
          rw [List.map_append, em, take_one (show ((l.map (·.2)).set x (rq lf (1 + b)))[j]? = some z.2 from by rw [List.getElem?_set_ne (fun e => cj e.symm)]; exact rz_q ezz)] <;> rfl
      · rintro H10 ⟨m, s10, hD10, fm, em⟩
        have em' : m.map (·.2) = (l.map (·.2)).set x (rq lf (1 + b)) := by
          rw [em, rz_len]
          exact List.take_of_length_le (by rw [List.length_set, List.length_map]; exact Nat.le_refl _)
        refine ⟨D, _, rfl, .inl ⟨SqL.of hD10, fun tl ntl => ?_⟩⟩
        have sa : Same H10 (upd H10 tl (.tup (rz m))) := same_new ntl
        have htl : (upd H10 tl (.tup (rz m))) tl = some (.tup (rz m)) := upd_same
        generalize upd H10 tl (.tup (rz m)) = H11 at sa htl
        have pd : Part (rq lf (1 + b)) := Part.rq lf0 (by omega) (by omega) (by omega)
        obtain ⟨_, gs2⟩ := goes_sum (d := D) ex y0 inv lf0 (Int.le_refl _) lf1 hb0
        rw [List.map_set] at gs2
        refine q tl m H11 htl ⟨fm.same sa, ?_, fun z hz => ?_, by rw [em']; exact gs2⟩ (((B.same s10).same sa).mono (by simp only [List.length_singleton]; omega)) (F.trans (.of (s10.trans sa)))
        · have e := congrArg List.length em'
          rw [List.length_map, List.length_set, List.length_map, G.len] at e
          exact e
        · have mz : z.2 ∈ m.map (·.2) := List.mem_map.mpr ⟨z, hz, rfl⟩
          rw [em'] at mz
          rcases List.mem_or_eq_of_mem_set mz with h | h
          · obtain ⟨w, hw, e⟩ := List.mem_map.mp h
            rw [← e]
            exact G.pa w hw
          · rw [h]
            exact pd

end
end KR
namespace KR
open PySem PySem.Spec PyProof.Rows L2
section
variable {P : Program} {w : World} {K : PySem.W.Frag} {mg : Str → Option Value} {base : Heap}
theorem knl_set {K : PySem.W.Frag} {H : Hp} {n : Nat} {ks : List Kn} {i : Nat} {k : Kn} {q : Addr} {xs ys : List V} (L : KnL K H n ks) (h : KnOk K H n k) (hq : H q = some (.lst xs)) : KnL K (upd H q (.lst ys)) n (ks.set i k) := fun x hx => by
  rcases List.mem_or_eq_of_mem_set hx with m | e
  · exact (L x m).put hq
  · rw [e]
    exact h.put hq
theorem nodup_snoc {ps : List Nat} {i : Nat} (h : ps.Nodup) (lt : ∀ j ∈ ps, j < i) : (ps ++ [i]).Nodup := by
  refine List.nodup_append.mpr ⟨h, (List.nodup_cons.mpr ⟨List.not_mem_nil, List.nodup_nil⟩), fun a ha b hb e => ?_⟩
  rw [List.mem_singleton.mp hb] at e
  have := lt a ha
  omega
def sp_l_closed (K : PySem.W.Frag) : Sp := fun vs H Q _ => ∃ (p : Addr), vs = [.ref p] ∧ BoxAt H p 0 ∧
  ∀ (kl : Addr) (ks : List Kn) (H' : Hp), H' kl = some (.lst (rk ks)) → KnL K H' ks.length ks → 2 ≤ ks.length → ks.length ≤ 6 → BoxAt H' p 1000 → Fr p H H' → kl ≠ p → Q (.ref kl) H'
theorem ok_l_closed (T : All K mg) : FnOk P w K mg base CX0 6 T.f_l_closed T.fd_l_closed ["_law_box_here"] (sp_l_closed K) := by
  refine T.d_l_closed.fn.ok sc_l_closed (fun vs H Q E h => ?_) (fun cdv A outer s H vs Q E hr h => ?_)
  · obtain ⟨p, rfl, _⟩ := h
    rfl
  · obtain ⟨p, rfl, hB, q⟩ := h
    refine ⟨_, (pss_cons (ps_set (i := 1) sc_l_closed.nd rfl (by first | exact Or.inl rfl | exact Or.inr rfl) (pe_op op_add pe_int (pe_call (ok_l_take T) (hr.mono (by decide)) (by rfl) T.d_l_take.mg T.d_l_take.fn.kp T.d_l_take.b .nil pass0 (pa_cons (pv 0) (pa_cons pe_int pa_nil)))))
      (pss_cons (ps_par (i := 2) (j := 3) (by rfl) sc_l_closed.nd rfl rfl (by decide) rfl rfl (pa_cons (pe_call (ok_l_kinds T) hr (by rfl) T.d_l_kinds.mg T.d_l_kinds.fn.kp T.d_l_kinds.b .nil pass0 (pa_cons (pv 0) (pa_cons (pv 1) pa_nil))) (pa_cons (pe_lstI pa_nil) pa_nil)) (by rfl))
      (pss_cons (ps_for PassesOwn.never rfl (pi_range1 (by rfl) T.b_range (pa_cons (pv 1) pa_nil)) (pg_name (i := 4) sc_l_closed.nd rfl (by first | exact Or.inl rfl | exact Or.inr rfl)) (pss_one (ps_if (pt_cmpR op_eq (pe_call (ok_l_take T) (hr.mono (by decide)) (by rfl) T.d_l_take.mg T.d_l_take.fn.kp T.d_l_take.b .nil pass0 (pa_cons (pv 0) (pa_cons pe_int pa_nil))) pe_int (nomark _)) (pss_one (ps_expr (pe_bm PySem.F.plainAttrs_list PySem.F.slot_list_append PySem.F.type_list_append mt_append (pv 3) (pa_cons (pv 4) pa_nil)))) pss_nil)))
      (pss_cons (ps_for PassesOwn.never rfl (pi_listK (K := K) rfl (pv 3)) (pg_name (i := 4) sc_l_closed.nd rfl (by first | exact Or.inl rfl | exact Or.inr rfl)) (pss_one (ps_asg (pe_tupI (pa_cons (pe_op op_mulX (pe_ix (ixT (K := K) rfl) (pe_ix (ixL (K := K) rfl) (pv 2) (pv 4) (fun _ _ => rfl)) pe_int (fun _ _ => rfl)) (pe_call (ok_l_take T) (hr.mono (by decide)) (by rfl) T.d_l_take.mg T.d_l_take.fn.kp T.d_l_take.b .nil pass0 (pa_cons (pv 0) (pa_cons pe_int pa_nil)))) (pa_cons (pe_tupI (pa_cons pe_int (pa_cons pe_int pa_nil))) (pa_cons (pe_call (ok_l_within T) hr (by rfl) T.d_l_within.mg T.d_l_within.fn.kp T.d_l_within.b .nil pass0 (pa_cons (pv 0) (pa_cons (pv 1) (pa_cons (pv 3) pa_nil)))) pa_nil)))) (pg_sub (pv 2) (pv 4) set_list))))
      (pss_cons (ps_if (PW.pt (pw_and (pt_cmpR (neDK (K := K) rfl hr.units) (pv 3) (pe_lstI pa_nil) (nomark _)) (pw_and1 (pt_cmpR op_eq (pe_call (ok_l_take T) (hr.mono (by decide)) (by rfl) T.d_l_take.mg T.d_l_take.fn.kp T.d_l_take.b .nil pass0 (pa_cons (pv 0) (pa_cons pe_int pa_nil))) pe_int (nomark _))))) (pss_cons (ps_set (i := 4) sc_l_closed.nd rfl (by first | exact Or.inl rfl | exact Or.inr rfl) (pe_ix (ixL (K := K) rfl) (pv 3) (pe_call (ok_l_take T) (hr.mono (by decide)) (by rfl) T.d_l_take.mg T.d_l_take.fn.kp T.d_l_take.b .nil pass0 (pa_cons (pv 0) (pa_cons (pe_callB (lenQ (K := K) rfl) (by rfl) T.b_len PySem.boot_len (pa_cons (pv 3) pa_nil)) pa_nil))) (fun _ _ => rfl)))
      (pss_cons (ps_asg (pe_ix (ixL (K := K) rfl) (pv 2) (pv 4) (fun _ _ => rfl)) (pg_tupK (K := K) rfl rfl (pgs_cons (pg_name (i := 5) sc_l_closed.nd rfl (by first | exact Or.inl rfl | exact Or.inr rfl)) (pgs_cons (pg_name (i := 6) sc_l_closed.nd rfl (by first | exact Or.inl rfl | exact Or.inr rfl)) (pgs_cons (pg_name (i := 7) sc_l_closed.nd rfl (by first | exact Or.inl rfl | exact Or.inr rfl)) pgs_nil)))))
      (pss_one (ps_asg (pe_ix (ixL (K := K) rfl) (pe_lstI (pa_cons (pe_tupI (pa_cons (pv 5) (pa_cons (pe_tupI (pa_cons pe_int (pa_cons pe_int pa_nil))) (pa_cons (pv 7) pa_nil)))) (pa_cons (pe_tupI (pa_cons (pv 5) (pa_cons (pv 6) (pa_cons (pe_call (ok_l_goes T) (hr.mono (by decide)) (by rfl) T.d_l_goes.mg T.d_l_goes.fn.kp T.d_l_goes.b .nil pass0 (pa_cons (pv 0) (pa_cons (pv 1) pa_nil))) pa_nil)))) pa_nil))) (pe_call (ok_l_take T) (hr.mono (by decide)) (by rfl) T.d_l_take.mg T.d_l_take.fn.kp T.d_l_take.b .nil pass0 (pa_cons (pv 0) (pa_cons pe_int pa_nil))) (fun _ _ => rfl)) (pg_sub (pv 2) (pv 4) set_list))))) pss_nil)
      (pss_one (ps_ret (pv 2)))))))), ?_⟩
    refine ⟨_, rfl, p, 5, 0, rfl, hB, by decide, by decide, by decide, fun w H1 w0 w1 B1 F1 => ?_⟩
    obtain ⟨wn, rfl⟩ : ∃ wn : Nat, w = (wn : Int) := ⟨w.toNat, by omega⟩
    refine ⟨_, _, rfl, rfl, ?_⟩
    refine ⟨_, rfl, _, rfl, p, 2 + wn, 1, rfl, B1, by decide, by omega, by omega, fun kl ks H2 hk2 L2 lk B2 F2 klp nk => ?_⟩
    refine ⟨rfl, fun pl H3 s3 n3 h3 => ⟨_, _, rfl, ?_⟩⟩
    have B3 := B2.same s3
    have plp : pl ≠ p := B2.new n3
    have klpl : kl ≠ pl := ne_of_none hk2 n3
    have F3 : Fr p H H3 := (F1.trans F2).trans (.of s3)
    have nkH : H kl = none := fr_new F1 nk klp
    have nplH : H pl = none := fr_new (F1.trans F2) n3 plp
    have hk3 := s3 _ _ hk2
    have L3 := L2.same s3
    refine ⟨_, rfl, 2 + wn, rfl, by omega, by omega, for_range (lo := 0) (n := 2 + wn) (fun i σ H' => ∃ (ps : List Nat) (v4 : Option V), σ = [some (.ref p), some (.int (2 + (wn : Int))), some (.ref kl), some (.ref pl), v4, none, none, none] ∧ H' pl = some (.lst (ri ps)) ∧ ps.Nodup ∧ (∀ j ∈ ps, j < i) ∧ ps.length ≤ i ∧ H' kl = some (.lst (rk ks)) ∧ KnL K H' (2 + wn) ks ∧ BoxAt H' p (301 + i) ∧ Fr p H H')
      ⟨[], none, rfl, h3, List.nodup_nil, fun j hj => absurd hj List.not_mem_nil, Nat.le_refl _, hk3, L3, B3, F3⟩ ?_ ?_⟩
    · rintro i σ H4 hi ⟨ps, v4, rfl, hp, nd, lt, lp, hk, L, B, F⟩
      refine ⟨_, rfl, p, 2, 301 + i, rfl, B, by omega, by decide, by decide, fun x H5 x0 x1 B5 F5 => ⟨rfl, _, rfl, ite2 (fun _ => ?_) (fun _ => ?_)⟩⟩
      · have hp5 := F5 _ _ plp hp
        refine ⟨_, rfl, .inl ⟨rfl, _, SqL.of hp5⟩, _, rfl, pl, _, _, rfl, rfl, hp5, by rw [ri_len]; exact small' (by omega), ?_⟩
        have ei : (0 : Int) + (i : Int) = (i : Int) := Int.zero_add _
        refine ⟨ps ++ [i], _, rfl, by rw [upd_same, ri_snoc, ei], nodup_snoc nd lt, fun j hj => ?_, by rw [List.length_append]; simp only [List.length_singleton]; omega, by rw [upd_ne klpl]; exact F5 _ _ klp hk, fun k' hk' => ((L k' hk').fr B F5).put hp5, (B5.upd plp).mono (by omega), (F.trans F5).put' nplH⟩
        rcases List.mem_append.mp hj with h | h
        · have := lt j h
          omega
        · rw [List.mem_singleton.mp h]
          omega
      · exact ⟨ps, _, rfl, F5 _ _ plp hp, nd, fun j hj => by have := lt j hj; omega, by omega, F5 _ _ klp hk, L.fr B F5, B5.mono (by omega), F.trans F5⟩
    · rintro σ H4 ⟨ps, v4, rfl, hp4, nd, lt, lp, hk4, L4, B4, F4⟩
      have n6 : 2 + wn ≤ 6 := by omega
      refine ⟨_, rfl, pl, rfl, ⟨_, SqL.of hp4⟩, for_it (walk_list (K := K) (a := pl) (xs := ri ps)) (fun j σ H' => ∃ (ks' : List Kn) (v4 : Option V), σ = [some (.ref p), some (.int (2 + (wn : Int))), some (.ref kl), some (.ref pl), v4, none, none, none] ∧ H' pl = some (.lst (ri ps)) ∧ H' kl = some (.lst (rk ks')) ∧ KnL K H' (2 + wn) ks' ∧ ks'.length = 2 + wn ∧ BoxAt H' p (310 + 30 * j) ∧ Fr p H H')
        ⟨ks, v4, rfl, hp4, hk4, L4, lk, B4.mono (by omega), F4⟩ (fun j σ H' _ ⟨_, _, _, h, _⟩ => SqL.of h) ?_ ?_⟩
      · rintro j v σ H5 H6 hj ⟨ks', v4', rfl, hp, hk, L, lk', B, F⟩ ⟨rfl, hv⟩
        obtain ⟨i, ei, rfl⟩ := ri_get hv
        have mi := List.mem_of_getElem? ei
        have il := lt i mi
        rw [ri_len] at hj
        have ek : ks'[i]? = some (ks'[i]'(by omega)) := List.getElem?_eq_getElem _
        generalize ks'[i]'(by omega) = k at ek
        have KO := L k (List.mem_of_getElem? ek)
        refine ⟨_, rfl, _, rfl, kl, _, (i : Int), _, rfl, rfl, SqL.of hk, at_of rfl (rk_at ek), k.a, _, 0, _, rfl, rfl, KO.at_, at0, ?_⟩
        refine ⟨_, rfl, p, 2, _, rfl, B, by omega, by decide, by decide, fun x H7 x0 x1 B7 F7 => ?_⟩
        have k1 := KO.f1
        have k0 := KO.f0
        refine ⟨_, _, rfl, rfl, mulL (by omega), rfl, fun d H8 s8 n8 h8 => ?_⟩
        have hp8 := s8 _ _ (F7 _ _ plp hp)
        refine ⟨_, rfl, _, rfl, _, rfl, p, 2 + wn, _, pl, ps, rfl, B7.same s8, by omega, by omega, n6, hp8, plp, fun e => (by rw [e] at mi; exact absurd mi List.not_mem_nil), nd, lt, by omega, fun g l H9 hg GO B9 F9 => ?_⟩
        refine ⟨rfl, fun u H10 s10 n10 h10 => ?_⟩
        have F78 : Fr p _ H8 := F7.trans (.of s8)
        have F510 : Fr p _ H10 := (F78.trans F9).trans (.of s10)
        have hk10 := F510 _ _ klp hk
        have hp10 := F510 _ _ plp hp
        refine ⟨_, rfl, _, rfl, kl, _, (i : Int), i, rfl, rfl, hk10, ixN_nat (by rw [rk_len]; omega), ?_⟩
        have fr01 : k.fresh * x = 0 ∨ k.fresh * x = k.fresh := by
          have : x = 0 ∨ x = 1 := by omega
          rcases this with e | e <;> subst e <;> omega
        have KN : KnOk K H10 (2 + wn) ⟨u, d, g, k.fresh * x, 1, l⟩ := ⟨SqT.of h10, FrQ.same (FrQ.fr (FrQ.of (q := 1) h8) (B7.same s8) F9) s10, SqT.of (s10 _ _ hg), GO.same s10, (show Part (1 : Rat) from ⟨by decide, by decide, by decide⟩), by show 0 ≤ k.fresh * x; omega, by show k.fresh * x ≤ 1000000; omega⟩
        rw [rk_set ks' i ⟨u, d, g, k.fresh * x, 1, l⟩]
        exact ⟨ks'.set i ⟨u, d, g, k.fresh * x, 1, l⟩, _, rfl, by rw [upd_ne klpl.symm]; exact hp10, upd_same, knl_set (L.fr B F510) KN hk10, by rw [List.length_set, lk'], ((B9.same s10).upd klp).mono (by omega), (F.trans F510).put' nkH⟩
      · rintro σ H5 ⟨ks', v4', rfl, hp5, hk5, L5, lk', B5, F5⟩
        rw [ri_len] at B5
        have B5 := B5.mono (show 310 + 30 * ps.length ≤ 500 by omega)
        have done : ∀ {H'' : Hp} {ks2 : List Kn} {c : Nat}, H'' kl = some (.lst (rk ks2)) → KnL K H'' (2 + wn) ks2 → ks2.length = 2 + wn → BoxAt H'' p c → c ≤ 1000 → Fr p H H'' → Q (.ref kl) H'' := fun {H'' ks2 c} a1 a2 a3 a4 a5 a6 =>
          q kl ks2 H'' a1 (by rw [a3]; exact a2) (by omega) (by omega) (a4.mono a5) a6 klp
        refine ⟨_, rfl, rfl, fun t H6 s6 n6' h6 => ⟨_, _, ri_dp (SqL.of (s6 _ _ hp5)), ri_dp (ps := []) (SqL.of h6), dpi_shaped _, dpi_shaped _, _, rfl, ?_⟩⟩
        rw [dpi_eqv]
        have hk6 := s6 _ _ hk5
        have hp6 := s6 _ _ hp5
        have L6 := L5.same s6
        have B6 := B5.same s6
        have F6 := F5.trans (.of s6)
        by_cases c : ps = []
        · refine ite_bF (by rw [decide_eq_true c] <;> rfl) ?_
          exact ⟨_, rfl, done hk6 L6 lk' B6 (by decide) F6⟩
        · refine ite_bT (by rw [decide_eq_false c] <;> rfl) ?_
          have nz : 0 < ps.length := List.length_pos_iff.mpr c
          refine ⟨_, rfl, p, 3, 500, rfl, B6, by decide, by decide, by decide, fun x H7 x0 x1 B7 F7 => ⟨rfl, _, rfl, ite2 (fun _ => ?_) (fun _ => ?_)⟩⟩
          · have hp7 := F7 _ _ plp hp6
            refine ⟨_, rfl, _, rfl, _, rfl, pl, _, rfl, .inl (SqL.of hp7), ?_⟩
            rw [ri_len]
            refine ⟨p, (ps.length : Int), 501, rfl, B7, by decide, by omega, by omega, fun y H8 y0 y1 B8 F8 => ?_⟩
            obtain ⟨j, rfl⟩ : ∃ j : Nat, y = (j : Int) := ⟨y.toNat, by omega⟩
            have ej : ps[j]? = some (ps[j]'(by omega)) := List.getElem?_eq_getElem _
            generalize ps[j]'(by omega) = i at ej
            have il := lt i (List.mem_of_getElem? ej)
            have hp8 := F8 _ _ plp hp7
            have hk8 := F8 _ _ klp (F7 _ _ klp hk6)
            have L8 := (L6.fr B6 F7).fr B7 F8
            refine ⟨pl, _, (j : Int), .int (i : Int), rfl, rfl, SqL.of hp8, at_of rfl (by unfold ri; rw [List.getElem?_map, ej] <;> rfl), ?_⟩
            have ek : ks'[i]? = some (ks'[i]'(by omega)) := List.getElem?_eq_getElem _
            generalize ks'[i]'(by omega) = k at ek
            have KO := L8 k (List.mem_of_getElem? ek)
            refine ⟨_, rfl, _, rfl, kl, _, (i : Int), _, rfl, rfl, SqL.of hk8, at_of rfl (rk_at ek), ?_⟩
            refine ⟨k.a, _, rfl, KO.at_, rfl, _, _, rfl, _, _, rfl, _, _, rfl, rfl, ?_⟩
            refine ⟨_, rfl, rfl, fun d H9 s9 n9 h9 => ?_⟩
            refine ⟨_, rfl, rfl, fun u1 H10 s10 n10 h10 => ?_⟩
            refine ⟨_, rfl, _, rfl, _, rfl, _, rfl, p, 2 + wn, 502, rfl, (B8.same s9).same s10, by decide, by omega, n6, fun g l H11 hg fl gl pa one B11 F11 => ?_⟩
            refine ⟨rfl, fun u2 H12 s12 n12 h12 => ⟨rfl, fun l2 H13 s13 n13 h13 => ?_⟩⟩
            have l2p : l2 ≠ p := (B11.same s12).new n13
            have B13 := (B11.same s12).same s13
            refine ⟨_, rfl, p, 2, 542, rfl, B13, by decide, by decide, by decide, fun z H14 z0 z1 B14 F14 => ?_⟩
            have s810 := s9.trans s10
            have s1113 := s12.trans s13
            have B10 := (B8.same s9).same s10
            have F814 : Fr p H8 H14 := (Fr.of s810).trans (F11.trans ((Fr.of s1113).trans F14))
            have KO14 := KO.fr B8 F814
            have hk14 := F814 _ _ klp hk8
            have F1014 : Fr p H10 H14 := F11.trans ((Fr.of s1113).trans F14)
            obtain ⟨kn, ea, kno⟩ : ∃ kn : Kn, atI [V.ref u1, V.ref u2] z = some (.ref kn.a) ∧ KnOk K H14 (2 + wn) kn := by
              have cs : z = 0 ∨ z = 1 := by omega
              rcases cs with e | e
              · subst e
                refine ⟨⟨u1, d, k.g, k.fresh, rq 11 12, k.goes⟩, rfl, ⟨?_, ?_, KO14.gs, KO14.go, Part.rq (by decide) (by decide) (by decide) (by decide), KO14.f0, KO14.f1⟩⟩
                · exact sqT_fr (SqT.of h10) B10 F1014
                · exact FrQ.fr ((low_frq h9 ⟨by decide, by decide⟩).same s10) B10 F1014
              · subst e
                refine ⟨⟨u2, k.d, g, k.fresh, k.drip, l⟩, rfl, ⟨?_, KO14.dr, ?_, ⟨FL.fr (fl.same s1113) B13 F14, gl, pa, one⟩, KO14.pd, KO14.f0, KO14.f1⟩⟩
                · exact sqT_fr (SqT.of (s13 _ _ h12)) B13 F14
                · exact sqT_fr (SqT.of (s1113 _ _ hg)) B13 F14
            refine ⟨l2, _, z, _, rfl, rfl, SqL.of (F14 _ _ l2p h13), ea, ?_⟩
            refine ⟨_, rfl, _, rfl, kl, _, (i : Int), i, rfl, rfl, hk14, ixN_nat (by rw [rk_len]; omega), ?_⟩
            rw [rk_set ks' i kn]
            exact ⟨_, rfl, done upd_same (knl_set (L8.fr B8 F814) kno hk14) (by rw [List.length_set, lk']) (B14.upd klp) (by decide) (((F6.trans F7).trans (F8.trans F814)).put' nkH)⟩
          · exact ⟨_, rfl, done (F7 _ _ klp hk6) (L6.fr B6 F7) lk' B7 (by decide) (F6.trans F7)⟩

end
end KR
namespace KR
open PySem PySem.Spec PyProof.Rows L2
section
variable {P : Program} {w : World} {K : PySem.W.Frag} {mg : Str → Option Value} {base : Heap}
def sp_p_is_number : Sp := fun vs H Q _ => ∃ n : Int, vs = [.int n] ∧ Q (.bl true) H
theorem ok_p_is_number (T : All K mg) : FnOk P w K mg base CX0 1 T.f_p_is_number T.fd_p_is_number ["thing"] sp_p_is_number := by
  refine T.d_p_is_number.fn.ok sc_p_is_number (fun vs H Q E h => ?_) (fun cdv A outer s H vs Q E hr h => ?_)
  · obtain ⟨n, rfl, _⟩ := h
    rfl
  · obtain ⟨n, rfl, q⟩ := h
    refine ⟨_, (pss_one (ps_ret (pe_and (pe_callB (isiK (K := K) rfl) (by rfl) T.b_isinstance (by decide +kernel) (pa_cons (pv 0) (pa_cons (pe_bltn (v := .ty "int") (by rfl) T.b_int (by decide +kernel) rfl) pa_nil))) (pe_one (pe_not (pe_callB (isiK (K := K) rfl) (by rfl) T.b_isinstance (by decide +kernel) (pa_cons (pv 0) (pa_cons (pe_bltn (v := .ty "bool") (by rfl) T.b_bool (by decide +kernel) rfl) pa_nil)))))))), ?_⟩
    refine ⟨_, rfl, _, _, _, _, _, rfl, .ty _, .base (.int n), kit_ty (show kitB "int" "int" = some true by decide +kernel), _, rfl, ?_⟩
    refine iteT ?_
    refine ⟨_, rfl, _, _, _, _, _, rfl, .ty _, .base (.int n), kit_ty (show kitB "int" "bool" = some false by decide +kernel), _, rfl, ?_⟩
    exact q

end
end KR
namespace KR
open PySem PySem.Spec PyProof.Rows L2
section
variable {P : Program} {w : World} {K : PySem.W.Frag} {mg : Str → Option Value} {base : Heap}
def sp_p_is_frac (K : PySem.W.Frag) : Sp := fun vs H Q _ => ∃ (x : Addr) (a b : Int), vs = [.ref x] ∧ SqT K H x [.int a, .int b] ∧ IsLow a b ∧ Q (.bl true) H
theorem ok_p_is_frac (T : All K mg) : FnOk P w K mg base CX0 2 T.f_p_is_frac T.fd_p_is_frac ["thing"] (sp_p_is_frac K) := by
  refine T.d_p_is_frac.fn.ok sc_p_is_frac (fun vs H Q E h => ?_) (fun cdv A outer s H vs Q E hr h => ?_)
  · obtain ⟨x, a, b, rfl, _⟩ := h
    rfl
  · obtain ⟨x, a, b, rfl, hx, lo, q⟩ := h
    refine ⟨_, (pss_cons (ps_if (PW.pt (pw_or (pt_not (pt_val (pe_callB (isiK (K := K) rfl) (by rfl) T.b_isinstance (by decide +kernel) (pa_cons (pv 0) (pa_cons (pe_bltn (v := .ty "tuple") (by rfl) T.b_tuple (by decide +kernel) rfl) pa_nil))))) (pw_or1 (pt_cmpR op_ne (pe_callB (lenQ (K := K) rfl) (by rfl) T.b_len PySem.boot_len (pa_cons (pv 0) pa_nil)) pe_int (nomark _))))) (pss_one (ps_ret pe_bl)) pss_nil)
      (pss_cons (ps_asg (pv 0) (pg_tupK (K := K) rfl rfl (pgs_cons (pg_name (i := 1) sc_p_is_frac.nd rfl (by first | exact Or.inl rfl | exact Or.inr rfl)) (pgs_cons (pg_name (i := 2) sc_p_is_frac.nd rfl (by first | exact Or.inl rfl | exact Or.inr rfl)) pgs_nil))))
      (pss_cons (ps_if (PW.pt (pw_or (pt_not (pt_val (pe_call (ok_p_is_number T) hr (by rfl) T.d_p_is_number.mg T.d_p_is_number.fn.kp T.d_p_is_number.b .nil pass0 (pa_cons (pv 1) pa_nil)))) (pw_or1 (pt_not (pt_val (pe_call (ok_p_is_number T) hr (by rfl) T.d_p_is_number.mg T.d_p_is_number.fn.kp T.d_p_is_number.b .nil pass0 (pa_cons (pv 2) pa_nil))))))) (pss_one (ps_ret pe_bl)) pss_nil)
      (pss_one (ps_ret (pe_and (pe_cmpR op_gt (pv 2) pe_int (nomark _)) (pe_one (pe_cmpR op_eq (pe_callBfun cr_gcd (by rfl) T.m_gcd (pa_cons (pv 1) (pa_cons (pv 2) pa_nil))) pe_int (nomark _))))))))), ?_⟩
    refine ⟨_, rfl, _, _, _, _, _, rfl, .ty _, sqT_ty hx, kit_ty (show kitB "tuple" "tuple" = some true by decide +kernel), _, rfl, ?_⟩
    refine iteF ?_
    refine ⟨_, rfl, x, _, rfl, .inr hx, rfl, _, rfl, ?_⟩
    refine ite_nF rfl ?_
    refine ⟨_, rfl, x, _, rfl, hx, rfl, _, _, rfl, _, _, rfl, rfl, ?_⟩
    refine ⟨_, rfl, a, rfl, _, rfl, iteF ?_⟩
    refine ⟨_, rfl, b, rfl, _, rfl, iteF ?_⟩
    refine ⟨_, rfl, _, _, rfl, rfl, _, rfl, ?_⟩
    refine ite_bT (decide_eq_true lo.pos) ?_
    refine ⟨_, rfl, _, rfl, _, _, rfl, rfl, ?_⟩
    have e : decide (V.int ((Nat.gcd a.natAbs b.natAbs : Nat) : Int) = V.int 1) = true := by
      rw [lo.cop] <;> rfl
    rw [e]
    exact q

end
end KR
namespace KR
open PySem PySem.Spec PyProof.Rows L2
section
variable {P : Program} {w : World} {K : PySem.W.Frag} {mg : Str → Option Value} {base : Heap}
theorem fdivs {t b : Int} (hb : b ≠ 0) : (b < 0 → t.fdiv (-((Nat.gcd t.natAbs b.natAbs : Nat) : Int)) = (low t b).1 ∧ b.fdiv (-((Nat.gcd t.natAbs b.natAbs : Nat) : Int)) = (low t b).2) ∧
    (¬ b < 0 → t.fdiv ((Nat.gcd t.natAbs b.natAbs : Nat) : Int) = (low t b).1 ∧ b.fdiv ((Nat.gcd t.natAbs b.natAbs : Nat) : Int) = (low t b).2) := by
  have d1 : ((Nat.gcd t.natAbs b.natAbs : Nat) : Int) ∣ t := Int.ofNat_dvd_left.mpr (Nat.gcd_dvd_left _ _)
  have d2 : ((Nat.gcd t.natAbs b.natAbs : Nat) : Int) ∣ b := Int.ofNat_dvd_left.mpr (Nat.gcd_dvd_right _ _)
  have hg : 0 < Nat.gcd t.natAbs b.natAbs := Nat.gcd_pos_of_pos_right _ (by omega)
  unfold low
  generalize Nat.gcd t.natAbs b.natAbs = g at *
  refine ⟨fun c => ?_, fun c => ?_⟩
  · rw [fdiv_neg d1, fdiv_neg d2, if_pos c]
    refine ⟨rfl, ?_⟩
    have e : (b.natAbs : Int) = -b := by omega
    show b / (g : Int) * -1 = (b.natAbs : Int) / (g : Int)
    rw [e]
    obtain ⟨z, rfl⟩ := d2
    rw [Int.mul_ediv_cancel_left _ (by omega), ← Int.mul_neg, Int.mul_ediv_cancel_left _ (by omega)]
    omega
  · rw [if_neg c, Int.fdiv_eq_ediv_of_nonneg _ (by omega), Int.fdiv_eq_ediv_of_nonneg _ (by omega)]
    have e : (b.natAbs : Int) = b := by omega
    refine ⟨by omega, ?_⟩
    show b / (g : Int) = (b.natAbs : Int) / (g : Int)
    rw [e]
theorem ok0_p_frac_of (T : All K mg) : FnOk P w K mg base CX0 1 T.f_p_frac_of T.fd_p_frac_of ["top", "bottom"] sp_lowV := by
  refine T.d_p_frac_of.fn.ok sc_p_frac_of (fun vs H Q E h => ?_) (fun cdv A outer s H vs Q E hr h => ?_)
  · obtain ⟨t, b, rfl, _⟩ := h
    rfl
  · obtain ⟨t, b, rfl, hb, ht, hb2, q⟩ := h
    refine ⟨_, (pss_cons (ps_set (i := 2) sc_p_frac_of.nd rfl (by first | exact Or.inl rfl | exact Or.inr rfl) (pe_callBfun cr_gcd (by rfl) T.m_gcd (pa_cons (pv 0) (pa_cons (pv 1) pa_nil))))
      (pss_cons (ps_if (pt_cmpR op_lt (pv 1) pe_int (nomark _)) (pss_one (ps_set (i := 2) sc_p_frac_of.nd rfl (by first | exact Or.inl rfl | exact Or.inr rfl) (pe_un un_neg (pv 2)))) pss_nil)
      (pss_one (ps_ret (pe_tupI (pa_cons (pe_op op_fdivX (pv 0) (pv 2)) (pa_cons (pe_op op_fdivX (pv 1) (pv 2)) pa_nil))))))), ?_⟩
    have hg : 0 < Nat.gcd t.natAbs b.natAbs := Nat.gcd_pos_of_pos_right _ (by omega)
    have hg2 : Nat.gcd t.natAbs b.natAbs < 2 ^ 8900 := Nat.lt_of_le_of_lt (Nat.le_of_dvd (by omega) (Nat.gcd_dvd_right _ _)) hb2
    obtain ⟨k1, k2⟩ := fdivs (t := t) hb
    refine ⟨_, rfl, _, rfl, _, _, rfl, ?_⟩
    refine ⟨_, rfl, _, _, rfl, rfl, _, rfl, ite2 (fun c => ?_) (fun c => ?_)⟩
    · have c1 : b < 0 := of_decide_eq_true c
      have hd : ∀ z : Int, DivOk z (-((Nat.gcd t.natAbs b.natAbs : Nat) : Int)) := fun z => divOk (b := 8900) (by omega) (by rw [Int.natAbs_neg, Int.natAbs_natCast]; exact hg2) (by decide) (by decide)
      refine ⟨_, rfl, _, rfl, _, rfl, _, rfl, _, _, rfl, rfl, hd _, _, rfl, _, rfl, _, _, rfl, rfl, hd _, rfl, fun p H1 s1 hp h1 => ?_⟩
      refine q p H1 s1 hp ?_
      rw [← (k1 c1).1, ← (k1 c1).2]
      exact h1
    · have c1 : ¬ b < 0 := of_decide_eq_false (Bool.eq_false_iff.mpr c)
      have hd : ∀ z : Int, DivOk z ((Nat.gcd t.natAbs b.natAbs : Nat) : Int) := fun z => divOk (b := 8900) (by omega) (by rw [Int.natAbs_natCast]; exact hg2) (by decide) (by decide)
      refine ⟨_, rfl, _, rfl, _, _, rfl, rfl, hd _, _, rfl, _, rfl, _, _, rfl, rfl, hd _, rfl, fun p H1 s1 hp h1 => ?_⟩
      refine q p H1 s1 hp ?_
      rw [← (k2 c1).1, ← (k2 c1).2]
      exact h1
theorem ok_p_frac_of (T : All K mg) : FnOk P w K mg base CX0 1 T.f_p_frac_of T.fd_p_frac_of ["top", "bottom"] (sp_lowW K) := (ok0_p_frac_of T).imp fun _ _ _ _ h => lowW h

end
end KR
namespace KR
open PySem PySem.Spec PyProof.Rows L2
section
variable {P : Program} {w : World} {K : PySem.W.Frag} {mg : Str → Option Value} {base : Heap}
theorem ok_p_sum_of (T : All K mg) : FnOk P w K mg base CX0 2 T.f_p_sum_of T.fd_p_sum_of ["one", "other"] (sp_w2 K (fun p q => p + q) (fun _ q => True)) := by
  refine T.d_p_sum_of.fn.ok sc_p_sum_of (fun vs H Q E h => ?_) (fun cdv A outer s H vs Q E hr h => ?_)
  · obtain ⟨x, y, p, q, rfl, _⟩ := h
    rfl
  · obtain ⟨x, y, p, q, rfl, hx, hy, zp, zq, hok, k⟩ := h
    have hx' : SqT K H x [.int p.num, .int (p.den : Int)] := hx
    have hy' : SqT K H y [.int q.num, .int (q.den : Int)] := hy
    refine ⟨_, (pss_one (ps_ret (pe_call (ok_p_frac_of T) hr (by rfl) T.d_p_frac_of.mg T.d_p_frac_of.fn.kp T.d_p_frac_of.b .nil pass0 (pa_cons (pe_op op_add (pe_op op_mulX (pe_ix (ixT (K := K) rfl) (pv 0) pe_int (fun _ _ => rfl)) (pe_ix (ixT (K := K) rfl) (pv 1) pe_int (fun _ _ => rfl))) (pe_op op_mulX (pe_ix (ixT (K := K) rfl) (pv 1) pe_int (fun _ _ => rfl)) (pe_ix (ixT (K := K) rfl) (pv 0) pe_int (fun _ _ => rfl)))) (pa_cons (pe_op op_mulX (pe_ix (ixT (K := K) rfl) (pv 0) pe_int (fun _ _ => rfl)) (pe_ix (ixT (K := K) rfl) (pv 1) pe_int (fun _ _ => rfl))) pa_nil))))), ?_⟩
    obtain ⟨a1, a2⟩ := zp
    obtain ⟨b1, b2⟩ := zq
    have hp := den_ne' p
    have hq := den_ne' q
    refine ⟨_, rfl, x, _, 0, _, rfl, rfl, hx', at0, _, rfl, y, _, 1, _, rfl, rfl, hy', at1, _, _, rfl, rfl, mulZ a1 b2 (by omega), _, rfl, y, _, 0, _, rfl, rfl, hy', at0, _, rfl, x, _, 1, _, rfl, rfl, hx', at1, _, _, rfl, rfl, mulZ b1 a2 (by omega), _, _, rfl, rfl, ?_⟩
    refine ⟨_, rfl, x, _, 1, _, rfl, rfl, hx', at1, _, rfl, y, _, 1, _, rfl, rfl, hy', at1, _, _, rfl, rfl, mulZ a2 b2 (by omega), ?_⟩
    refine ⟨_, _, rfl, Int.mul_ne_zero hp hq, lt_up (add_lt (wide_lt a1 b2) (wide_lt b1 a2)) (by omega), lt_up (wide_lt a2 b2) (by omega), ?_⟩
    intro z H' s1 n1 h1
    rw [rq_add] at h1
    exact k z H' s1 n1 h1

end
end KR
namespace KR
open PySem PySem.Spec PyProof.Rows L2
section
variable {P : Program} {w : World} {K : PySem.W.Frag} {mg : Str → Option Value} {base : Heap}
def sp_p_sum_of_all (K : PySem.W.Frag) : Sp := fun vs H Q _ => ∃ (a : Addr) (l : List Fz) (p : Bool), vs = [.ref a] ∧ SqB K H a (rz l) p ∧ FL K H l ∧ (∀ z ∈ l, Big z.2) ∧ AddOk (l.map (·.2)) ∧ ∀ z H', Same H H' → FrQ K H' z (zsum (l.map (·.2))) → Q (.ref z) H'
theorem ok_p_sum_of_all (T : All K mg) : FnOk P w K mg base CX0 3 T.f_p_sum_of_all T.fd_p_sum_of_all ["ones"] (sp_p_sum_of_all K) := by
  refine T.d_p_sum_of_all.fn.ok sc_p_sum_of_all (fun vs H Q E h => ?_) (fun cdv A outer s H vs Q E hr h => ?_)
  · obtain ⟨a, l, p, rfl, _⟩ := h
    rfl
  · obtain ⟨a, l, p, rfl, ha, hf, big, add, q⟩ := h
    refine ⟨_, (pss_cons (ps_set (i := 1) sc_p_sum_of_all.nd rfl (by first | exact Or.inl rfl | exact Or.inr rfl) (pe_glob (v := .ref T.C_NOUGHT) rfl T.g_NOUGHT rfl))
      (pss_cons (ps_for PassesOwn.never rfl (pi_seqB (K := K) rfl (pv 0)) (pg_name (i := 2) sc_p_sum_of_all.nd rfl (by first | exact Or.inl rfl | exact Or.inr rfl)) (pss_one (ps_set (i := 1) sc_p_sum_of_all.nd rfl (by first | exact Or.inl rfl | exact Or.inr rfl) (pe_call (ok_p_sum_of T) hr (by rfl) T.d_p_sum_of.mg T.d_p_sum_of.fn.kp T.d_p_sum_of.b .nil pass0 (pa_cons (pv 1) (pa_cons (pv 2) pa_nil))))))
      (pss_one (ps_ret (pv 1))))), ?_⟩
    have s1 : Same H H := .refl _
    have h1 : FrQ K H T.C_NOUGHT 0 := T.q_NOUGHT H
    cases p with
    | true => exact ⟨_, rfl, a, rfl, .inl ⟨⟨_, s1.seq ha⟩, all_loop walk_list (fun H' s => s.seq ha) s1 h1 hf big add fun z v H' s hz => ⟨_, rfl, q z H' s hz⟩⟩⟩
    | false => exact ⟨_, rfl, a, rfl, .inr ⟨⟨_, Same.tup s1 ha⟩, all_loop walk_tup (fun H' s => Same.tup s ha) s1 h1 hf big add fun z v H' s hz => ⟨_, rfl, q z H' s hz⟩⟩⟩

end
end KR
namespace KR
open PySem PySem.Spec PyProof.Rows L2
section
variable {P : Program} {w : World} {K : PySem.W.Frag} {mg : Str → Option Value} {base : Heap}
theorem ok_p_difference (T : All K mg) : FnOk P w K mg base CX0 2 T.f_p_difference T.fd_p_difference ["one", "other"] (sp_w2 K (fun p q => p - q) (fun _ q => True)) := by
  refine T.d_p_difference.fn.ok sc_p_difference (fun vs H Q E h => ?_) (fun cdv A outer s H vs Q E hr h => ?_)
  · obtain ⟨x, y, p, q, rfl, _⟩ := h
    rfl
  · obtain ⟨x, y, p, q, rfl, hx, hy, zp, zq, hok, k⟩ := h
    have hx' : SqT K H x [.int p.num, .int (p.den : Int)] := hx
    have hy' : SqT K H y [.int q.num, .int (q.den : Int)] := hy
    refine ⟨_, (pss_one (ps_ret (pe_call (ok_p_frac_of T) hr (by rfl) T.d_p_frac_of.mg T.d_p_frac_of.fn.kp T.d_p_frac_of.b .nil pass0 (pa_cons (pe_op op_sub (pe_op op_mulX (pe_ix (ixT (K := K) rfl) (pv 0) pe_int (fun _ _ => rfl)) (pe_ix (ixT (K := K) rfl) (pv 1) pe_int (fun _ _ => rfl))) (pe_op op_mulX (pe_ix (ixT (K := K) rfl) (pv 1) pe_int (fun _ _ => rfl)) (pe_ix (ixT (K := K) rfl) (pv 0) pe_int (fun _ _ => rfl)))) (pa_cons (pe_op op_mulX (pe_ix (ixT (K := K) rfl) (pv 0) pe_int (fun _ _ => rfl)) (pe_ix (ixT (K := K) rfl) (pv 1) pe_int (fun _ _ => rfl))) pa_nil))))), ?_⟩
    obtain ⟨a1, a2⟩ := zp
    obtain ⟨b1, b2⟩ := zq
    have hp := den_ne' p
    have hq := den_ne' q
    refine ⟨_, rfl, x, _, 0, _, rfl, rfl, hx', at0, _, rfl, y, _, 1, _, rfl, rfl, hy', at1, _, _, rfl, rfl, mulZ a1 b2 (by omega), _, rfl, y, _, 0, _, rfl, rfl, hy', at0, _, rfl, x, _, 1, _, rfl, rfl, hx', at1, _, _, rfl, rfl, mulZ b1 a2 (by omega), _, _, rfl, rfl, ?_⟩
    refine ⟨_, rfl, x, _, 1, _, rfl, rfl, hx', at1, _, rfl, y, _, 1, _, rfl, rfl, hy', at1, _, _, rfl, rfl, mulZ a2 b2 (by omega), ?_⟩
    refine ⟨_, _, rfl, Int.mul_ne_zero hp hq, lt_up (sub_lt (wide_lt a1 b2) (wide_lt b1 a2)) (by omega), lt_up (wide_lt a2 b2) (by omega), ?_⟩
    intro z H' s1 n1 h1
    rw [rq_sub] at h1
    exact k z H' s1 n1 h1

end
end KR
namespace KR
open PySem PySem.Spec PyProof.Rows L2
section
variable {P : Program} {w : World} {K : PySem.W.Frag} {mg : Str → Option Value} {base : Heap}
theorem ok_p_product (T : All K mg) : FnOk P w K mg base CX0 2 T.f_p_product T.fd_p_product ["one", "other"] (sp_w2 K (fun p q => p * q) (fun _ q => True)) := by
  refine T.d_p_product.fn.ok sc_p_product (fun vs H Q E h => ?_) (fun cdv A outer s H vs Q E hr h => ?_)
  · obtain ⟨x, y, p, q, rfl, _⟩ := h
    rfl
  · obtain ⟨x, y, p, q, rfl, hx, hy, zp, zq, hok, k⟩ := h
    have hx' : SqT K H x [.int p.num, .int (p.den : Int)] := hx
    have hy' : SqT K H y [.int q.num, .int (q.den : Int)] := hy
    refine ⟨_, (pss_one (ps_ret (pe_call (ok_p_frac_of T) hr (by rfl) T.d_p_frac_of.mg T.d_p_frac_of.fn.kp T.d_p_frac_of.b .nil pass0 (pa_cons (pe_op op_mulX (pe_ix (ixT (K := K) rfl) (pv 0) pe_int (fun _ _ => rfl)) (pe_ix (ixT (K := K) rfl) (pv 1) pe_int (fun _ _ => rfl))) (pa_cons (pe_op op_mulX (pe_ix (ixT (K := K) rfl) (pv 0) pe_int (fun _ _ => rfl)) (pe_ix (ixT (K := K) rfl) (pv 1) pe_int (fun _ _ => rfl))) pa_nil))))), ?_⟩
    obtain ⟨a1, a2⟩ := zp
    obtain ⟨b1, b2⟩ := zq
    have hp := den_ne' p
    have hq := den_ne' q
    refine ⟨_, rfl, x, _, 0, _, rfl, rfl, hx', at0, _, rfl, y, _, 0, _, rfl, rfl, hy', at0, _, _, rfl, rfl, mulZ a1 b1 (by omega), ?_⟩
    refine ⟨_, rfl, x, _, 1, _, rfl, rfl, hx', at1, _, rfl, y, _, 1, _, rfl, rfl, hy', at1, _, _, rfl, rfl, mulZ a2 b2 (by omega), ?_⟩
    refine ⟨_, _, rfl, Int.mul_ne_zero hp hq, lt_up (wide_lt a1 b1) (by omega), lt_up (wide_lt a2 b2) (by omega), ?_⟩
    intro z H' s1 n1 h1
    rw [rq_mul] at h1
    exact k z H' s1 n1 h1

end
end KR
namespace KR
open PySem PySem.Spec PyProof.Rows L2
section
variable {P : Program} {w : World} {K : PySem.W.Frag} {mg : Str → Option Value} {base : Heap}
theorem ok_p_quotient (T : All K mg) : FnOk P w K mg base CX0 2 T.f_p_quotient T.fd_p_quotient ["one", "other"] (sp_w2 K (fun p q => p / q) (fun _ q => q ≠ 0)) := by
  refine T.d_p_quotient.fn.ok sc_p_quotient (fun vs H Q E h => ?_) (fun cdv A outer s H vs Q E hr h => ?_)
  · obtain ⟨x, y, p, q, rfl, _⟩ := h
    rfl
  · obtain ⟨x, y, p, q, rfl, hx, hy, zp, zq, hok, k⟩ := h
    have hx' : SqT K H x [.int p.num, .int (p.den : Int)] := hx
    have hy' : SqT K H y [.int q.num, .int (q.den : Int)] := hy
    refine ⟨_, (pss_one (ps_ret (pe_call (ok_p_frac_of T) hr (by rfl) T.d_p_frac_of.mg T.d_p_frac_of.fn.kp T.d_p_frac_of.b .nil pass0 (pa_cons (pe_op op_mulX (pe_ix (ixT (K := K) rfl) (pv 0) pe_int (fun _ _ => rfl)) (pe_ix (ixT (K := K) rfl) (pv 1) pe_int (fun _ _ => rfl))) (pa_cons (pe_op op_mulX (pe_ix (ixT (K := K) rfl) (pv 0) pe_int (fun _ _ => rfl)) (pe_ix (ixT (K := K) rfl) (pv 1) pe_int (fun _ _ => rfl))) pa_nil))))), ?_⟩
    obtain ⟨a1, a2⟩ := zp
    obtain ⟨b1, b2⟩ := zq
    have hp := den_ne' p
    have hq := den_ne' q
    refine ⟨_, rfl, x, _, 0, _, rfl, rfl, hx', at0, _, rfl, y, _, 1, _, rfl, rfl, hy', at1, _, _, rfl, rfl, mulZ a1 b2 (by omega), ?_⟩
    refine ⟨_, rfl, x, _, 1, _, rfl, rfl, hx', at1, _, rfl, y, _, 0, _, rfl, rfl, hy', at0, _, _, rfl, rfl, mulZ a2 b1 (by omega), ?_⟩
    refine ⟨_, _, rfl, Int.mul_ne_zero hp (num_ne hok), lt_up (wide_lt a1 b2) (by omega), lt_up (wide_lt a2 b1) (by omega), ?_⟩
    intro z H' s1 n1 h1
    rw [rq_div] at h1
    exact k z H' s1 n1 h1

end
end KR
namespace KR
open PySem PySem.Spec PyProof.Rows L2
section
variable {P : Program} {w : World} {K : PySem.W.Frag} {mg : Str → Option Value} {base : Heap}
theorem ok_p_is_lesser (T : All K mg) : FnOk P w K mg base CX0 3 T.f_p_is_lesser T.fd_p_is_lesser ["one", "other"] (sp_lessW K) := by
  refine T.d_p_is_lesser.fn.ok sc_p_is_lesser (fun vs H Q E h => ?_) (fun cdv A outer s H vs Q E hr h => ?_)
  · obtain ⟨x, y, p, q, rfl, _⟩ := h
    rfl
  · obtain ⟨x, y, p, q, rfl, hx, hy, zp, zq, k⟩ := h
    have hx' : SqT K H x [.int p.num, .int (p.den : Int)] := hx
    have hy' : SqT K H y [.int q.num, .int (q.den : Int)] := hy
    refine ⟨_, (pss_one (ps_ret (pe_and (pe_call (ok_p_is_frac T) hr (by rfl) T.d_p_is_frac.mg T.d_p_is_frac.fn.kp T.d_p_is_frac.b .nil pass0 (pa_cons (pv 1) pa_nil)) (pe_one (pe_cmpR op_lt (pe_op op_mulX (pe_ix (ixT (K := K) rfl) (pv 0) pe_int (fun _ _ => rfl)) (pe_ix (ixT (K := K) rfl) (pv 1) pe_int (fun _ _ => rfl))) (pe_op op_mulX (pe_ix (ixT (K := K) rfl) (pv 1) pe_int (fun _ _ => rfl)) (pe_ix (ixT (K := K) rfl) (pv 0) pe_int (fun _ _ => rfl))) (nomark _)))))), ?_⟩
    refine ⟨_, rfl, y, q.num, (q.den : Int), rfl, hy, rat_low q, true, rfl, ite_bT rfl ?_⟩
    obtain ⟨a1, a2⟩ := zp
    obtain ⟨b1, b2⟩ := zq
    refine ⟨_, rfl, x, _, 0, _, rfl, rfl, hx', at0, _, rfl, y, _, 1, _, rfl, rfl, hy', at1, _, _, rfl, rfl, mulZ a1 b2 (by omega), ?_⟩
    refine ⟨_, rfl, y, _, 0, _, rfl, rfl, hy', at0, _, rfl, x, _, 1, _, rfl, rfl, hx', at1, _, _, rfl, rfl, mulZ b1 a2 (by omega), _, _, rfl, rfl, ?_⟩
    have e : decide (p.num * (q.den : Int) < q.num * (p.den : Int)) = decide (p < q) := by
      rw [decide_eq_decide]
      exact lt_cross p q
    show Q (.bl (decide (p.num * (q.den : Int) < q.num * (p.den : Int)))) H
    rw [e]
    exact k

end
end KR
namespace KR
open PySem PySem.Spec PyProof.Rows L2
section
variable {P : Program} {w : World} {K : PySem.W.Frag} {mg : Str → Option Value} {base : Heap}
def sp_p__dripped_of (K : PySem.W.Frag) : Sp := fun vs H Q _ => ∃ (kl al : Addr) (ks : List Kn) (am : List Fz) (M B n : Nat) (p p2 : Bool), vs = [.ref kl, .ref al] ∧ SqB K H kl (rk ks) p ∧ SqB K H al (rz am) p2 ∧ KnL K H n ks ∧ FL K H am ∧ am.length = ks.length ∧ ks.length ≤ 6 ∧ AmOk M B (am.map (·.2)) ∧
  ∀ (f : Addr) (l : List Fz) (H' : Hp), Same H H' → H f = none → H' f = some (.lst (rz l)) → FL K H' l → l.map (·.2) = dripsQ (ks.map Kn.q) (am.map (·.2)) → Q (.ref f) H'
theorem ok_p__dripped_of (T : All K mg) : FnOk P w K mg base CX0 3 T.f_p__dripped_of T.fd_p__dripped_of ["kinds", "amounts"] (sp_p__dripped_of K) := by
  refine T.d_p__dripped_of.fn.ok sc_p__dripped_of (fun vs H Q E h => ?_) (fun cdv A outer s H vs Q E hr h => ?_)
  · obtain ⟨kl, al, ks, am, M, B, n, p, p2, rfl, _⟩ := h
    rfl
  · obtain ⟨kl, al, ks, am, M, B, n, p, p2, rfl, hk, ha, L, fa, len, l6, ok, q⟩ := h
    refine ⟨_, (pss_one (ps_ret (pe_lc (own := [("amount", 2), ("_", 3), ("drip", 4), ("_", 3)]) (g := gTup K 2 (gCons (gName 2) (gCons (gTup K 3 (gCons (gName 3) (gCons (gName 4) (gCons (gName 3) gNil)))) gNil))) (tt := tYes) (by rfl) sc_p__dripped_of.nd (pi_zipB (K := K) rfl (by rfl) T.b_zip (pa_cons (pv 1) (pa_cons (pv 0) pa_nil))) (blkOk_by (own := [("amount", 2), ("_", 3), ("drip", 4), ("_", 3)]) (N := ["kinds", "amounts", "amount", "_", "drip"]) (sc := defScope s_p__dripped_of) (by decide +kernel)) (fun _ _ _ _ _ => (pg_tupK (K := K) rfl rfl (pgs_cons (pg_name (i := 2) sc_p__dripped_of.nd rfl (by first | exact Or.inl rfl | exact Or.inr rfl)) (pgs_cons (pg_tupK (K := K) rfl rfl (pgs_cons (pg_name (i := 3) sc_p__dripped_of.nd rfl (by first | exact Or.inl rfl | exact Or.inr rfl)) (pgs_cons (pg_name (i := 4) sc_p__dripped_of.nd rfl (by first | exact Or.inl rfl | exact Or.inr rfl)) (pgs_cons (pg_name (i := 3) sc_p__dripped_of.nd rfl (by first | exact Or.inl rfl | exact Or.inr rfl)) pgs_nil)))) pgs_nil)))) (fun _ _ _ _ _ => pts_nil) (fun _ _ _ _ _ => (pe_call (ok_p_product T) hr (by rfl) T.d_p_product.mg T.d_p_product.fn.kp T.d_p_product.b .nil pass0 (pa_cons (pv 2) (pa_cons (pv 4) pa_nil))))))), ?_⟩
    have lq : (am.map (·.2)).length = (ks.map Kn.q).length := by rw [List.length_map, List.length_map, len]
    refine ⟨_, rfl, _, rfl, al, kl, rz am, rk ks, p2, p, rfl, ha, hk, fun D hD => ?_⟩
    refine lc_it (walk_zipB (K := K) (a := al) (b := kl) (xs := rz am) (ys := rk ks) (p := p2) (q := p) (n := ks.length) ((rz_len am).trans len) (rk_len ks)) (fun j H' => ∃ m : List Fz, Same H H' ∧ H' D = some (.lst (rz m)) ∧ FL K H' m ∧ m.map (·.2) = (dripsQ (ks.map Kn.q) (am.map (·.2))).take j)
      ⟨[], same_new hD, upd_same, .nil, rfl⟩ (fun j H' _ ⟨m, s, _⟩ => ⟨ha.same s, hk.same s⟩) ?_ ?_
    · rintro j v H4 H5 hj ⟨m, s4, hD4, fm, em⟩ ⟨U, x1, y1, rfl, hU, rfl, gx, gy⟩
      obtain ⟨za, ea, rfl⟩ := rz_get gx
      obtain ⟨kj, ekj, rfl⟩ := rk_get gy
      have sU : Same H4 (upd H4 U (.tup [.ref za.1, .ref kj.a])) := same_new hU
      have hU5 : (upd H4 U (.tup [.ref za.1, .ref kj.a])) U = some (.tup [.ref za.1, .ref kj.a]) := upd_same
      generalize upd H4 U (.tup [.ref za.1, .ref kj.a]) = H5 at sU hU5
      have s5 := s4.trans sU
      have mk := List.mem_of_getElem? ekj
      have ma := List.mem_of_getElem? ea
      have mq : za.2 ∈ am.map (·.2) := List.mem_map.mpr ⟨za, ma, rfl⟩
      have KO := (L kj mk).same s5
      have fz := (fa za ma).same s5
      refine ⟨U, _, rfl, SqT.of hU5, rfl, _, _, rfl, _, _, rfl, kj.a, _, rfl, KO.at_, rfl, _, _, rfl, _, _, rfl, _, _, rfl, rfl, rfl, rfl, yesT ?_⟩
      refine ⟨_, rfl, _, rfl, za.1, kj.d, za.2, kj.drip, rfl, fz, KO.dr, ok.one mq, part_big KO.pd, trivial, fun z2 H7 s7 n7 h7 => ?_⟩
      have s47 := sU.trans s7
      have hD7 := s47 _ _ hD4
      have ml : m.length ≤ 6 := by
        have e := congrArg List.length em
        rw [List.length_map, List.length_take, drips_len lq, List.length_map] at e
        omega
      refine ⟨_, hD7, by rw [rz_len]; exact small' (by omega), m ++ [(z2, za.2 * kj.drip)], Same.put (s4.trans s47) hD, by rw [upd_same, rz_snoc], FL.put (FL.snoc (fm.same s47) h7) hD7, ?_⟩
      have cg := drips_get (ks := ks.map Kn.q) (rz_q ea) (by rw [List.getElem?_map, ekj] <;> rfl)
      rw [List.map_append, em, take_one cg] <;> rfl
    · rintro H4 ⟨m, s4, hD4, fm, em⟩
      refine q D m H4 s4 hD hD4 fm ?_
      rw [em, ← List.length_map (as := ks) Kn.q, ← drips_len lq, List.take_length]

end
end KR
namespace KR
open PySem PySem.Spec PyProof.Rows L2
section
variable {P : Program} {w : World} {K : PySem.W.Frag} {mg : Str → Option Value} {base : Heap}
def sp_p_walked_once (K : PySem.W.Frag) : Sp := fun vs H Q _ => ∃ (kl al : Addr) (ks : List Kn) (am : List Fz) (M B : Nat) (p p2 : Bool), vs = [.ref kl, .ref al] ∧ SqB K H kl (rk ks) p ∧ SqB K H al (rz am) p2 ∧ KnL K H ks.length ks ∧ FL K H am ∧ am.length = ks.length ∧ ks.length ≤ 6 ∧ AmOk M B (am.map (·.2)) ∧
  ∀ (f : Addr) (l : List Fz) (H' : Hp), Same H H' → H f = none → H' f = some (.lst (rz l)) → FL K H' l → l.map (·.2) = onceQ (ks.map Kn.q) (am.map (·.2)) → Q (.ref f) H'
theorem ok_p_walked_once (T : All K mg) : FnOk P w K mg base CX0 4 T.f_p_walked_once T.fd_p_walked_once ["kinds", "amounts"] (sp_p_walked_once K) := by
  refine T.d_p_walked_once.fn.ok sc_p_walked_once (fun vs H Q E h => ?_) (fun cdv A outer s H vs Q E hr h => ?_)
  · obtain ⟨kl, al, ks, am, M, B, p, p2, rfl, _⟩ := h
    rfl
  · obtain ⟨kl, al, ks, am, M, B, p, p2, rfl, hk, ha, L, fa, len, l6, ok, q⟩ := h
    refine ⟨_, (pss_cons (ps_set (i := 2) sc_p_walked_once.nd rfl (by first | exact Or.inl rfl | exact Or.inr rfl) (pe_call (ok_p__dripped_of T) hr (by rfl) T.d_p__dripped_of.mg T.d_p__dripped_of.fn.kp T.d_p__dripped_of.b .nil pass0 (pa_cons (pv 0) (pa_cons (pv 1) pa_nil))))
      (pss_cons (ps_set (i := 3) sc_p_walked_once.nd rfl (by first | exact Or.inl rfl | exact Or.inr rfl) (pe_lstI pa_nil))
      (pss_cons (ps_for PassesOwn.never rfl (pi_enumB (K := K) rfl (by rfl) T.b_enumerate (pa_cons (pv 0) pa_nil)) (pg_tupK (K := K) rfl rfl (pgs_cons (pg_name (i := 4) sc_p_walked_once.nd rfl (by first | exact Or.inl rfl | exact Or.inr rfl)) (pgs_cons (pg_tupK (K := K) rfl rfl (pgs_cons (pg_name (i := 5) sc_p_walked_once.nd rfl (by first | exact Or.inl rfl | exact Or.inr rfl)) (pgs_cons (pg_name (i := 6) sc_p_walked_once.nd rfl (by first | exact Or.inl rfl | exact Or.inr rfl)) (pgs_cons (pg_name (i := 6) sc_p_walked_once.nd rfl (by first | exact Or.inl rfl | exact Or.inr rfl)) pgs_nil)))) pgs_nil))) (pss_cons (ps_setLc (i := 7) (own := [("drips", 8), ("_", 6), ("_", 6), ("goes", 9)]) (g := gTup K 2 (gCons (gName 8) (gCons (gTup K 3 (gCons (gName 6) (gCons (gName 6) (gCons (gName 9) gNil)))) gNil))) (tt := tYes) (by rfl) sc_p_walked_once.nd rfl rfl (sw_true rfl rfl rfl (by decide +kernel)) (pi_zipB (K := K) rfl (by rfl) T.b_zip (pa_cons (pv 2) (pa_cons (pv 0) pa_nil))) (blkOk_by (own := [("drips", 8), ("_", 6), ("_", 6), ("goes", 9)]) (N := ["kinds", "amounts", "dripped", "later", "place", "fresh", "_", "come", "drips", "goes"]) (sc := defScope s_p_walked_once) (by decide +kernel)) (fun _ _ _ _ _ => (pg_tupK (K := K) rfl rfl (pgs_cons (pg_name (i := 8) sc_p_walked_once.nd rfl (by first | exact Or.inl rfl | exact Or.inr rfl)) (pgs_cons (pg_tupK (K := K) rfl rfl (pgs_cons (pg_name (i := 6) sc_p_walked_once.nd rfl (by first | exact Or.inl rfl | exact Or.inr rfl)) (pgs_cons (pg_name (i := 6) sc_p_walked_once.nd rfl (by first | exact Or.inl rfl | exact Or.inr rfl)) (pgs_cons (pg_name (i := 9) sc_p_walked_once.nd rfl (by first | exact Or.inl rfl | exact Or.inr rfl)) pgs_nil)))) pgs_nil)))) (fun _ _ _ _ _ => pts_nil) (fun _ _ _ _ _ => (pe_call (ok_p_product T) (hr.mono (by decide)) (by rfl) T.d_p_product.mg T.d_p_product.fn.kp T.d_p_product.b .nil pass0 (pa_cons (pv 8) (pa_cons (pe_ix (ixT (K := K) rfl) (pv 9) (pv 4) (fun _ _ => rfl)) pa_nil)))))
      (pss_one (ps_expr (pe_bm PySem.F.plainAttrs_list PySem.F.slot_list_append PySem.F.type_list_append mt_append (pv 3) (pa_cons (pe_call (ok_p_sum_of T) (hr.mono (by decide)) (by rfl) T.d_p_sum_of.mg T.d_p_sum_of.fn.kp T.d_p_sum_of.b .nil pass0 (pa_cons (pe_tupI (pa_cons (pv 5) (pa_cons pe_int pa_nil))) (pa_cons (pe_call (ok_p_sum_of_all T) hr (by rfl) T.d_p_sum_of_all.mg T.d_p_sum_of_all.fn.kp T.d_p_sum_of_all.b .nil pass0 (pa_cons (pv 7) pa_nil)) pa_nil))) pa_nil))))))
      (pss_one (ps_ret (pv 3)))))), ?_⟩
    have kq := kq_mem L
    have lq : (am.map (·.2)).length = (ks.map Kn.q).length := by rw [List.length_map, List.length_map, len]
    have k6 : (ks.map Kn.q).length ≤ 6 := by rw [List.length_map]; exact l6
    refine ⟨_, rfl, _, rfl, kl, al, ks, am, M, B, ks.length, p, p2, rfl, hk, ha, L, fa, len, l6, ok, fun dl dr H0 s0 n0 h0 fd ed => ?_⟩
    have dlen : dr.length = ks.length := by
      have e := congrArg List.length ed
      rw [List.length_map, drips_len lq, List.length_map] at e
      exact e
    refine ⟨rfl, fun f H1 s1' n1' h1 => ?_⟩
    have s1 := s0.trans s1'
    have n1 : H f = none := by
      cases e : H f with
      | none => rfl
      | some o =>
        have k := s0 _ _ e
        rw [n1'] at k
        cases k
    have hd1 := s1' _ _ h0
    have fd1 := fd.same s1'
    refine ⟨_, rfl, kl, rk ks, p, rfl, hk.same s1, for_it (walk_enumB (K := K) (a := kl) (xs := rk ks) (p := p)) (fun i σ H' => ∃ (l : List Fz) (v4 v5 v6 v7 v8 v9 : Option V), σ = [some (.ref kl), some (.ref al), some (.ref dl), some (.ref f), v4, v5, v6, v7, v8, v9] ∧ Same H H' ∧ H' dl = some (.lst (rz dr)) ∧ FL K H' dr ∧ H' f = some (.lst (rz l)) ∧ FL K H' l ∧ l.map (·.2) = (onceQ (ks.map Kn.q) (am.map (·.2))).take i)
      ⟨[], none, none, none, none, none, none, rfl, s1, hd1, fd1, h1, .nil, rfl⟩ (fun i σ H' _ ⟨_, _, _, _, _, _, _, _, s, _⟩ => hk.same s) ?_ ?_⟩
    · rintro i x σ H2 H3 hi ⟨l, v4, v5, v6, v7, v8, v9, rfl, s2, hd2, fd2, hf, fl, el⟩ ⟨T0, x0, y0, rfl, hT, rfl, e0, ex⟩
      obtain rfl := Option.some.inj e0
      obtain ⟨k, ek, rfl⟩ := rk_get ex
      have il : i < ks.length := (List.getElem?_eq_some_iff.mp ek).1
      have sT : Same H2 (upd H2 T0 (.tup [.int (i : Nat), .ref k.a])) := same_new hT
      have hT3 : (upd H2 T0 (.tup [.int (i : Nat), .ref k.a])) T0 = some (.tup [.int (i : Nat), .ref k.a]) := upd_same
      generalize upd H2 T0 (.tup [.int (i : Nat), .ref k.a]) = H3 at sT hT3
      have s3 := s2.trans sT
      have KO3 := (L k (List.mem_of_getElem? ek)).same s3
      refine ⟨T0, _, rfl, SqT.of hT3, rfl, _, _, rfl, _, _, rfl, k.a, _, rfl, KO3.at_, rfl, _, _, rfl, _, _, rfl, _, _, rfl, rfl, rfl, ?_⟩
      have hd3 := sT _ _ hd2
      have fd3 := fd2.same sT
      refine ⟨_, rfl, _, rfl, dl, kl, rz dr, rk ks, true, p, rfl, SqL.of hd3, hk.same s3, fun D hD => ?_⟩
      refine lc_it (walk_zipB (K := K) (a := dl) (b := kl) (xs := rz dr) (ys := rk ks) (p := true) (q := p) (n := ks.length) ((rz_len dr).trans dlen) (rk_len ks)) (fun j H' => ∃ m : List Fz, Same H3 H' ∧ H' D = some (.lst (rz m)) ∧ FL K H' m ∧ m.map (·.2) = (comes (ks.map Kn.q) (am.map (·.2)) i).take j)
        ⟨[], same_new hD, upd_same, .nil, rfl⟩ (fun j H' _ ⟨m, s, _⟩ => ⟨SqL.of (s _ _ hd3), hk.same (s3.trans s)⟩) ?_ ?_
      · rintro j v H4 H5 hj ⟨m, s4, hD4, fm, em⟩ ⟨U, x1, y1, rfl, hU, rfl, gx, gy⟩
        obtain ⟨zd, ezd, rfl⟩ := rz_get gx
        obtain ⟨kj, ekj, rfl⟩ := rk_get gy
        have sU : Same H4 (upd H4 U (.tup [.ref zd.1, .ref kj.a])) := same_new hU
        have hU5 : (upd H4 U (.tup [.ref zd.1, .ref kj.a])) U = some (.tup [.ref zd.1, .ref kj.a]) := upd_same
        generalize upd H4 U (.tup [.ref zd.1, .ref kj.a]) = H5 at sU hU5
        have s45 := s4.trans sU
        have s5 := s3.trans s45
        have mk := List.mem_of_getElem? ekj
        have ja : j < am.length := by rw [len]; exact hj
        have ea : am[j]? = some am[j] := List.getElem?_eq_getElem ja
        generalize am[j] = za at ea
        have ma := List.mem_of_getElem? ea
        have mq : za.2 ∈ am.map (·.2) := List.mem_map.mpr ⟨za, ma, rfl⟩
        have KO := (L kj mk).same s5
        have fz := (fd3 zd (List.mem_of_getElem? ezd)).same s45
        have ezq : zd.2 = za.2 * kj.drip := by
          have k1 := rz_q ezd
          rw [ed, drips_get (ks := ks.map Kn.q) (rz_q ea) (by rw [List.getElem?_map, ekj] <;> rfl)] at k1
          exact (Option.some.inj k1).symm
        rw [ezq] at fz
        have gi : i < kj.goes.length := by rw [(L kj mk).go.len]; exact il
        have gg : kj.goes[i]? = some kj.goes[i] := List.getElem?_eq_getElem gi
        generalize kj.goes[i] = zg at gg
        have mg' := List.mem_of_getElem? gg
        have gx2 : (rz kj.goes)[i]? = some (.ref zg.1) := by
          unfold rz
          rw [List.getElem?_map, gg] <;> rfl
        have pz := KO.go.pa zg mg'
        refine ⟨U, _, rfl, SqT.of hU5, rfl, _, _, rfl, _, _, rfl, kj.a, _, rfl, KO.at_, rfl, _, _, rfl, _, _, rfl, _, _, rfl, rfl, rfl, rfl, yesT ?_⟩
        refine ⟨_, rfl, _, rfl, _, rfl, kj.g, _, (i : Int), _, rfl, rfl, KO.gs, at_of rfl gx2, zd.1, zg.1, _, zg.2, rfl, fz, KO.go.fl zg mg', ok.drips_big mq KO.pd, part_big pz, trivial, fun z2 H7 s7 n7 h7 => ?_⟩
        have s47 := sU.trans s7
        have hD7 := s47 _ _ hD4
        have ml : m.length ≤ 6 := by
          have e := congrArg List.length em
          rw [List.length_map, List.length_take, comes_len lq, List.length_map] at e
          omega
        refine ⟨_, hD7, by rw [rz_len]; exact small' (by omega), m ++ [(z2, za.2 * kj.drip * zg.2)], Same.put (s4.trans s47) hD, by rw [upd_same, rz_snoc], FL.put (FL.snoc (fm.same s47) h7) hD7, ?_⟩
        have cg := comes_get (ks := ks.map Kn.q) (p := i) (rz_q ea) (by rw [List.getElem?_map, ekj] <;> rfl)
        rw [getD_goes gg] at cg
        rw [List.map_append, em, take_one cg] <;> rfl
      · rintro H4 ⟨m, s4, hD4, fm, em⟩
        have em' : m.map (·.2) = comes (ks.map Kn.q) (am.map (·.2)) i := by
          rw [em, ← List.length_map (as := ks) Kn.q, ← comes_len (p := i) lq, List.take_length]
        have s4' := s3.trans s4
        have hf4 := s4 _ _ (sT _ _ hf)
        refine ⟨_, rfl, .inl ⟨rfl, _, SqL.of hf4⟩, _, rfl, rfl, fun u H5 s5 n5 h5 => ?_⟩
        have bigm : ∀ z ∈ m, Big z.2 := fun z hz => by
          have mm : z.2 ∈ m.map (·.2) := List.mem_map.mpr ⟨z, hz, rfl⟩
          rw [em'] at mm
          obtain ⟨c1, c2, c3⟩ := ok.all kq i _ mm
          exact ok.big c1 (Nat.dvd_refl _) c2 (AmOk.up (a := ok) c3)
        refine ⟨_, rfl, D, m, true, rfl, SqL.of (s5 _ _ hD4), fm.same s5, bigm, by rw [em']; exact ok.add kq k6 lq i, fun z H6 s6 hz => ?_⟩
        rw [em'] at hz
        refine ⟨u, z, (k.fresh : Rat), _, rfl, FrQ.int (s6 _ _ h5), hz, fresh_big KO3.f0 KO3.f1, ok.sum_big kq k6 lq i, trivial, fun r H7 s7 n7 h7 => ?_⟩
        have s47 := s5.trans (s6.trans s7)
        have sA := sT.trans (s4.trans s47)
        have hf7 := s47 _ _ hf4
        have hd7 := sA _ _ hd2
        have ll : l.length ≤ 6 := by
          have e := congrArg List.length el
          rw [List.length_map, List.length_take, once_len, List.length_map] at e
          omega
        have dne : dl ≠ f := fun z => by
          rw [z, n1'] at h0
          cases h0
        refine ⟨f, _, _, rfl, rfl, hf7, by rw [rz_len]; exact small' (by omega), ?_⟩
        refine ⟨l ++ [(r, (k.fresh : Rat) + zsum (comes (ks.map Kn.q) (am.map (·.2)) i))], _, _, _, _, _, _, rfl, Same.put (s4'.trans s47) n1, by rw [upd_ne dne]; exact hd7, FL.put (fd2.same sA) hf7, by rw [upd_same, rz_snoc], FL.put (FL.snoc (fl.same sA) h7) hf7, ?_⟩
        have og := once_get (ks := ks.map Kn.q) (qs := am.map (·.2)) (i := i) (by rw [List.length_map]; exact il)
        have eo : onceAt (ks.map Kn.q) (am.map (·.2)) i = (k.fresh : Rat) + zsum (comes (ks.map Kn.q) (am.map (·.2)) i) := by
          unfold onceAt
          rw [getD_fresh ek]
        rw [eo] at og
        rw [List.map_append, el, take_one og] <;> rfl
    · rintro σ H2 ⟨l, v4, v5, v6, v7, v8, v9, rfl, s2, _, _, hf, fl, el⟩
      refine ⟨_, rfl, q f l H2 s2 n1 hf fl ?_⟩
      rw [el, rk_len, ← List.length_map (as := ks) Kn.q, ← once_len (ks.map Kn.q) (am.map (·.2)), List.take_length]

end
end KR
namespace KR
open PySem PySem.Spec PyProof.Rows L2
section
variable {P : Program} {w : World} {K : PySem.W.Frag} {mg : Str → Option Value} {base : Heap}
theorem ok_p_gap_between (T : All K mg) : FnOk P w K mg base CX0 4 T.f_p_gap_between T.fd_p_gap_between ["one", "other"] (sp_gap K) := by
  refine T.d_p_gap_between.fn.ok sc_p_gap_between (fun vs H Q E h => ?_) (fun cdv A outer s H vs Q E hr h => ?_)
  · obtain ⟨x, y, a, b, p1, p2, rfl, _⟩ := h
    rfl
  · obtain ⟨x, y, a, b, p1, p2, rfl, hx, hy, fa, fb, len, l6, ok, q⟩ := h
    refine ⟨_, (pss_cons (ps_set (i := 2) sc_p_gap_between.nd rfl (by first | exact Or.inl rfl | exact Or.inr rfl) (pe_lstI pa_nil))
      (pss_cons (ps_for PassesOwn.never rfl (pi_zipB (K := K) rfl (by rfl) T.b_zip (pa_cons (pv 0) (pa_cons (pv 1) pa_nil))) (pg_tupK (K := K) rfl rfl (pgs_cons (pg_name (i := 3) sc_p_gap_between.nd rfl (by first | exact Or.inl rfl | exact Or.inr rfl)) (pgs_cons (pg_name (i := 4) sc_p_gap_between.nd rfl (by first | exact Or.inl rfl | exact Or.inr rfl)) pgs_nil))) (pss_cons (ps_asg (pe_call (ok_p_difference T) (hr.mono (by decide)) (by rfl) T.d_p_difference.mg T.d_p_difference.fn.kp T.d_p_difference.b .nil pass0 (pa_cons (pv 3) (pa_cons (pv 4) pa_nil))) (pg_tupK (K := K) rfl rfl (pgs_cons (pg_name (i := 5) sc_p_gap_between.nd rfl (by first | exact Or.inl rfl | exact Or.inr rfl)) (pgs_cons (pg_name (i := 6) sc_p_gap_between.nd rfl (by first | exact Or.inl rfl | exact Or.inr rfl)) pgs_nil))))
      (pss_one (ps_expr (pe_bm PySem.F.plainAttrs_list PySem.F.slot_list_append PySem.F.type_list_append mt_append (pv 2) (pa_cons (pe_tupI (pa_cons (pe_callB call_abs (by rfl) T.b_abs (by decide +kernel) (pa_cons (pv 5) pa_nil)) (pa_cons (pv 6) pa_nil))) pa_nil))))))
      (pss_one (ps_ret (pe_call (ok_p_sum_of_all T) hr (by rfl) T.d_p_sum_of_all.mg T.d_p_sum_of_all.fn.kp T.d_p_sum_of_all.b .nil pass0 (pa_cons (pv 2) pa_nil)))))), ?_⟩
    have lab : (a.map (·.2)).length = (b.map (·.2)).length := by rw [List.length_map, List.length_map, len]
    have glen : (gapsQ (a.map (·.2)) (b.map (·.2))).length = b.length := by rw [gaps_len lab, List.length_map, len]
    refine ⟨rfl, fun g H1 s1 n1 h1 => ?_⟩
    refine ⟨_, rfl, _, rfl, x, y, rz a, rz b, p1, p2, rfl, hx.same s1, hy.same s1, for_it (walk_zipB (K := K) (a := x) (b := y) (xs := rz a) (ys := rz b) (p := p1) (q := p2) (n := b.length) ((rz_len a).trans len) (rz_len b)) (fun j σ H' => ∃ (m : List Fz) (v3 v4 v5 v6 : Option V), σ = [some (.ref x), some (.ref y), some (.ref g), v3, v4, v5, v6] ∧ Same H H' ∧ H' g = some (.lst (rz m)) ∧ FL K H' m ∧ m.map (·.2) = (gapsQ (a.map (·.2)) (b.map (·.2))).take j)
      ⟨[], none, none, none, none, rfl, s1, h1, .nil, rfl⟩ (fun j σ H' _ ⟨m, _, _, _, _, _, s, _⟩ => ⟨hx.same s, hy.same s⟩) ?_ ?_⟩
    · rintro j v σ H4 H5 hj ⟨m, v3, v4, v5, v6, rfl, s4, hg, fm, em⟩ ⟨U, x1, y1, rfl, hU, rfl, gx, gy⟩
      obtain ⟨za, ea, rfl⟩ := rz_get gx
      obtain ⟨zb, eb, rfl⟩ := rz_get gy
      have sU : Same H4 (upd H4 U (.tup [.ref za.1, .ref zb.1])) := same_new hU
      have hU5 : (upd H4 U (.tup [.ref za.1, .ref zb.1])) U = some (.tup [.ref za.1, .ref zb.1]) := upd_same
      generalize upd H4 U (.tup [.ref za.1, .ref zb.1]) = H5 at sU hU5
      have s5 := s4.trans sU
      have ma := List.mem_of_getElem? ea
      have mb := List.mem_of_getElem? eb
      have qa : za.2 ∈ a.map (·.2) := List.mem_map.mpr ⟨za, ma, rfl⟩
      have qb : zb.2 ∈ b.map (·.2) := List.mem_map.mpr ⟨zb, mb, rfl⟩
      refine ⟨U, _, rfl, SqT.of hU5, rfl, _, _, rfl, _, _, rfl, rfl, ?_⟩
      refine ⟨_, rfl, _, rfl, za.1, zb.1, za.2, zb.2, rfl, (fa za ma).same s5, (fb zb mb).same s5, ok.ba _ qa, ok.bb _ qb, trivial, fun z1 H6 s6 n6 h6 => ?_⟩
      have h6' : SqT K H6 z1 [.int (za.2 - zb.2).num, .int ((za.2 - zb.2).den : Int)] := h6
      refine ⟨z1, _, rfl, h6', rfl, _, _, rfl, _, _, rfl, rfl, ?_⟩
      have s46 := sU.trans s6
      have hg6 := s46 _ _ hg
      refine ⟨_, rfl, .inl ⟨rfl, _, SqL.of hg6⟩, _, rfl, _, rfl, _, rfl, rfl, fun t H7 s7 n7 h7 => ?_⟩
      have hg7 := s7 _ _ hg6
      have ml : m.length ≤ b.length := by
        have e := congrArg List.length em
        rw [List.length_map, List.length_take] at e
        omega
      refine ⟨g, _, _, rfl, rfl, hg7, by rw [rz_len]; exact small' (by omega), ?_⟩
      refine ⟨m ++ [(t, absQ (za.2 - zb.2))], _, _, _, _, rfl, Same.put (s4.trans (s46.trans s7)) n1, by rw [upd_same, rz_snoc], FL.put (FL.snoc (fm.same (s46.trans s7)) (abs_at h7)) hg7, ?_⟩
      rw [List.map_append, em, take_one (gaps_get (rz_q ea) (rz_q eb))] <;> rfl
    · rintro σ H4 ⟨m, v3, v4, v5, v6, rfl, s4, hg, fm, em⟩
      have em' : m.map (·.2) = gapsQ (a.map (·.2)) (b.map (·.2)) := by rw [em, ← glen, List.take_length]
      refine ⟨_, rfl, g, m, true, rfl, SqL.of hg, fm, fun z hz => ok.bg _ (by rw [← em']; exact List.mem_map.mpr ⟨z, hz, rfl⟩), by rw [em']; exact ok.add, fun z H7 s7 h7 => ?_⟩
      rw [em'] at h7
      exact q z H7 (s4.trans s7) h7

end
end KR
namespace KR
open PySem PySem.Spec PyProof.Rows L2
section
variable {P : Program} {w : World} {K : PySem.W.Frag} {mg : Str → Option Value} {base : Heap}
def sp_p__goes_in_all (K : PySem.W.Frag) : Sp := fun vs H Q _ => ∃ (pl : Addr) (k : Kn) (n : Nat) (ps : List Nat), vs = [.ref k.a, .ref pl] ∧ KnOk K H n k ∧ SqL K H pl (ri ps) ∧ (∀ i ∈ ps, i < n) ∧ n ≤ 6 ∧ ps.length ≤ 6 ∧
  ∀ (z : Addr) (H' : Hp), Same H H' → FrQ K H' z (zsum (ps.map fun i => (k.goes.map (·.2)).getD i 0)) → Q (.ref z) H'
theorem ok_p__goes_in_all (T : All K mg) : FnOk P w K mg base CX0 4 T.f_p__goes_in_all T.fd_p__goes_in_all ["kind", "places"] (sp_p__goes_in_all K) := by
  refine T.d_p__goes_in_all.fn.ok sc_p__goes_in_all (fun vs H Q E h => ?_) (fun cdv A outer s H vs Q E hr h => ?_)
  · obtain ⟨pl, k, n, ps, rfl, _⟩ := h
    rfl
  · obtain ⟨pl, k, n, ps, rfl, KO, hp, lt, n6, p6, q⟩ := h
    refine ⟨_, (pss_one (ps_ret (pe_call (ok_p_sum_of_all T) hr (by rfl) T.d_p_sum_of_all.mg T.d_p_sum_of_all.fn.kp T.d_p_sum_of_all.b .nil pass0 (pa_cons (pe_lc (own := [("place", 2)]) (g := gName 2) (tt := tYes) (by rfl) sc_p__goes_in_all.nd (pi_listK (K := K) rfl (pv 1)) (blkOk_by (own := [("place", 2)]) (N := ["kind", "places", "place"]) (sc := defScope s_p__goes_in_all) (by decide +kernel)) (fun _ _ _ _ _ => (pg_name (i := 2) sc_p__goes_in_all.nd rfl (by first | exact Or.inl rfl | exact Or.inr rfl))) (fun _ _ _ _ _ => pts_nil) (fun _ _ _ _ _ => (pe_ix (ixT (K := K) rfl) (pe_ix (ixT (K := K) rfl) (pv 0) pe_int (fun _ _ => rfl)) (pv 2) (fun _ _ => rfl)))) pa_nil)))), ?_⟩
    refine ⟨_, rfl, pl, rfl, ⟨_, hp⟩, fun D hD => ?_⟩
    refine lc_it (walk_list (K := K) (a := pl) (xs := ri ps)) (fun j H' => ∃ m : List Fz, Same H H' ∧ H' D = some (.lst (rz m)) ∧ FL K H' m ∧ (∀ z ∈ m, Part z.2) ∧ m.map (·.2) = (ps.map fun i => (k.goes.map (·.2)).getD i 0).take j)
      ⟨[], same_new hD, upd_same, .nil, fun z hz => absurd hz List.not_mem_nil, rfl⟩ (fun j H' _ ⟨m, s, _⟩ => s.seq hp) ?_ ?_
    · rintro j v H2 H3 hj ⟨m, s2, hD2, fm, pm, em⟩ ⟨rfl, hv⟩
      obtain ⟨i, ei, rfl⟩ := ri_get hv
      have il := lt i (List.mem_of_getElem? ei)
      have KO2 := KO.same s2
      have gi : i < k.goes.length := by rw [KO.go.len]; exact il
      have gg : k.goes[i]? = some k.goes[i] := List.getElem?_eq_getElem gi
      generalize k.goes[i] = zg at gg
      have mg' := List.mem_of_getElem? gg
      have gx2 : (rz k.goes)[i]? = some (.ref zg.1) := by
        unfold rz
        rw [List.getElem?_map, gg] <;> rfl
      refine ⟨rfl, yesT ?_⟩
      refine ⟨_, rfl, k.a, _, 2, _, rfl, rfl, KO2.at_, at2, _, rfl, k.g, _, (i : Int), _, rfl, rfl, KO2.gs, at_of rfl gx2, ?_⟩
      have ml : m.length ≤ 6 := by
        have e := congrArg List.length em
        rw [List.length_map, List.length_take, List.length_map] at e
        omega
      refine ⟨_, hD2, by rw [rz_len]; exact small' (by omega), m ++ [zg], Same.put s2 hD, by rw [upd_same, rz_snoc], FL.put (FL.snoc fm (KO2.go.fl zg mg')) hD2, fun z hz => ?_, ?_⟩
      · rcases List.mem_append.mp hz with h | h
        · exact pm z h
        · rw [List.mem_singleton.mp h]
          exact KO.go.pa zg mg'
      · have cg : (ps.map fun i => (k.goes.map (·.2)).getD i 0)[j]? = some zg.2 := by
          rw [List.getElem?_map, ei]
          refine congrArg some ?_
          show (k.goes.map (·.2)).getD i 0 = zg.2
          rw [List.getD_eq_getElem?_getD, rz_q gg] <;> rfl
        rw [List.map_append, em, take_one cg] <;> rfl
    · rintro H2 ⟨m, s2, hD2, fm, pm, em⟩
      have em' : m.map (·.2) = ps.map fun i => (k.goes.map (·.2)).getD i 0 := by
        rw [em, ri_len]
        exact List.take_of_length_le (by rw [List.length_map]; exact Nat.le_refl _)
      have ml : m.length ≤ 6 := by
        have e := congrArg List.length em'
        rw [List.length_map, List.length_map] at e
        omega
      refine ⟨D, m, true, rfl, SqL.of hD2, fm, fun z hz => part_big (pm z hz), parts_add (mem_q pm) (by rw [List.length_map]; omega), fun z H3 s3 h3 => ?_⟩
      rw [em'] at h3
      exact q z H3 (s2.trans s3) h3

end
end KR
namespace KR
open PySem PySem.Spec PyProof.Rows L2
section
variable {P : Program} {w : World} {K : PySem.W.Frag} {mg : Str → Option Value} {base : Heap}
def sp_p__places_without_loss (K : PySem.W.Frag) : Sp := fun vs H Q _ => ∃ (kl : Addr) (ks : List Kn) (p : Bool), vs = [.ref kl] ∧ SqB K H kl (rk ks) p ∧ KnL K H ks.length ks ∧ ks.length ≤ 6 ∧
  ∀ (f : Addr) (P : Nat → Bool) (H' : Hp), Same H H' → H f = none → H' f = some (.lst (ri (psF P ks.length))) → Left (ks.map Kn.q) P → Great (ks.map Kn.q) P → Q (.ref f) H'
theorem ok_p__places_without_loss (T : All K mg) : FnOk P w K mg base CX0 5 T.f_p__places_without_loss T.fd_p__places_without_loss ["kinds"] (sp_p__places_without_loss K) := by
  refine T.d_p__places_without_loss.fn.ok sc_p__places_without_loss (fun vs H Q E h => ?_) (fun cdv A outer s H vs Q E hr h => ?_)
  · obtain ⟨kl, ks, p, rfl, _⟩ := h
    rfl
  · obtain ⟨kl, ks, p, rfl, hk, L, l6, q⟩ := h
    refine ⟨_, (pss_cons (ps_set (i := 1) sc_p__places_without_loss.nd rfl (by first | exact Or.inl rfl | exact Or.inr rfl) (pe_lc (own := [("place", 2), ("_", 3), ("drip", 4), ("_", 3)]) (g := gTup K 2 (gCons (gName 2) (gCons (gTup K 3 (gCons (gName 3) (gCons (gName 4) (gCons (gName 3) gNil)))) gNil))) (by rfl) sc_p__places_without_loss.nd (pi_enumB (K := K) rfl (by rfl) T.b_enumerate (pa_cons (pv 0) pa_nil)) (blkOk_by (own := [("place", 2), ("_", 3), ("drip", 4), ("_", 3)]) (N := ["kinds", "places", "place", "_", "drip", "left"]) (sc := defScope s_p__places_without_loss) (by decide +kernel)) (fun _ _ _ _ _ => (pg_tupK (K := K) rfl rfl (pgs_cons (pg_name (i := 2) sc_p__places_without_loss.nd rfl (by first | exact Or.inl rfl | exact Or.inr rfl)) (pgs_cons (pg_tupK (K := K) rfl rfl (pgs_cons (pg_name (i := 3) sc_p__places_without_loss.nd rfl (by first | exact Or.inl rfl | exact Or.inr rfl)) (pgs_cons (pg_name (i := 4) sc_p__places_without_loss.nd rfl (by first | exact Or.inl rfl | exact Or.inr rfl)) (pgs_cons (pg_name (i := 3) sc_p__places_without_loss.nd rfl (by first | exact Or.inl rfl | exact Or.inr rfl)) pgs_nil)))) pgs_nil)))) (fun _ _ _ _ _ => (pts_one (pt_cmpR (eqDK (K := K) rfl hr.units) (pv 4) (pe_glob (v := .ref T.C_ONE) rfl T.g_ONE rfl) (nomark _)))) (fun _ _ _ _ _ => (pv 2))))
      (pss_one (ps_while PassesOwn.never (pt_val pe_bl) (pss_cons (ps_setLc (i := 5) (own := [("place", 2)]) (g := gName 2) (by rfl) sc_p__places_without_loss.nd rfl rfl (sw_true rfl rfl rfl (by decide +kernel)) (pi_listK (K := K) rfl (pv 1)) (blkOk_by (own := [("place", 2)]) (N := ["kinds", "places", "place", "_", "drip", "left"]) (sc := defScope s_p__places_without_loss) (by decide +kernel)) (fun _ _ _ _ _ => (pg_name (i := 2) sc_p__places_without_loss.nd rfl (by first | exact Or.inl rfl | exact Or.inr rfl))) (fun _ _ _ _ _ => (pts_one (pt_cmpR (eqDK (K := K) rfl hr.units) (pe_call (ok_p__goes_in_all T) hr (by rfl) T.d_p__goes_in_all.mg T.d_p__goes_in_all.fn.kp T.d_p__goes_in_all.b .nil pass0 (pa_cons (pe_ix (ixQ (K := K) rfl) (pv 0) (pv 2) (fun _ _ => rfl)) (pa_cons (pv 1) pa_nil))) (pe_glob (v := .ref T.C_ONE) rfl T.g_ONE rfl) (nomark _)))) (fun _ _ _ _ _ => (pv 2)))
      (pss_cons (ps_if (pt_cmpR (eqDK (K := K) rfl hr.units) (pv 5) (pv 1) (nomark _)) (pss_one (ps_ret (pv 1))) pss_nil)
      (pss_one (ps_set (i := 1) sc_p__places_without_loss.nd rfl (by first | exact Or.inl rfl | exact Or.inr rfl) (pv 5)))))))), ?_⟩
    have O := L.ks l6
    have len : (ks.map Kn.q).length = ks.length := List.length_map _
    refine ⟨_, rfl, kl, rk ks, p, rfl, hk, fun D hD => ?_⟩
    refine lc_it (walk_enumB (K := K) (a := kl) (xs := rk ks) (p := p)) (fun j H' => Same H H' ∧ H' D = some (.lst (ri (psF (fun i => decide ((kd (ks.map Kn.q) i).drip = 1)) j))))
      ⟨same_new hD, upd_same⟩ (fun j H' _ z => hk.same z.1) ?_ ?_
    · rintro j v H2 H3 hj ⟨s2, hD2⟩ ⟨T0, x0, y0, rfl, hT, rfl, e0, ex⟩
      obtain rfl := Option.some.inj e0
      obtain ⟨k, ek, rfl⟩ := rk_get ex
      have sT : Same H2 (upd H2 T0 (.tup [.int (j : Nat), .ref k.a])) := same_new hT
      have hT3 : (upd H2 T0 (.tup [.int (j : Nat), .ref k.a])) T0 = some (.tup [.int (j : Nat), .ref k.a]) := upd_same
      generalize upd H2 T0 (.tup [.int (j : Nat), .ref k.a]) = H3 at sT hT3
      have s3 := s2.trans sT
      have KO := (L k (List.mem_of_getElem? ek)).same s3
      have hD3 := sT _ _ hD2
      have one : FrQ K H3 T.C_ONE 1 := T.q_ONE H3
      have vk := kn_kd ek
      refine ⟨T0, _, rfl, SqT.of hT3, rfl, _, _, rfl, _, _, rfl, k.a, _, rfl, KO.at_, rfl, _, _, rfl, _, _, rfl, _, _, rfl, rfl, rfl, rfl, ?_⟩
      refine ⟨_, rfl, _, _, KO.dr.dp, one.dp, rfl, rfl, _, rfl, ?_⟩
      rw [one_eqv]
      by_cases c : k.drip = 1
      · refine ite_bT (decide_eq_true c) ?_
        refine ⟨_, rfl, _, hD3, by rw [ri_len]; have := psF_le (fun i => decide ((kd (ks.map Kn.q) i).drip = 1)) j; exact small' (by rw [rk_len] at hj; omega), Same.put s3 hD, ?_⟩
        rw [upd_same, psF_step, if_pos (by rw [vk]; exact decide_eq_true c), ri_snoc]
      · refine ite_bF (decide_eq_false c) ⟨s3, ?_⟩
        rw [hD3, psF_step, if_neg (by rw [vk, decide_eq_false (show ¬ k.q.drip = 1 from c)]; decide)]
    · rintro H4 ⟨s4, hD4⟩
      rw [rk_len] at hD4
      refine ⟨fun m σ H' => ∃ (P : Nat → Bool) (f : Addr) (v2 v3 v4 v5 : Option V), σ = [some (.ref kl), some (.ref f), v2, v3, v4, v5] ∧ Same H H' ∧ H f = none ∧ H' f = some (.lst (ri (psF P ks.length))) ∧ Left (ks.map Kn.q) P ∧ m = (psF P ks.length).length, ⟨_, _, D, _, _, _, _, rfl, s4, hD, hD4, Left.first O, rfl⟩, ?_⟩
      rintro m σ H' ⟨P, f, v2, v3, v4, v5, rfl, s5, nf, hf, LP, rfl⟩
      refine ⟨true, rfl, iteT ?_⟩
      refine ⟨fun σ' H1 => ∃ (P' : Nat → Bool) (f : Addr) (v2 v3 v4 v5 : Option V), σ' = [some (.ref kl), some (.ref f), v2, v3, v4, v5] ∧ Same H H1 ∧ H f = none ∧ H1 f = some (.lst (ri (psF P' ks.length))) ∧ Left (ks.map Kn.q) P' ∧ (psF P' ks.length).length < (psF P ks.length).length, fun σ' H1 ⟨P', f, v2, v3, v4, v5, e1, e2, e3, e4, e5, e6⟩ => ⟨_, e6, P', f, v2, v3, v4, v5, e1, e2, e3, e4, e5, rfl⟩, ?_⟩
      refine ⟨_, rfl, f, rfl, ⟨_, SqL.of hf⟩, fun D2 hD2 => ?_⟩
      have pl := psF_le P ks.length
      refine lc_it (walk_list (K := K) (a := f) (xs := ri (psF P ks.length))) (fun j H1 => Same H' H1 ∧ H1 D2 = some (.lst (ri (((psF P ks.length).take j).filter fun i => decide (allTo (ks.map Kn.q) P i = 1)))))
        ⟨same_new hD2, upd_same⟩ (fun j H1 _ z => SqL.of (z.1 _ _ hf)) ?_ ?_
      · rintro j v H1 H2 hj ⟨s6, hD6⟩ ⟨rfl, hv⟩
        obtain ⟨i, ei, rfl⟩ := ri_get hv
        have il : i < ks.length := (psF_mem.mp (List.mem_of_getElem? ei)).1
        have ek : ks[i]? = some ks[i] := List.getElem?_eq_getElem il
        generalize ks[i] = k at ek
        have KO := (L k (List.mem_of_getElem? ek)).same (s5.trans s6)
        have hk6 := hk.same (s5.trans s6)
        refine ⟨rfl, ?_⟩
        refine ⟨_, rfl, _, rfl, ix_seqB hk6 (rk_at ek) ⟨_, rfl, f, k, ks.length, psF P ks.length, rfl, KO, SqL.of (s6 _ _ hf), fun i hi => (psF_mem.mp hi).1, l6, by omega, fun z H7 s7 h7 => ?_⟩⟩
        have one : FrQ K H7 T.C_ONE 1 := T.q_ONE H7
        refine ⟨_, _, h7.dp, one.dp, rfl, rfl, _, rfl, ?_⟩
        rw [one_eqv]
        have ea : zsum ((psF P ks.length).map fun i => (k.goes.map (·.2)).getD i 0) = allTo (ks.map Kn.q) P i := by
          unfold allTo
          rw [kn_kd ek, len] <;> rfl
        rw [ea]
        have hD7 := s7 _ _ hD6
        have fl : (((psF P ks.length).take j).filter fun i => decide (allTo (ks.map Kn.q) P i = 1)).length ≤ 6 := by
          have k1 := List.length_filter_le (fun i => decide (allTo (ks.map Kn.q) P i = 1)) ((psF P ks.length).take j)
          rw [List.length_take] at k1
          omega
        by_cases c : allTo (ks.map Kn.q) P i = 1
        · refine ite_bT (decide_eq_true c) ?_
          refine ⟨_, rfl, _, hD7, by rw [ri_len]; exact small' (by omega), Same.put (s6.trans s7) hD2, ?_⟩
          rw [upd_same, take_filter ei, if_pos (decide_eq_true c), ri_snoc]
        · refine ite_bF (decide_eq_false c) ⟨s6.trans s7, ?_⟩
          rw [hD7, take_filter ei, if_neg (by rw [decide_eq_false c]; decide)]
      · rintro H1 ⟨s6, hD6⟩
        have e0 : (psF P ks.length).take (ri (psF P ks.length)).length = psF P ks.length := List.take_of_length_le (by rw [ri_len]; exact Nat.le_refl _)
        have e1 : ((psF P ks.length).filter fun i => decide (allTo (ks.map Kn.q) P i = 1)) = psF (nextP (ks.map Kn.q) P) ks.length := psF_filter _ _ _
        rw [e0, e1] at hD6
        have s16 := s5.trans s6
        have hf6 := s6 _ _ hf
        refine ⟨_, rfl, _, rfl, _, _, ri_dp (SqL.of hD6), ri_dp (SqL.of hf6), dpi_shaped _, dpi_shaped _, _, rfl, ?_⟩
        rw [dpi_eqv]
        have sub := psF_len (P := nextP (ks.map Kn.q) P) (Q := P) (n := ks.length) fun i _ h => by
          unfold nextP at h
          exact (Bool.and_eq_true _ _ ▸ h).1
        by_cases c : psF (nextP (ks.map Kn.q) P) ks.length = psF P ks.length
        · refine ite_bT (decide_eq_true c) ⟨_, rfl, q f P H1 s16 nf hf6 LP (LP.end_ O fun i hi hp => ?_)⟩
          rw [len] at hi
          have k := sub.2 (congrArg List.length c) i hi
          unfold nextP at k
          rw [hp, Bool.true_and] at k
          exact of_decide_eq_true k
        · refine ite_bF (decide_eq_false c) ?_
          refine ⟨_, rfl, _, D2, _, _, _, _, rfl, s16, same_none s5 hD2, hD6, LP.next O, ?_⟩
          rcases Nat.lt_or_ge (psF (nextP (ks.map Kn.q) P) ks.length).length (psF P ks.length).length with lt | ge
          · exact lt
          · exact absurd (psF_ext (sub.2 (Nat.le_antisymm sub.1 ge))) c

end
end KR
namespace KR
open PySem PySem.Spec PyProof.Rows L2
section
variable {P : Program} {w : World} {K : PySem.W.Frag} {mg : Str → Option Value} {base : Heap}
def sp_p__row_of (K : PySem.W.Frag) : Sp := fun vs H Q _ => ∃ (kl : Addr) (ks : List Kn) (i : Nat) (p : Bool), vs = [.ref kl, .int (i : Int)] ∧ SqB K H kl (rk ks) p ∧ KnL K H ks.length ks ∧ i < ks.length ∧ ks.length ≤ 6 ∧
  ∀ (f : Addr) (l : List Fz) (H' : Hp), Same H H' → H f = none → H' f = some (.lst (rz l)) → FL K H' l → RowL ks.length (initA (ks.map Kn.q) i) l → Q (.ref f) H'
theorem ok_p__row_of (T : All K mg) : FnOk P w K mg base CX0 3 T.f_p__row_of T.fd_p__row_of ["kinds", "place"] (sp_p__row_of K) := by
  refine T.d_p__row_of.fn.ok sc_p__row_of (fun vs H Q E h => ?_) (fun cdv A outer s H vs Q E hr h => ?_)
  · obtain ⟨kl, ks, i, p, rfl, _⟩ := h
    rfl
  · obtain ⟨kl, ks, i, p, rfl, hk, L, il, l6, q⟩ := h
    refine ⟨_, (pss_cons (ps_setLc (i := 2) (own := [("_", 3), ("drip", 4), ("goes", 5)]) (g := gTup K 3 (gCons (gName 3) (gCons (gName 4) (gCons (gName 5) gNil)))) (tt := tYes) (by rfl) sc_p__row_of.nd rfl rfl (sw_true rfl rfl rfl (by decide +kernel)) (pi_seqU (K := K) rfl (pv 0)) (blkOk_by (own := [("_", 3), ("drip", 4), ("goes", 5)]) (N := ["kinds", "place", "parts", "_", "drip", "goes"]) (sc := defScope s_p__row_of) (by decide +kernel)) (fun _ _ _ _ _ => (pg_tupK (K := K) rfl rfl (pgs_cons (pg_name (i := 3) sc_p__row_of.nd rfl (by first | exact Or.inl rfl | exact Or.inr rfl)) (pgs_cons (pg_name (i := 4) sc_p__row_of.nd rfl (by first | exact Or.inl rfl | exact Or.inr rfl)) (pgs_cons (pg_name (i := 5) sc_p__row_of.nd rfl (by first | exact Or.inl rfl | exact Or.inr rfl)) pgs_nil))))) (fun _ _ _ _ _ => pts_nil) (fun _ _ _ _ _ => (pe_call (ok_p_product T) hr (by rfl) T.d_p_product.mg T.d_p_product.fn.kp T.d_p_product.b .nil pass0 (pa_cons (pv 4) (pa_cons (pe_ix (ixT (K := K) rfl) (pv 5) (pv 1) (fun _ _ => rfl)) pa_nil)))))
      (pss_one (ps_ret (pe_op op_catI (pv 2) (pe_lstI (pa_cons (pe_tupI (pa_cons (pe_ix (ixT (K := K) rfl) (pe_ix (ixQ (K := K) rfl) (pv 0) (pv 1) (fun _ _ => rfl)) pe_int (fun _ _ => rfl)) (pa_cons pe_int pa_nil))) pa_nil)))))), ?_⟩
    have len : (ks.map Kn.q).length = ks.length := List.length_map _
    refine ⟨_, rfl, kl, _, p, rfl, hk, fun D hD => ?_⟩
    refine lc_it (walk_seqU (K := K) (a := kl) (xs := rk ks) (p := p)) (fun j H' => ∃ m : List Fz, Same H H' ∧ H' D = some (.lst (rz m)) ∧ FL K H' m ∧ m.length = j ∧ PreL (initA (ks.map Kn.q) i) m)
      ⟨[], same_new hD, upd_same, .nil, rfl, .nil⟩ (fun j H' _ ⟨m, s, _⟩ => hk.same s) ?_ ?_
    · rintro j v H2 H3 hj ⟨m, s2, hD2, fm, lm, pm⟩ ⟨rfl, hv⟩
      obtain ⟨kj, ekj, rfl⟩ := rk_get hv
      have KO := (L kj (List.mem_of_getElem? ekj)).same s2
      rw [rk_len] at hj
      have gi : i < kj.goes.length := by rw [KO.go.len]; exact il
      have gg : kj.goes[i]? = some kj.goes[i] := List.getElem?_eq_getElem gi
      generalize kj.goes[i] = zg at gg
      have mg' := List.mem_of_getElem? gg
      refine ⟨kj.a, _, rfl, KO.at_, rfl, _, _, rfl, _, _, rfl, _, _, rfl, rfl, rfl, yesT ?_⟩
      refine ⟨_, rfl, _, rfl, _, rfl, kj.g, _, (i : Int), _, rfl, rfl, KO.gs, at_of rfl (rz_at gg), kj.d, zg.1, kj.drip, zg.2, rfl, KO.dr, KO.go.fl zg mg', part_big KO.pd, part_big (KO.go.pa zg mg'), trivial, fun z2 H7 s7 n7 h7 => ?_⟩
      have hD7 := s7 _ _ hD2
      refine ⟨_, hD7, by rw [rz_len]; exact small' (by omega), m ++ [(z2, kj.drip * zg.2)], Same.put (s2.trans s7) hD, by rw [upd_same, rz_snoc], FL.put (FL.snoc (fm.same s7) h7) hD7, snoc_len lm, pm.snoc ?_⟩
      rw [lm]
      unfold initA
      rw [if_pos (by rw [len]; exact hj), kn_kd ekj]
      show kj.drip * zg.2 = kj.drip * (kj.goes.map (·.2)).getD i 0
      rw [List.getD_eq_getElem?_getD, rz_q gg] <;> rfl
    · rintro H4 ⟨m, s4, hD4, fm, lm, pm⟩
      rw [rk_len] at lm
      have ei : ks[i]? = some ks[i] := List.getElem?_eq_getElem il
      generalize ks[i] = ki at ei
      have KO := (L ki (List.mem_of_getElem? ei)).same s4
      refine ⟨_, rfl, _, rfl, _, rfl, ix_seqB (hk.same s4) (rk_at ei) ⟨ki.a, _, 0, _, rfl, rfl, KO.at_, at0, rfl, fun t H5 s5 n5 h5 => ⟨rfl, fun u H6 s6 n6 h6 => ?_⟩⟩⟩
      have s56 := s5.trans s6
      refine ⟨D, u, _, _, rfl, rfl, s56 _ _ hD4, h6, by rw [rz_len, sizeLine_eq]; show _ + 1 ≤ _; omega, fun f H7 s7 n7 h7 => ?_⟩
      have ft : FrQ K H5 t ((ki.fresh : Int) : Rat) := FrQ.int h5
      have s47 := s56.trans s7
      refine q f (m ++ [(t, ((ki.fresh : Int) : Rat))]) H7 (s4.trans s47) (same_none (s4.trans s56) n7) (by rw [h7, rz_snoc]) (FL.snoc (fm.same s47) (ft.same (s6.trans s7))) (RowL.of (snoc_len lm) (pm.snoc ?_))
      rw [lm, ← len]
      unfold initA
      rw [if_neg (Nat.lt_irrefl _), kn_kd ei] <;> rfl

end
end KR
namespace KR
open PySem PySem.Spec PyProof.Rows L2
section
variable {P : Program} {w : World} {K : PySem.W.Frag} {mg : Str → Option Value} {base : Heap}
def sp_p__freed_of_itself (K : PySem.W.Frag) : Sp := fun vs H Q _ => ∃ (rl : Addr) (l : List Fz) (n k : Nat) (A : Nat → Nat → Rat), vs = [.ref rl, .int (k : Int)] ∧ SqL K H rl (rz l) ∧ FL K H l ∧ RowL n (A k) l ∧ k < n ∧ n ≤ 6 ∧ StepOk n k A ∧
  ∀ (f : Addr) (m : List Fz) (H' : Hp), Same H H' → H f = none → H' f = some (.lst (rz m)) → FL K H' m → RowL n (freedR k (A k)) m → Q (.ref f) H'
theorem ok_p__freed_of_itself (T : All K mg) : FnOk P w K mg base CX0 3 T.f_p__freed_of_itself T.fd_p__freed_of_itself ["row", "place"] (sp_p__freed_of_itself K) := by
  refine T.d_p__freed_of_itself.fn.ok sc_p__freed_of_itself (fun vs H Q E h => ?_) (fun cdv A outer s H vs Q E hr h => ?_)
  · obtain ⟨rl, l, n, k, A, rfl, _⟩ := h
    rfl
  · obtain ⟨rl, l, n, k, A, rfl, hl, fl, ro, kn, n6, ok, q⟩ := h
    refine ⟨_, (pss_cons (ps_set (i := 2) sc_p__freed_of_itself.nd rfl (by first | exact Or.inl rfl | exact Or.inr rfl) (pe_call (ok_p_difference T) hr (by rfl) T.d_p_difference.mg T.d_p_difference.fn.kp T.d_p_difference.b .nil pass0 (pa_cons (pe_glob (v := .ref T.C_ONE) rfl T.g_ONE rfl) (pa_cons (pe_ix (ixL (K := K) rfl) (pv 0) (pv 1) (fun _ _ => rfl)) pa_nil))))
      (pss_cons (ps_setLc (i := 3) (own := [("part", 4)]) (g := gName 4) (tt := tYes) (by rfl) sc_p__freed_of_itself.nd rfl rfl (sw_true rfl rfl rfl (by decide +kernel)) (pi_listK (K := K) rfl (pv 0)) (blkOk_by (own := [("part", 4)]) (N := ["row", "place", "lost", "freed", "part"]) (sc := defScope s_p__freed_of_itself) (by decide +kernel)) (fun _ _ _ _ _ => (pg_name (i := 4) sc_p__freed_of_itself.nd rfl (by first | exact Or.inl rfl | exact Or.inr rfl))) (fun _ _ _ _ _ => pts_nil) (fun _ _ _ _ _ => (pe_call (ok_p_quotient T) hr (by rfl) T.d_p_quotient.mg T.d_p_quotient.fn.kp T.d_p_quotient.b .nil pass0 (pa_cons (pv 4) (pa_cons (pv 2) pa_nil)))))
      (pss_cons (ps_asg (pe_glob (v := .ref T.C_NOUGHT) rfl T.g_NOUGHT rfl) (pg_sub (pv 3) (pv 1) set_list))
      (pss_one (ps_ret (pv 3)))))), ?_⟩
    obtain ⟨zk, ek, vk⟩ := ro.at_ (show k < n + 1 by omega)
    have one : FrQ K H T.C_ONE 1 := T.q_ONE H
    refine ⟨_, rfl, _, rfl, rl, _, (k : Int), _, rfl, rfl, hl, at_of rfl (rz_at ek), T.C_ONE, zk.1, 1, zk.2, rfl, one, fl zk (List.mem_of_getElem? ek), ⟨by decide, by decide⟩, by rw [vk]; exact ok.a k k kn (by omega), trivial, fun lo H1 s1 n1 h1 => ?_⟩
    rw [vk] at h1
    refine ⟨_, rfl, rl, rfl, ⟨_, s1.seq hl⟩, fun D hD => ?_⟩
    refine lc_it (walk_list (K := K) (a := rl) (xs := rz l)) (fun j H' => ∃ m : List Fz, Same H1 H' ∧ H' D = some (.lst (rz m)) ∧ FL K H' m ∧ m.length = j ∧ PreL (fun j => A k j / (1 - A k k)) m)
      ⟨[], same_new hD, upd_same, .nil, rfl, .nil⟩ (fun j H' _ ⟨m, s, _⟩ => (s1.trans s).seq hl) ?_ ?_
    · rintro j v H2 H3 hj ⟨m, s2, hD2, fm, lm, pm⟩ ⟨rfl, hv⟩
      obtain ⟨zj, ej, rfl⟩ := rz_get hv
      obtain ⟨vj, jn⟩ := ro.get ej
      have fz := (fl zj (List.mem_of_getElem? ej)).same (s1.trans s2)
      refine ⟨rfl, yesT ?_⟩
      refine ⟨_, rfl, _, rfl, zj.1, lo, zj.2, _, rfl, fz, h1.same s2, by rw [vj]; exact ok.a k j kn (by omega), ok.l, ok.ne, fun z2 H7 s7 n7 h7 => ?_⟩
      have hD7 := s7 _ _ hD2
      refine ⟨_, hD7, by rw [rz_len]; exact small' (by omega), m ++ [(z2, zj.2 / (1 - A k k))], Same.put (s2.trans s7) hD, by rw [upd_same, rz_snoc], FL.put (FL.snoc (fm.same s7) h7) hD7, snoc_len lm, pm.snoc (by rw [lm, vj])⟩
    · rintro H4 ⟨m, s4, hD4, fm, lm, pm⟩
      rw [rz_len, ro.len] at lm
      have nought : FrQ K H4 T.C_NOUGHT 0 := T.q_NOUGHT H4
      refine ⟨_, rfl, _, rfl, D, _, (k : Int), k, rfl, rfl, hD4, ixN_nat (by rw [rz_len]; omega), ?_⟩
      rw [rz_set m k (T.C_NOUGHT, 0)]
      refine ⟨_, rfl, q D (m.set k (T.C_NOUGHT, 0)) _ (s1.trans (Same.put s4 hD)) (same_none s1 hD) upd_same (FL.put (fun z hz => ?_) hD4) (RowL.of (by rw [List.length_set]; exact lm) (PreL.set (fun j y ne g => ?_) ?_))⟩
      · rcases mem_set hz with h | h
        · exact fm z h
        · rw [h]
          exact nought
      · unfold freedR
        rw [if_neg ne]
        exact pm j y g
      · unfold freedR
        rw [if_pos rfl]

end
end KR
namespace KR
open PySem PySem.Spec PyProof.Rows L2
section
variable {P : Program} {w : World} {K : PySem.W.Frag} {mg : Str → Option Value} {base : Heap}
def sp_p__put_into (K : PySem.W.Frag) : Sp := fun vs H Q _ => ∃ (rl fl : Addr) (l fr : List Fz) (n k i : Nat) (A : Nat → Nat → Rat), vs = [.ref rl, .int (k : Int), .ref fl] ∧ SqL K H rl (rz l) ∧ FL K H l ∧ RowL n (A i) l ∧ SqL K H fl (rz fr) ∧ FL K H fr ∧ RowL n (freedR k (A k)) fr ∧ k < n ∧ i < n ∧ i ≠ k ∧ n ≤ 6 ∧ StepOk n k A ∧
  ∀ (f : Addr) (m : List Fz) (H' : Hp), Same H H' → H f = none → H' f = some (.lst (rz m)) → FL K H' m → RowL n (stepA k A i) m → Q (.ref f) H'
theorem ok_p__put_into (T : All K mg) : FnOk P w K mg base CX0 3 T.f_p__put_into T.fd_p__put_into ["row", "place", "freed"] (sp_p__put_into K) := by
  refine T.d_p__put_into.fn.ok sc_p__put_into (fun vs H Q E h => ?_) (fun cdv A outer s H vs Q E hr h => ?_)
  · obtain ⟨rl, fl, l, fr, n, k, i, A, rfl, _⟩ := h
    rfl
  · obtain ⟨rl, fl, l, fr, n, k, i, A, rfl, hl, ll, ro, hf, lf, rf, kn, lin, ne, n6, ok, q⟩ := h
    refine ⟨_, (pss_cons (ps_set (i := 3) sc_p__put_into.nd rfl (by first | exact Or.inl rfl | exact Or.inr rfl) (pe_ix (ixL (K := K) rfl) (pv 0) (pv 1) (fun _ _ => rfl)))
      (pss_cons (ps_setLc (i := 4) (own := [("part", 5), ("more", 6)]) (g := gTup K 2 (gCons (gName 5) (gCons (gName 6) gNil))) (tt := tYes) (by rfl) sc_p__put_into.nd rfl rfl (sw_true rfl rfl rfl (by decide +kernel)) (pi_zipB (K := K) rfl (by rfl) T.b_zip (pa_cons (pv 0) (pa_cons (pv 2) pa_nil))) (blkOk_by (own := [("part", 5), ("more", 6)]) (N := ["row", "place", "freed", "many", "put", "part", "more"]) (sc := defScope s_p__put_into) (by decide +kernel)) (fun _ _ _ _ _ => (pg_tupK (K := K) rfl rfl (pgs_cons (pg_name (i := 5) sc_p__put_into.nd rfl (by first | exact Or.inl rfl | exact Or.inr rfl)) (pgs_cons (pg_name (i := 6) sc_p__put_into.nd rfl (by first | exact Or.inl rfl | exact Or.inr rfl)) pgs_nil)))) (fun _ _ _ _ _ => pts_nil) (fun _ _ _ _ _ => (pe_call (ok_p_sum_of T) hr (by rfl) T.d_p_sum_of.mg T.d_p_sum_of.fn.kp T.d_p_sum_of.b .nil pass0 (pa_cons (pv 5) (pa_cons (pe_call (ok_p_product T) hr (by rfl) T.d_p_product.mg T.d_p_product.fn.kp T.d_p_product.b .nil pass0 (pa_cons (pv 3) (pa_cons (pv 6) pa_nil))) pa_nil)))))
      (pss_cons (ps_asg (pe_glob (v := .ref T.C_NOUGHT) rfl T.g_NOUGHT rfl) (pg_sub (pv 4) (pv 1) set_list))
      (pss_one (ps_ret (pv 4)))))), ?_⟩
    obtain ⟨zk, ek, vk⟩ := ro.at_ (show k < n + 1 by omega)
    refine ⟨_, rfl, _, rfl, rl, _, (k : Int), _, rfl, rfl, hl, at_of rfl (rz_at ek), ?_⟩
    refine ⟨_, rfl, _, rfl, rl, fl, rz l, rz fr, true, true, rfl, hl, hf, fun D hD => ?_⟩
    refine lc_it (walk_zipB (K := K) (a := rl) (b := fl) (xs := rz l) (ys := rz fr) (p := true) (q := true) (n := n + 1) ((rz_len l).trans ro.len) ((rz_len fr).trans rf.len)) (fun j H' => ∃ m : List Fz, Same H H' ∧ H' D = some (.lst (rz m)) ∧ FL K H' m ∧ m.length = j ∧ PreL (fun j => A i j + A i k * freedR k (A k) j) m)
      ⟨[], same_new hD, upd_same, .nil, rfl, .nil⟩ (fun j H' _ ⟨m, s, _⟩ => ⟨s.seq hl, s.seq hf⟩) ?_ ?_
    · rintro j v H2 H3 hj ⟨m, s2, hD2, fm, lm, pm⟩ ⟨U, x1, y1, rfl, hU, rfl, gx, gy⟩
      obtain ⟨zj, ej, rfl⟩ := rz_get gx
      obtain ⟨wj, fj, rfl⟩ := rz_get gy
      obtain ⟨vj, jn⟩ := ro.get ej
      obtain ⟨uj, _⟩ := rf.get fj
      have sU : Same H2 (upd H2 U (.tup [.ref zj.1, .ref wj.1])) := same_new hU
      have hU3 : (upd H2 U (.tup [.ref zj.1, .ref wj.1])) U = some (.tup [.ref zj.1, .ref wj.1]) := upd_same
      generalize upd H2 U (.tup [.ref zj.1, .ref wj.1]) = H3 at sU hU3
      have s3 := s2.trans sU
      have f1 := (ll zj (List.mem_of_getElem? ej)).same s3
      have f2 := (lf wj (List.mem_of_getElem? fj)).same s3
      have f3 := (ll zk (List.mem_of_getElem? ek)).same s3
      rw [vj] at f1
      rw [uj] at f2
      rw [vk] at f3
      refine ⟨U, _, rfl, SqT.of hU3, rfl, _, _, rfl, _, _, rfl, rfl, rfl, yesT ?_⟩
      refine ⟨_, rfl, _, rfl, _, rfl, zk.1, wj.1, _, _, rfl, f3, f2, ok.a i k lin (by omega), ok.fr j (by omega), trivial, fun z1 H4 s4 n4 h4 => ?_⟩
      refine ⟨zj.1, z1, _, _, rfl, f1.same s4, h4, ok.a i j lin (by omega), ok.mu i j lin (by omega), trivial, fun z2 H7 s7 n7 h7 => ?_⟩
      have s27 := sU.trans (s4.trans s7)
      have hD7 := s27 _ _ hD2
      refine ⟨_, hD7, by rw [rz_len]; exact small' (by omega), m ++ [(z2, A i j + A i k * freedR k (A k) j)], Same.put (s2.trans s27) hD, by rw [upd_same, rz_snoc], FL.put (FL.snoc (fm.same s27) h7) hD7, snoc_len lm, pm.snoc (by rw [lm])⟩
    · rintro H4 ⟨m, s4, hD4, fm, lm, pm⟩
      have nought : FrQ K H4 T.C_NOUGHT 0 := T.q_NOUGHT H4
      refine ⟨_, rfl, _, rfl, D, _, (k : Int), k, rfl, rfl, hD4, ixN_nat (by rw [rz_len]; omega), ?_⟩
      rw [rz_set m k (T.C_NOUGHT, 0)]
      refine ⟨_, rfl, q D (m.set k (T.C_NOUGHT, 0)) _ (Same.put s4 hD) hD upd_same (FL.put (fun z hz => ?_) hD4) (RowL.of (by rw [List.length_set]; exact lm) (PreL.set (fun j y nej g => ?_) ?_))⟩
      · rcases mem_set hz with h | h
        · exact fm z h
        · rw [h]
          exact nought
      · unfold stepA
        rw [if_neg ne, if_neg nej]
        exact pm j y g
      · unfold stepA
        rw [if_neg ne, if_pos rfl]

end
end KR
namespace KR
open PySem PySem.Spec PyProof.Rows L2
section
variable {P : Program} {w : World} {K : PySem.W.Frag} {mg : Str → Option Value} {base : Heap}
def sp_p_steady_state (K : PySem.W.Frag) (C : Addr) : Sp := fun vs H Q E => ∃ (kl : Addr) (ks : List Kn) (p : Bool) (P0 : Nat → Bool), vs = [.ref kl] ∧ SqB K H kl (rk ks) p ∧ KnL K H ks.length ks ∧ 1 ≤ ks.length ∧ ks.length ≤ 6 ∧ Great (ks.map Kn.q) P0 ∧
  (psF P0 ks.length ≠ [] → ∀ (d tl : Addr) (H' : Hp), Same H H' → H' d = some (.xd (wh "NoSteady" (.ref tl))) → H' tl = some (.tup (ri (psF P0 ks.length))) → E (.ref C) (some d) H') ∧
  (psF P0 ks.length = [] → ∀ (f : Addr) (l : List Fz) (H' : Hp), Same H H' → H f = none → H' f = some (.lst (rz l)) → FL K H' l → l.map (·.2) = solQ (ks.map Kn.q) → (∃ y, Sta 6000000 ks.length 0 ks.length (initA (ks.map Kn.q)) y) → Q (.ref f) H')
theorem ok_p_steady_state (T : All K mg) : FnOk P w K mg base (L2.CX P w) 6 T.f_p_steady_state T.fd_p_steady_state ["kinds"] (sp_p_steady_state K T.C_NoSteady) := by
  refine T.d_p_steady_state.fn.okX sc_p_steady_state (fun vs H Q E h => ?_) (fun cdv A outer s H vs Q E hr h => ?_)
  · obtain ⟨kl, ks, p, P0, rfl, _⟩ := h
    rfl
  · obtain ⟨kl, ks, p, P0, rfl, hk, L, l1, l6, G0, qE, q⟩ := h
    refine ⟨_, (pss_cons (ps_set (i := 1) sc_p_steady_state.nd rfl (by first | exact Or.inl rfl | exact Or.inr rfl) (pe_call (ok_p__places_without_loss T) hr (by rfl) T.d_p__places_without_loss.mg T.d_p__places_without_loss.fn.kp T.d_p__places_without_loss.b .nil pass0 (pa_cons (pv 0) pa_nil)))
      (pss_cons (ps_if (pt_truth (pv 1) (by intro _; rfl)) (pss_one (ps_raise rfl (takes_of rfl rfl rfl rfl) (pmk_oex T.O_NoSteady T.i_NoSteady T.tI_NoSteady (ok_init_NoSteady T) (hr.mono (by decide)) T.bI_NoSteady .nil pass0 rfl T.g_NoSteady (by exact (pa_cons (pe_callTy call_tuple_of (by rfl) T.b_tuple (by decide +kernel) (pa_cons (pv 1) pa_nil)) pa_nil))))) pss_nil)
      (pss_cons (ps_set (i := 2) sc_p_steady_state.nd rfl (by first | exact Or.inl rfl | exact Or.inr rfl) (pe_lc (own := [("place", 3)]) (g := gName 3) (tt := tYes) (by rfl) sc_p_steady_state.nd (pi_range1 (by rfl) T.b_range (pa_cons (pe_callB (lenA (K := K) rfl) (by rfl) T.b_len PySem.boot_len (pa_cons (pv 0) pa_nil)) pa_nil)) (blkOk_by (own := [("place", 3)]) (N := ["kinds", "lossless", "rows", "place", "at", "row"]) (sc := defScope s_p_steady_state) (by decide +kernel)) (fun _ _ _ _ _ => (pg_name (i := 3) sc_p_steady_state.nd rfl (by first | exact Or.inl rfl | exact Or.inr rfl))) (fun _ _ _ _ _ => pts_nil) (fun _ _ _ _ _ => (pe_call (ok_p__row_of T) (hr.mono (by decide)) (by rfl) T.d_p__row_of.mg T.d_p__row_of.fn.kp T.d_p__row_of.b .nil pass0 (pa_cons (pv 0) (pa_cons (pv 3) pa_nil))))))
      (pss_cons (ps_for PassesOwn.leaving rfl (pi_range1 (by rfl) T.b_range (pa_cons (pe_callB (lenA (K := K) rfl) (by rfl) T.b_len PySem.boot_len (pa_cons (pv 0) pa_nil)) pa_nil)) (pg_name (i := 3) sc_p_steady_state.nd rfl (by first | exact Or.inl rfl | exact Or.inr rfl)) (pss_cons (ps_asg (pe_call (ok_p__freed_of_itself T) (hr.mono (by decide)) (by rfl) T.d_p__freed_of_itself.mg T.d_p__freed_of_itself.fn.kp T.d_p__freed_of_itself.b .nil pass0 (pa_cons (pe_ix (ixL (K := K) rfl) (pv 2) (pv 3) (fun _ _ => rfl)) (pa_cons (pv 3) pa_nil))) (pg_sub (pv 2) (pv 3) set_list))
      (pss_one (ps_set (i := 2) sc_p_steady_state.nd rfl (by first | exact Or.inl rfl | exact Or.inr rfl) (pe_lc (own := [("at", 4), ("row", 5)]) (g := gTup K 2 (gCons (gName 4) (gCons (gName 5) gNil))) (tt := tYes) (by rfl) sc_p_steady_state.nd (pi_enumB (K := K) rfl (by rfl) T.b_enumerate (pa_cons (pv 2) pa_nil)) (blkOk_by (own := [("at", 4), ("row", 5)]) (N := ["kinds", "lossless", "rows", "place", "at", "row"]) (sc := defScope s_p_steady_state) (by decide +kernel)) (fun _ _ _ _ _ => (pg_tupK (K := K) rfl rfl (pgs_cons (pg_name (i := 4) sc_p_steady_state.nd rfl (by first | exact Or.inl rfl | exact Or.inr rfl)) (pgs_cons (pg_name (i := 5) sc_p_steady_state.nd rfl (by first | exact Or.inl rfl | exact Or.inr rfl)) pgs_nil)))) (fun _ _ _ _ _ => pts_nil) (fun _ _ _ _ _ => (pe_ifExp (pt_cmpR op_eq (pv 4) (pv 3) (nomark _)) (pv 5) (pe_call (ok_p__put_into T) (hr.mono (by decide)) (by rfl) T.d_p__put_into.mg T.d_p__put_into.fn.kp T.d_p__put_into.b .nil pass0 (pa_cons (pv 5) (pa_cons (pv 3) (pa_cons (pe_ix (ixL (K := K) rfl) (pv 2) (pv 3) (fun _ _ => rfl)) pa_nil)))))))))))
      (pss_one (ps_ret (pe_lc (own := [("row", 5)]) (g := gName 5) (tt := tYes) (by rfl) sc_p_steady_state.nd (pi_listK (K := K) rfl (pv 2)) (blkOk_by (own := [("row", 5)]) (N := ["kinds", "lossless", "rows", "place", "at", "row"]) (sc := defScope s_p_steady_state) (by decide +kernel)) (fun _ _ _ _ _ => (pg_name (i := 5) sc_p_steady_state.nd rfl (by first | exact Or.inl rfl | exact Or.inr rfl))) (fun _ _ _ _ _ => pts_nil) (fun _ _ _ _ _ => (pe_ix (ixL (K := K) rfl) (pv 5) (pe_un un_neg pe_int) (fun _ _ => rfl)))))))))), ?_⟩
    have O := L.ks l6
    have len : (ks.map Kn.q).length = ks.length := List.length_map _
    refine ⟨_, rfl, kl, ks, p, rfl, hk, L, l6, fun lo P H1 s1 n1 h1 LP GP => ?_⟩
    have pe : psF P ks.length = psF P0 ks.length := by
      have e := GP.one G0
      rw [len] at e
      exact e
    by_cases pn : psF P ks.length = []
    case neg =>
      refine ⟨_, rfl, true, .inl ⟨_, SqL.of h1, ?_⟩, iteT ?_⟩
      · cases e : psF P ks.length with
        | nil => exact absurd e pn
        | cons _ _ => rfl
      refine ⟨_, rfl, lo, _, rfl, .inl ⟨SqL.of h1, fun tl ntl => ?_⟩⟩
      have sa : Same H1 (upd H1 tl (.tup (ri (psF P ks.length)))) := same_new ntl
      have htl : (upd H1 tl (.tup (ri (psF P ks.length)))) tl = some (.tup (ri (psF P ks.length))) := upd_same
      generalize upd H1 tl (.tup (ri (psF P ks.length))) = H2 at sa htl
      refine ⟨by show 1 ≤ 1000; decide, fun a ha => ⟨a, .ref tl, rfl, upd_same, fun d hd hne => ?_⟩⟩
      rw [upd_ne hne] at hd
      refine ⟨rfl, d, (wh "NoSteady" (.ref tl)), upd_same, by rw [upd_ne hne, upd_same], hd, ?_⟩
      refine qE (by rw [← pe]; exact pn) d tl _ (s1.trans (sa.trans ?_)) upd_same ?_
      · exact raised_keeps ha hd
      · rw [← pe]
        exact (raised_keeps ha hd) _ _ htl
    have q := q (by rw [← pe]; exact pn)
    rw [pn] at h1
    obtain ⟨y, W⟩ := LP.w
    have S := W.none O fun i hi => psF_nil.mp pn i (by rw [len] at hi; exact hi)
    rw [len] at S
    refine ⟨_, rfl, false, .inl ⟨[], SqL.of h1, rfl⟩, iteF ?_⟩
    refine ⟨_, rfl, _, _, rfl, lenV_seqB (hk.same s1), _, rfl, ?_⟩
    rw [rk_len]
    refine ⟨by omega, by omega, fun D hD => ?_⟩
    have hk1 := hk.same s1
    have L1 := L.same s1
    refine lc_range (lo := 0) (n := ks.length) (fun i H' => ∃ rs : List Rw, Same H1 H' ∧ H' D = some (.lst (rv rs)) ∧ rs.length = i ∧ RwL K H' ks.length (initA (ks.map Kn.q)) D rs) ⟨[], same_new hD, upd_same, rfl, .nil⟩ (fun i H2 hi z => ?_) (fun H2 z => ?_)
    · obtain ⟨rs, s2, hD2, lr, R⟩ := z
      rw [Int.zero_add]
      refine ⟨rfl, yesT ?_⟩
      refine ⟨_, rfl, _, rfl, kl, ks, i, p, rfl, hk1.same s2, L1.same s2, hi, l6, fun f l H3 s3 n3 h3 fl ro => ?_⟩
      have hD3 := s3 _ _ hD2
      have fD : f ≠ D := fun e => by
        rw [e, hD2] at n3
        cases n3
      refine ⟨_, hD3, by rw [rv_len]; exact small' (by omega), rs ++ [(f, l)], Same.put (s2.trans s3) hD, by rw [upd_same, rv_snoc], snoc_len lr, ?_⟩
      exact ((R.same s3).snoc ⟨h3, fl, by rw [lr]; exact ro⟩ fD).put hD3
    · obtain ⟨rs, s2, hD2, lr, R⟩ := z
      have hk2 := hk1.same s2
      refine ⟨_, rfl, _, _, rfl, lenV_seqB hk2, _, rfl, ?_⟩
      rw [rk_len]
      refine ⟨by omega, by omega, for_range (lo := 0) (n := ks.length) (fun k σ H' => ∃ (rl : Addr) (rs : List Rw) (v3 v4 v5 : Option V), σ = [some (.ref kl), some (.ref lo), some (.ref rl), v3, v4, v5] ∧ Same H1 H' ∧ H1 rl = none ∧ H' rl = some (.lst (rv rs)) ∧ rs.length = ks.length ∧ RwL K H' ks.length (stgA (initA (ks.map Kn.q)) k) rl rs)
        ⟨D, rs, none, none, none, rfl, s2, hD, hD2, lr, R⟩ ?_ ?_⟩
      · rintro k σ H3 hi ⟨rl, rs, v3, v4, v5, rfl, s3, nr, hr3, lr, R⟩
        have ok := sol_step (ks := ks.map Kn.q) O (by rw [len]; exact S) (k := k) (by rw [len]; exact hi)
        rw [len] at ok
        have er : rs[k]? = some rs[k] := List.getElem?_eq_getElem (by omega)
        generalize rs[k] = rk' at er
        have Rk := (R k rk' er).1
        rw [Int.zero_add]
        refine ⟨_, rfl, _, rfl, rl, _, (k : Int), _, rfl, rfl, SqL.of hr3, at_of rfl (rv_at er), _, rfl, rk'.1, rk'.2, ks.length, k, _, rfl, SqL.of Rk.at_, Rk.fl, Rk.ro, hi, l6, ok, fun f m H4 s4 n4 h4 fm ro => ?_⟩
        have hr4 := s4 _ _ hr3
        refine ⟨_, rfl, _, rfl, rl, _, (k : Int), k, rfl, rfl, hr4, ixN_nat (by rw [rv_len]; omega), ?_⟩
        rw [rv_set rs k (f, m)]
        have frl : f ≠ rl := fun e => by
          rw [e, hr3] at n4
          cases n4
        have Rf : RwOk K (upd H4 rl (.lst (rv (rs.set k (f, m))))) ks.length (freedR k (stgA (initA (ks.map Kn.q)) k k)) (f, m) := RwOk.put ⟨h4, fm, ro⟩ hr4 frl
        have R5 := (R.same s4).put (ys := rv (rs.set k (f, m))) hr4
        have hr5 : (upd H4 rl (.lst (rv (rs.set k (f, m))))) rl = some (.lst (rv (rs.set k (f, m)))) := upd_same
        have s5 : Same H1 (upd H4 rl (.lst (rv (rs.set k (f, m))))) := Same.put (s3.trans s4) nr
        generalize upd H4 rl (.lst (rv (rs.set k (f, m)))) = H5 at Rf R5 hr5 s5
        have slen : (rs.set k (f, m)).length = ks.length := by rw [List.length_set, lr]
        have eself : (rs.set k (f, m))[k]? = some (f, m) := List.getElem?_set_self (by omega)
        refine ⟨_, rfl, rl, _, true, rfl, SqL.of hr5, fun D' hD' => ?_⟩
        refine lc_it (walk_enumB (K := K) (a := rl) (xs := rv (rs.set k (f, m))) (p := true)) (fun j H' => ∃ qs : List Rw, Same H5 H' ∧ H' D' = some (.lst (rv qs)) ∧ qs.length = j ∧ RwL K H' ks.length (stgA (initA (ks.map Kn.q)) (k + 1)) D' qs)
          ⟨[], same_new hD', upd_same, rfl, .nil⟩ (fun j H' _ ⟨qs, s, _⟩ => SqL.of (s _ _ hr5)) ?_ ?_
        · rintro j v H6 H7 hj ⟨qs, s6, hD6, lq, R6⟩ ⟨T0, x0, y0, rfl, hT, rfl, e0, ex⟩
          obtain rfl := Option.some.inj e0
          obtain ⟨r, ej, rfl⟩ := rv_get ex
          rw [rv_len, slen] at hj
          have sT : Same H6 (upd H6 T0 (.tup [.int (j : Nat), .ref r.1])) := same_new hT
          have hT7 : (upd H6 T0 (.tup [.int (j : Nat), .ref r.1])) T0 = some (.tup [.int (j : Nat), .ref r.1]) := upd_same
          generalize upd H6 T0 (.tup [.int (j : Nat), .ref r.1]) = H7 at sT hT7
          have s57 := s6.trans sT
          have hD7 := sT _ _ hD6
          have rD : r.1 ≠ D' := fun e => by
            by_cases c : j = k
            · subst c
              rw [eself] at ej
              cases ej
              have : H5 f = some _ := Rf.at_
              rw [show f = D' from e, hD'] at this
              cases this
            · rw [List.getElem?_set_ne (fun z => c z.symm)] at ej
              have := (R5 j r ej).1.at_
              rw [e, hD'] at this
              cases this
          refine ⟨T0, _, rfl, SqT.of hT7, rfl, _, _, rfl, _, _, rfl, rfl, rfl, yesT ?_⟩
          refine ⟨_, rfl, _, rfl, rfl, _, rfl, ?_⟩
          by_cases c : j = k
          · subst c
            rw [eself] at ej
            cases ej
            refine ite_iT rfl ?_
            refine ⟨_, rfl, _, hD7, by rw [rv_len]; exact small' (by omega), qs ++ [(f, m)], Same.put s57 hD', by rw [upd_same, rv_snoc], snoc_len lq, ?_⟩
            refine ((R6.same sT).snoc ?_ rD).put hD7
            refine (show RwOk K H5 ks.length _ (f, m) from ⟨Rf.at_, Rf.fl, ?_⟩).same s57
            rw [lq]
            have e1 : stgA (initA (ks.map Kn.q)) (j + 1) j = freedR j (stgA (initA (ks.map Kn.q)) j j) := by
              funext i
              show stepA j _ j i = _
              unfold stepA
              rw [if_pos rfl]
            rw [e1]
            exact Rf.ro
          · have ej' := ej
            rw [List.getElem?_set_ne (fun z => c z.symm)] at ej'
            have Rj := (R5 j r ej').1.same s57
            have Rf7 := Rf.same s57
            refine ite_iF (by omega) ?_
            refine ⟨_, rfl, _, rfl, _, rfl, _, rfl, rl, _, (k : Int), _, rfl, rfl, SqL.of (s57 _ _ hr5), at_of rfl (rv_at eself), r.1, f, r.2, m, ks.length, k, j, _, rfl, SqL.of Rj.at_, Rj.fl, Rj.ro, SqL.of Rf7.at_, Rf7.fl, Rf7.ro, hi, hj, c, l6, ok, fun g u H8 s8 n8 h8 fu ru => ?_⟩
            have hD8 := s8 _ _ hD7
            have gD : g ≠ D' := fun e => by
              rw [e, hD7] at n8
              cases n8
            refine ⟨_, hD8, by rw [rv_len]; exact small' (by omega), qs ++ [(g, u)], Same.put (s57.trans s8) hD', by rw [upd_same, rv_snoc], snoc_len lq, ?_⟩
            refine (((R6.same sT).same s8).snoc ⟨h8, fu, ?_⟩ gD).put hD8
            rw [lq]
            exact ru
        · rintro H6 ⟨qs, s6, hD6, lq, R6⟩
          rw [rv_len, slen] at lq
          exact ⟨D', qs, _, _, _, rfl, s5.trans s6, same_none s5 hD', hD6, lq, R6⟩
      · rintro σ H3 ⟨rl, rs, v3, v4, v5, rfl, s3, nr, hr3, lr, R⟩
        refine ⟨_, rfl, rl, rfl, ⟨_, SqL.of hr3⟩, fun D2 hD2 => ?_⟩
        refine lc_it (walk_list (K := K) (a := rl) (xs := rv rs)) (fun j H' => ∃ m : List Fz, Same H3 H' ∧ H' D2 = some (.lst (rz m)) ∧ FL K H' m ∧ m.length = j ∧ PreL (fun i => stgA (initA (ks.map Kn.q)) ks.length i ks.length) m)
          ⟨[], same_new hD2, upd_same, .nil, rfl, .nil⟩ (fun j H' _ ⟨m, s, _⟩ => SqL.of (s _ _ hr3)) ?_ ?_
        · rintro j v H4 H5 hj ⟨m, s4, hD4, fm, lm, pm⟩ ⟨rfl, hv⟩
          obtain ⟨r, ej, rfl⟩ := rv_get hv
          have Rj := (R j r ej).1.same s4
          obtain ⟨z, ez, vz⟩ := Rj.ro.at_ (show ks.length < ks.length + 1 by omega)
          rw [rv_len] at hj
          refine ⟨rfl, yesT ?_⟩
          refine ⟨_, rfl, _, rfl, r.1, _, -1, _, rfl, rfl, SqL.of Rj.at_, at_last Rj.ro.len ez, ?_⟩
          refine ⟨_, hD4, by rw [rz_len]; exact small' (by omega), m ++ [z], Same.put s4 hD2, by rw [upd_same, rz_snoc], FL.put (FL.snoc fm (Rj.fl z (List.mem_of_getElem? ez))) hD4, snoc_len lm, pm.snoc (by rw [lm]; exact vz)⟩
        · rintro H4 ⟨m, s4, hD4, fm, lm, pm⟩
          rw [rv_len, lr] at lm
          exact q D2 m H4 (s1.trans (s3.trans s4)) (same_none (s1.trans s3) hD2) hD4 fm (sol_pre (by rw [len]; exact lm) (by rw [len]; exact pm)) ⟨y, S⟩

end
end KR
namespace KR
open PySem PySem.Spec PyProof.Rows L2
section
variable {P : Program} {w : World} {K : PySem.W.Frag} {mg : Str → Option Value} {base : Heap}
def sp_p_rounds_till (K : PySem.W.Frag) (C : Addr) : Sp := fun vs H Q E => ∃ (kl al ml : Addr) (ks : List Kn) (am : List Fz) (m : Rat) (p p2 : Bool) (P0 : Nat → Bool), vs = [.ref kl, .ref al, .ref ml] ∧ SqB K H kl (rk ks) p ∧ SqB K H al (rz am) p2 ∧ KnL K H ks.length ks ∧ FL K H am ∧ am.length = ks.length ∧ 1 ≤ ks.length ∧ ks.length ≤ 6 ∧ Great (ks.map Kn.q) P0 ∧ (∀ z ∈ am, AmS z.2) ∧ FrQ K H ml m ∧ Big m ∧
  (psF P0 ks.length ≠ [] → ∀ (d tl : Addr) (H' : Hp), Same H H' → H' d = some (.xd (wh "NoSteady" (.ref tl))) → H' tl = some (.tup (ri (psF P0 ks.length))) → E (.ref C) (some d) H') ∧
  (psF P0 ks.length = [] → ∀ v H', Same H H' → Q v H')
theorem ok_p_rounds_till (T : All K mg) : FnOk P w K mg base (L2.CX P w) 7 T.f_p_rounds_till T.fd_p_rounds_till ["kinds", "amounts", "most"] (sp_p_rounds_till K T.C_NoSteady) := by
  refine T.d_p_rounds_till.fn.okX sc_p_rounds_till (fun vs H Q E h => ?_) (fun cdv A outer s H vs Q E hr h => ?_)
  · obtain ⟨kl, al, ml, ks, am, m, p, p2, P0, rfl, _⟩ := h
    rfl
  · obtain ⟨kl, al, ml, ks, am, m, p, p2, P0, rfl, hk, ha, L, fa, la, l1, l6, G0, aa, hm, bm, qE, q⟩ := h
    refine ⟨_, (pss_cons (ps_set (i := 3) sc_p_rounds_till.nd rfl (by first | exact Or.inl rfl | exact Or.inr rfl) (pe_callS (ok_p_steady_state T) (hr.mono (by decide)) (by rfl) T.d_p_steady_state.mg T.d_p_steady_state.fn.kp T.d_p_steady_state.b (fun σ => passAt (takes_of rfl rfl rfl rfl) σ) (pa_cons (pv 0) pa_nil)))
      (pss_cons (ps_set (i := 4) sc_p_rounds_till.nd rfl (by first | exact Or.inl rfl | exact Or.inr rfl) (pv 1))
      (pss_cons (ps_for PassesOwn.leaving rfl (pi_range1 (by rfl) T.b_range (pa_cons (pe_op op_add (pe_glob (v := .int 40) rfl T.c_MOST_ROUNDS ⟨_, rfl⟩) pe_int) pa_nil)) (pg_name (i := 5) sc_p_rounds_till.nd rfl (by first | exact Or.inl rfl | exact Or.inr rfl)) (pss_cons (ps_if (pt_not (pt_val (pe_call (ok_p_is_lesser T) (hr.mono (by decide)) (by rfl) T.d_p_is_lesser.mg T.d_p_is_lesser.fn.kp T.d_p_is_lesser.b .nil pass0 (pa_cons (pv 2) (pa_cons (pe_call (ok_p_gap_between T) (hr.mono (by decide)) (by rfl) T.d_p_gap_between.mg T.d_p_gap_between.fn.kp T.d_p_gap_between.b .nil pass0 (pa_cons (pv 4) (pa_cons (pv 3) pa_nil))) pa_nil))))) (pss_one (ps_ret (pv 5))) pss_nil)
      (pss_one (ps_set (i := 4) sc_p_rounds_till.nd rfl (by first | exact Or.inl rfl | exact Or.inr rfl) (pe_call (ok_p_walked_once T) (hr.mono (by decide)) (by rfl) T.d_p_walked_once.mg T.d_p_walked_once.fn.kp T.d_p_walked_once.b .nil pass0 (pa_cons (pv 0) (pa_cons (pv 4) pa_nil)))))))
      (pss_one (ps_ret pe_non))))), ?_⟩
    have O := L.ks l6
    have len : (ks.map Kn.q).length = ks.length := List.length_map _
    have lq : (am.map (·.2)).length = (ks.map Kn.q).length := by rw [List.length_map, List.length_map, la]
    refine ⟨_, rfl, kl, ks, p, P0, rfl, hk, L, l1, l6, G0, qE, fun pn f st H1 s1 n1 h1 fs es ⟨y, S⟩ => ?_⟩
    have q := q pn
    obtain ⟨M, M1, M0, rr⟩ := rounds6 O (mem_q aa) lq
    have gg := gap6 O (mem_q aa) lq (y := y) (by rw [len]; exact S)
    have ls : st.length = ks.length := by
      have e := congrArg List.length es
      rw [List.length_map, sol_len, len] at e
      exact e
    refine ⟨_, rfl, ?_⟩
    refine ⟨_, _, rfl, rfl, 41, rfl, by decide, by decide, for_range (lo := 0) (n := 41) (fun i σ H' => ∃ (d : Addr) (dr : List Fz) (pd : Bool) (v5 : Option V), σ = [some (.ref kl), some (.ref al), some (.ref ml), some (.ref f), some (.ref d), v5] ∧ Same H1 H' ∧ SqB K H' d (rz dr) pd ∧ FL K H' dr ∧ dr.map (·.2) = roundsQ (ks.map Kn.q) i (am.map (·.2)))
      ⟨al, am, p2, none, rfl, .refl _, ha.same s1, fa.same s1, rfl⟩ ?_ ?_⟩
    · rintro i σ H2 hi ⟨d, dr, pd, v5, rfl, s2, hd, fd, ed⟩
      have dl : dr.length = ks.length := by
        have e := congrArg List.length ed
        rw [List.length_map, rounds_len lq, len] at e
        exact e
      have s12 := s1.trans s2
      refine ⟨_, rfl, _, rfl, _, rfl, d, f, dr, st, pd, true, rfl, hd, SqL.of (s2 _ _ h1), fd, fs.same s2, by omega, by omega, by rw [ed, es]; exact gg i (by omega), fun z H3 s3 hz => ?_⟩
      rw [ed, es] at hz
      have s13 := s12.trans s3
      refine ⟨ml, z, m, _, rfl, hm.same s13, hz, bm, (gg i (by omega)).bz, _, rfl, ?_⟩
      by_cases c : m < gapQ (roundsQ (ks.map Kn.q) i (am.map (·.2))) (solQ (ks.map Kn.q))
      · refine ite_bF (by rw [decide_eq_true c] <;> rfl) ?_
        refine ⟨_, rfl, _, rfl, kl, d, ks, dr, _, _, p, pd, rfl, hk.same s13, hd.same s3, L.same s13, fd.same s3, dl, by omega, by rw [ed]; exact (rr i (by omega)).1, fun g l H4 s4 n4 h4 fl el => ?_⟩
        exact ⟨g, l, true, _, rfl, s2.trans (s3.trans s4), SqL.of h4, fl, by rw [el, ed] <;> rfl⟩
      · refine ite_bT (by rw [decide_eq_false c] <;> rfl) ?_
        exact ⟨_, rfl, q _ _ s13⟩
    · rintro σ H2 ⟨d, dr, pd, v5, rfl, s2, hd, fd, ed⟩
      exact q _ _ (s1.trans s2)

end
end KR
namespace KR
open PySem PySem.Spec PyProof.Rows L2
section
variable {P : Program} {w : World} {K : PySem.W.Frag} {mg : Str → Option Value} {base : Heap}
def sp_l_refused (K : PySem.W.Frag) : Sp := fun vs H Q _ => ∃ (kl ml : Addr) (va : V) (ks : List Kn) (m : Rat) (P0 : Nat → Bool), vs = [.ref kl, va, .ref ml] ∧ SqL K H kl (rk ks) ∧ KnL K H ks.length ks ∧ 1 ≤ ks.length ∧ ks.length ≤ 6 ∧ Great (ks.map Kn.q) P0 ∧ FrQ K H ml m ∧ Big m ∧
  (va = .non ∨ ∃ (al : Addr) (am : List Fz), va = .ref al ∧ SqL K H al (rz am) ∧ FL K H am ∧ am.length = ks.length ∧ ∀ z ∈ am, AmS z.2) ∧
  (psF P0 ks.length ≠ [] → ∀ (tl : Addr) (H' : Hp), Same H H' → H' tl = some (.tup (ri (psF P0 ks.length))) → Q (.ref tl) H') ∧
  (psF P0 ks.length = [] → ∀ H', Same H H' → Q .non H')
theorem ok_l_refused (T : All K mg) : FnOk P w K mg base CX0 8 T.f_l_refused T.fd_l_refused ["_law_kinds_here", "_law_amounts_here", "_law_most"] (sp_l_refused K) := by
  refine T.d_l_refused.fn.ok sc_l_refused (fun vs H Q E h => ?_) (fun cdv A outer s H vs Q E hr h => ?_)
  · obtain ⟨kl, ml, va, ks, m, P0, rfl, _⟩ := h
    rfl
  · obtain ⟨kl, ml, va, ks, m, P0, rfl, hk, L, l1, l6, G0, hm, bm, hva, qE, qG⟩ := h
    refine ⟨_, (pss_cons (ps_set (i := 3) sc_l_refused.nd rfl (by first | exact Or.inl rfl | exact Or.inr rfl) pe_non)
      (pss_cons (ps_try_keep (i := 4) (tb := fun W => tIfS _ (tDrop (tCallS (sp_p_steady_state K T.C_NoSteady) (WE W) (tCons (tVar 0) tNil))) (tDrop (tCallS (sp_p_rounds_till K T.C_NoSteady) (WE W) (tCons (tVar 0) (tCons (tVar 1) (tCons (tVar 2) tNil)))))) (ts := fun a cls d => tAsg (tVar 4) (gName 3)) (Wo := fun _ _ _ _ => False) rfl rfl sc_l_refused.nd rfl rfl ⟨rfl, by decide, Or.inl T.g_BoilError⟩ takes0 (fun W pn xe tk _ => pss_one (ps_if (pt_cmpR op_isN (pv 1) pe_non (nomark _)) (pss_one (ps_expr (by exact (pe_callS (ok_p_steady_state T) (hr.mono (by decide)) (by rfl) T.d_p_steady_state.mg T.d_p_steady_state.fn.kp T.d_p_steady_state.b (fun σ => passAt tk σ) (pa_cons (pv 0) pa_nil))))) (pss_one (ps_expr (by exact (pe_callS (ok_p_rounds_till T) hr (by rfl) T.d_p_rounds_till.mg T.d_p_rounds_till.fn.kp T.d_p_rounds_till.b (fun σ => passAt tk σ) (pa_cons (pv 0) (pa_cons (pv 1) (pa_cons (pv 2) pa_nil))))))))) (fun a ob cls d pn z f => pss_one (ps_set (i := 3) sc_l_refused.nd rfl (Or.inl rfl) (pv 4))))
      (pss_cons (ps_if (pt_cmpR op_isN (pv 3) pe_non (nomark _)) (pss_one (ps_ret pe_non)) pss_nil)
      (pss_cons (ps_if (pt_val (pe_callB (isXT (K := K) rfl) (by rfl) T.b_isinstance (by decide +kernel) (pa_cons (pv 3) (pa_cons (pe_tupI (pa_cons (pe_glob (v := .ref T.C_BadDeed) rfl T.g_BadDeed rfl) (pa_cons (pe_glob (v := .ref T.C_BadFrac) rfl T.g_BadFrac rfl) (pa_cons (pe_glob (v := .ref T.C_BadKettles) rfl T.g_BadKettles rfl) (pa_cons (pe_glob (v := .ref T.C_BadMoulds) rfl T.g_BadMoulds rfl) (pa_cons (pe_glob (v := .ref T.C_BadRow) rfl T.g_BadRow rfl) (pa_cons (pe_glob (v := .ref T.C_Cured) rfl T.g_Cured rfl) (pa_cons (pe_glob (v := .ref T.C_Empty) rfl T.g_Empty rfl) (pa_cons (pe_glob (v := .ref T.C_InWork) rfl T.g_InWork rfl) (pa_cons (pe_glob (v := .ref T.C_NoHour) rfl T.g_NoHour rfl) (pa_cons (pe_glob (v := .ref T.C_NoKettle) rfl T.g_NoKettle rfl) pa_nil))))))))))) pa_nil)))) (pss_one (ps_ret pe_str)) pss_nil)
      (pss_cons (ps_if (pt_val (pe_callB (isXT (K := K) rfl) (by rfl) T.b_isinstance (by decide +kernel) (pa_cons (pv 3) (pa_cons (pe_tupI (pa_cons (pe_glob (v := .ref T.C_NoMould) rfl T.g_NoMould rfl) (pa_cons (pe_glob (v := .ref T.C_NoRoom) rfl T.g_NoRoom rfl) (pa_cons (pe_glob (v := .ref T.C_NoShare) rfl T.g_NoShare rfl) (pa_cons (pe_glob (v := .ref T.C_NoTelling) rfl T.g_NoTelling rfl) (pa_cons (pe_glob (v := .ref T.C_NotCured) rfl T.g_NotCured rfl) (pa_cons (pe_glob (v := .ref T.C_NotReady) rfl T.g_NotReady rfl) (pa_cons (pe_glob (v := .ref T.C_Same) rfl T.g_Same rfl) (pa_cons (pe_glob (v := .ref T.C_Stopped) rfl T.g_Stopped rfl) (pa_cons (pe_glob (v := .ref T.C_TooStrong) rfl T.g_TooStrong rfl) pa_nil)))))))))) pa_nil)))) (pss_one (ps_ret pe_str)) pss_nil)
      (pss_one (ps_ret (pe_ifExp (PW.pt (pw_and (pt_val (pe_callB (isX (K := K) rfl) (by rfl) T.b_isinstance (by decide +kernel) (pa_cons (pv 3) (pa_cons (pe_glob (v := .ref T.C_NoSteady) rfl T.g_NoSteady rfl) pa_nil)))) (pw_and1 (pt_val (pe_callB (isX (K := K) rfl) (by rfl) T.b_isinstance (by decide +kernel) (pa_cons (pv 3) (pa_cons (pe_bltn (v := .ty "ValueError") (by rfl) T.b_ValueError (by decide +kernel) rfl) pa_nil))))))) (pe_what rfl (pv 3)) pe_str)))))))), ?_⟩
    refine ⟨_, rfl, ?_⟩
    rcases hva with rfl | ⟨al, am, rfl, ha, fa, la, aa⟩
    · refine ⟨rfl, _, rfl, iteT ?_⟩
      refine ⟨_, rfl, kl, ks, true, P0, rfl, hk, L, l1, l6, G0, fun pn d tl H1 s1 hd ht => ⟨true, T.te, fun _ a ha => ⟨_, rfl, ?_⟩, fun z => nomatch z⟩, fun pn f l H1 s1 n1 h1 fl el st => ⟨_, rfl, rfl, _, rfl, iteT (qG pn H1 s1)⟩⟩
      have sa : Same H1 (upd H1 a (ExK (.ref T.C_NoSteady) (some d) a)) := same_new ha
      have kp : Kept K (upd H1 a (ExK (.ref T.C_NoSteady) (some d) a)) a T.C_NoSteady d (.ref tl) := ⟨T.E_NoSteady, upd_same, ⟨_, sa _ _ hd⟩⟩
      have ht2 := sa _ _ ht
      have s02 := s1.trans sa
      refine ⟨_, rfl, rfl, _, rfl, iteF ?_⟩
      refine ⟨_, rfl, rfl, fun tp H3 s3 n3 h3 => ?_⟩
      have k3 := kp.same s3
      refine ⟨a, T.C_NoSteady, d, tp, _, _, _, false, rfl, k3, h3, .cons (.own _) (.cons (.own _) (.cons (.own _) (.cons (.own _) (.cons (.own _) (.cons (.own _) (.cons (.own _) (.cons (.own _) (.cons (.own _) (.cons (.own _) .nil))))))))), T.k10, false, rfl, iteF ?_⟩
      refine ⟨_, rfl, rfl, fun tp2 H4 s4 n4 h4 => ?_⟩
      have k4 := k3.same s4
      refine ⟨a, T.C_NoSteady, d, tp2, _, _, _, false, rfl, k4, h4, .cons (.own _) (.cons (.own _) (.cons (.own _) (.cons (.own _) (.cons (.own _) (.cons (.own _) (.cons (.own _) (.cons (.own _) (.cons (.own _) .nil)))))))), T.k9, false, rfl, iteF ?_⟩
      refine ⟨_, rfl, a, T.C_NoSteady, d, _, .ref T.C_NoSteady, _, true, rfl, k4, .own _, T.kF, true, rfl, iteT ?_⟩
      refine ⟨_, rfl, a, T.C_NoSteady, d, _, .ty "ValueError", _, true, rfl, k4, .ty _, T.kV, true, rfl, iteT ?_⟩
      exact ⟨_, rfl, a, T.C_NoSteady, d, _, rfl, k4, qE pn tl H4 (s02.trans (s3.trans s4)) ((s3.trans s4) _ _ ht2)⟩
    · refine ⟨rfl, _, rfl, iteF ?_⟩
      refine ⟨_, rfl, _, rfl, _, rfl, kl, al, ml, ks, am, m, true, true, P0, rfl, hk, ha, L, fa, la, l1, l6, G0, aa, hm, bm, fun pn d tl H1 s1 hd ht => ⟨true, T.te, fun _ a ha => ⟨_, rfl, ?_⟩, fun z => nomatch z⟩, fun pn v H1 s1 => ⟨_, rfl, rfl, _, rfl, iteT (qG pn H1 s1)⟩⟩
      have sa : Same H1 (upd H1 a (ExK (.ref T.C_NoSteady) (some d) a)) := same_new ha
      have kp : Kept K (upd H1 a (ExK (.ref T.C_NoSteady) (some d) a)) a T.C_NoSteady d (.ref tl) := ⟨T.E_NoSteady, upd_same, ⟨_, sa _ _ hd⟩⟩
      have ht2 := sa _ _ ht
      have s02 := s1.trans sa
      refine ⟨_, rfl, rfl, _, rfl, iteF ?_⟩
      refine ⟨_, rfl, rfl, fun tp H3 s3 n3 h3 => ?_⟩
      have k3 := kp.same s3
      refine ⟨a, T.C_NoSteady, d, tp, _, _, _, false, rfl, k3, h3, .cons (.own _) (.cons (.own _) (.cons (.own _) (.cons (.own _) (.cons (.own _) (.cons (.own _) (.cons (.own _) (.cons (.own _) (.cons (.own _) (.cons (.own _) .nil))))))))), T.k10, false, rfl, iteF ?_⟩
      refine ⟨_, rfl, rfl, fun tp2 H4 s4 n4 h4 => ?_⟩
      have k4 := k3.same s4
      refine ⟨a, T.C_NoSteady, d, tp2, _, _, _, false, rfl, k4, h4, .cons (.own _) (.cons (.own _) (.cons (.own _) (.cons (.own _) (.cons (.own _) (.cons (.own _) (.cons (.own _) (.cons (.own _) (.cons (.own _) .nil)))))))), T.k9, false, rfl, iteF ?_⟩
      refine ⟨_, rfl, a, T.C_NoSteady, d, _, .ref T.C_NoSteady, _, true, rfl, k4, .own _, T.kF, true, rfl, iteT ?_⟩
      refine ⟨_, rfl, a, T.C_NoSteady, d, _, .ty "ValueError", _, true, rfl, k4, .ty _, T.kV, true, rfl, iteT ?_⟩
      exact ⟨_, rfl, a, T.C_NoSteady, d, _, rfl, k4, qE pn tl H4 (s02.trans (s3.trans s4)) ((s3.trans s4) _ _ ht2)⟩

end
end KR
namespace KR
open PySem PySem.Spec PyProof.Rows L2
section
variable {P : Program} {w : World} {K : PySem.W.Frag} {mg : Str → Option Value} {base : Heap}
def dpt (ps : List Nat) : PyData := .tuple ((ps.map fun i : Nat => (i : Int)).map PyData.int)
theorem dpt_shaped (ps : List Nat) : SeqAt.shaped (dpt ps) = true := flat_shaped (m := 1) (flat_tup (m := 0) fun d hd => by
  obtain ⟨i, _, rfl⟩ := List.mem_map.mp hd
  exact ⟨rfl, Nat.le_refl _⟩) (by decide)
theorem dpt_at {K : PySem.W.Frag} {H : Hp} {a : Addr} {ps : List Nat} (h : H a = some (.tup (ri ps))) : Dp K H (.ref a) (dpt ps) := .tup (SqT.of h) (ints_dps ps)
def dueV (H : Hp) (ps : List Nat) (v : V) : Prop := (ps = [] ∧ v = .non) ∨ (ps ≠ [] ∧ ∃ a, v = .ref a ∧ H a = some (.tup (ri ps)))
theorem dueV.same {H H' : Hp} {ps : List Nat} {v : V} (h : dueV H ps v) (s : Same H H') : dueV H' ps v := by
  rcases h with ⟨e, rfl⟩ | ⟨e, a, rfl, h⟩
  · exact .inl ⟨e, rfl⟩
  · exact .inr ⟨e, a, rfl, s _ _ h⟩
theorem all_false (n : Nat) : (List.replicate n false).map V.bl = List.replicate n (V.bl false) ∧ (List.replicate n false).any id = false := by
  refine ⟨List.map_replicate, ?_⟩
  induction n with
  | zero => rfl
  | succ n ih => rw [List.replicate_succ, List.any_cons, ih] <;> rfl
def sp_l_right (K : PySem.W.Frag) : Sp := fun vs H Q _ => ∃ p : Addr, vs = [.ref p] ∧ BoxAt H p 0 ∧ ∀ H', Fr p H H' → Q (.bl true) H'
theorem ok_l_right (T : All K mg) : FnOk P w K mg base CX0 9 T.f_l_right T.fd_l_right ["_law_box_here"] (sp_l_right K) := by
  refine T.d_l_right.fn.ok sc_l_right (fun vs H Q E h => ?_) (fun cdv A outer s H vs Q E hr h => ?_)
  · obtain ⟨p, rfl, _⟩ := h
    rfl
  · obtain ⟨p, rfl, hB, q⟩ := h
    refine ⟨_, (pss_cons (ps_set (i := 1) sc_l_right.nd rfl (by first | exact Or.inl rfl | exact Or.inr rfl) (pe_call (ok_l_closed T) (hr.mono (by decide)) (by rfl) T.d_l_closed.mg T.d_l_closed.fn.kp T.d_l_closed.b .nil pass0 (pa_cons (pv 0) pa_nil)))
      (pss_cons (ps_par (i := 2) (j := 3) (by rfl) sc_l_right.nd rfl rfl (by decide) rfl rfl (pa_cons (pe_call (ok_l_amounts T) (hr.mono (by decide)) (by rfl) T.d_l_amounts.mg T.d_l_amounts.fn.kp T.d_l_amounts.b .nil pass0 (pa_cons (pv 0) (pa_cons (pe_callB (lenQ (K := K) rfl) (by rfl) T.b_len PySem.boot_len (pa_cons (pv 1) pa_nil)) (pa_cons pe_int pa_nil)))) (pa_cons (pe_call (ok_l_lossless T) (hr.mono (by decide)) (by rfl) T.d_l_lossless.mg T.d_l_lossless.fn.kp T.d_l_lossless.b .nil pass0 (pa_cons (pv 1) pa_nil)) pa_nil)) (by rfl))
      (pss_cons (ps_J (ps_set (i := 4) sc_l_right.nd rfl (by first | exact Or.inl rfl | exact Or.inr rfl) (pe_ifExp (pt_cmpR (neDK (K := K) rfl hr.units) (pv 3) (pe_lstI pa_nil) (nomark _)) (pe_callTy call_tuple_of (by rfl) T.b_tuple (by decide +kernel) (pa_cons (pv 3) pa_nil)) pe_non)))
      (pss_cons (ps_set (i := 5) sc_l_right.nd rfl (by first | exact Or.inl rfl | exact Or.inr rfl) (pe_call (ok_l_low T) (hr.mono (by decide)) (by rfl) T.d_l_low.mg T.d_l_low.fn.kp T.d_l_low.b .nil pass0 (pa_cons (pe_op op_add pe_int (pe_call (ok_l_take T) (hr.mono (by decide)) (by rfl) T.d_l_take.mg T.d_l_take.fn.kp T.d_l_take.b .nil pass0 (pa_cons (pv 0) (pa_cons pe_int pa_nil)))) (pa_cons (pe_op op_add pe_int (pe_call (ok_l_take T) (hr.mono (by decide)) (by rfl) T.d_l_take.mg T.d_l_take.fn.kp T.d_l_take.b .nil pass0 (pa_cons (pv 0) (pa_cons pe_int pa_nil)))) pa_nil))))
      (pss_cons (ps_set (i := 6) sc_l_right.nd rfl (by first | exact Or.inl rfl | exact Or.inr rfl) (pe_lstI (pa_cons (pe_callTy (listI (K := K) rfl) (by rfl) T.b_list (by decide +kernel) (pa_cons (pv 1) pa_nil)) (pa_cons (pe_callTy (listI (K := K) rfl) (by rfl) T.b_list (by decide +kernel) (pa_cons (pv 2) pa_nil)) pa_nil))))
      (pss_cons (ps_for PassesOwn.never rfl (pi_tupK (K := K) rfl (pe_tupI (pa_cons pe_non (pa_cons (pe_ix (ixL (K := K) rfl) (pv 6) pe_int (fun _ _ => rfl)) pa_nil)))) (pg_name (i := 7) sc_l_right.nd rfl (by first | exact Or.inl rfl | exact Or.inr rfl)) (pss_cons (ps_set (i := 8) sc_l_right.nd rfl (by first | exact Or.inl rfl | exact Or.inr rfl) (pe_call (ok_l_refused T) hr (by rfl) T.d_l_refused.mg T.d_l_refused.fn.kp T.d_l_refused.b .nil pass0 (pa_cons (pe_ix (ixL (K := K) rfl) (pv 6) pe_int (fun _ _ => rfl)) (pa_cons (pv 7) (pa_cons (pv 5) pa_nil)))))
      (pss_one (ps_if (PW.pt (pw_or (pt_cmpR (neDK (K := K) rfl hr.units) (pv 8) (pv 4) (nomark _)) (pw_or1 (PW.pt (pw_and (pt_val (pe_callB (isiK (K := K) rfl) (by rfl) T.b_isinstance (by decide +kernel) (pa_cons (pv 8) (pa_cons (pe_bltn (v := .ty "tuple") (by rfl) T.b_tuple (by decide +kernel) rfl) pa_nil)))) (pw_and1 (pt_val (pe_callB (anyK (K := K) rfl rfl) (by rfl) T.b_any (by decide +kernel) (pa_cons (pe_lc (own := [("_law_place", 9)]) (g := gName 9) (tt := tYes) (by rfl) sc_l_right.nd (pi_tupK (K := K) rfl (pv 8)) (blkOk_by (own := [("_law_place", 9)]) (N := ["_law_box_here", "_law_kinds_here", "_law_amounts_here", "_law_places", "_law_due", "_law_most", "_law_handed", "_law_some", "_law_found", "_law_place"]) (sc := defScope s_l_right) (by decide +kernel)) (fun _ _ _ _ _ => (pg_name (i := 9) sc_l_right.nd rfl (by first | exact Or.inl rfl | exact Or.inr rfl))) (fun _ _ _ _ _ => pts_nil) (fun _ _ _ _ _ => (pe_callB (isiK (K := K) rfl) (by rfl) T.b_isinstance (by decide +kernel) (pa_cons (pv 9) (pa_cons (pe_bltn (v := .ty "bool") (by rfl) T.b_bool (by decide +kernel) rfl) pa_nil))))) pa_nil))))))))) (pss_one (ps_ret pe_bl)) pss_nil))))
      (pss_one (ps_ret (pe_cmpR (eqDK (K := K) rfl hr.units) (pv 6) (pe_lstI (pa_cons (pv 1) (pa_cons (pv 2) pa_nil))) (nomark _)))))))))), ?_⟩
    refine ⟨_, rfl, p, rfl, hB, fun kl ks H1 hk1 L1 l2 l6 B1 F1 klp => ?_⟩
    have len : (ks.map Kn.q).length = ks.length := List.length_map _
    refine ⟨_, rfl, _, rfl, kl, _, rfl, .inl (SqL.of hk1), ?_⟩
    rw [rk_len]
    refine ⟨p, ks.length, 1000, 2, rfl, B1, by decide, by omega, l6, by decide, by decide, fun al am H2 ha2 fa2 la qa B2 F2 alp na => ?_⟩
    have hk2 := F2 _ _ klp hk1
    have L2 := L1.fr B1 F2
    refine ⟨_, rfl, kl, ks, rfl, hk2, L2, l6, fun lo P H3 s3 n3 h3 GP => ⟨_, _, rfl, ?_⟩⟩
    have hk3 := s3 _ _ hk2
    have ha3 := s3 _ _ ha2
    have L3 := L2.same s3
    have fa3 := fa2.same s3
    have B3 := B2.same s3
    have F03 : Fr p H H3 := (F1.trans F2).trans (.of s3)
    refine ⟨fun σ' H' => ∃ dv : V, σ' = [some (.ref p), some (.ref kl), some (.ref al), some (.ref lo), some dv, none, none, none, none, none] ∧ Same H3 H' ∧ dueV H' (psF P ks.length) dv, ?_, ?_⟩
    · rintro σ' H4 ⟨dv, rfl, s4, due4⟩
      have B4 := B3.same s4
      refine ⟨_, rfl, p, 100, 1100, rfl, B4, by decide, by decide, by decide, fun x H5 x0 x1 B5 F5 => ⟨_, _, rfl, rfl, ?_⟩⟩
      refine ⟨_, rfl, p, 100, 1101, rfl, B5, by decide, by decide, by decide, fun y H6 y0 y1 B6 F6 => ⟨_, _, rfl, rfl, ?_⟩⟩
      refine ⟨1 + x, 1 + y, rfl, by omega, lt_up (a := 12) (by omega) (by decide), lt_up (a := 12) (by omega) (by decide), fun ml H7 s7 n7 h7 => ?_⟩
      have bm : Big (rq (1 + x) (1 + y)) := Sz.up (sz_rq (n := 12) (by omega) (by omega) (by omega)) (by decide)
      have F47 : Fr p H4 H7 := (F5.trans F6).trans (.of s7)
      have due7 : dueV H7 (psF P ks.length) dv := by
        rcases due4 with ⟨e, rfl⟩ | ⟨e, a, rfl, h⟩
        · exact .inl ⟨e, rfl⟩
        · exact .inr ⟨e, a, rfl, F47.tup B4 h⟩
      have F37 : Fr p H3 H7 := (Fr.of s4).trans F47
      have hk7 := F37 _ _ klp hk3
      have ha7 := F37 _ _ alp ha3
      have L7 := L3.fr B3 F37
      have fa7 := fa3.fr B3 F37
      refine ⟨_, rfl, kl, _, rfl, .inl (SqL.of hk7), fun c1 H8 s8 n8 h8 => ?_⟩
      refine ⟨_, rfl, al, _, rfl, .inl (SqL.of (s8 _ _ ha7)), fun c2 H9 s9 n9 h9 => ⟨rfl, fun hd H10 s10 n10 h10 => ?_⟩⟩
      refine ⟨_, rfl, hd, _, 1, _, rfl, rfl, SqL.of h10, at1, rfl, fun tp H11 s11 n11 h11 => ?_⟩
      have s911 := s10.trans s11
      have s711 := s8.trans (s9.trans s911)
      have hc1 := (s9.trans s911) _ _ h8
      have hc2 := s911 _ _ h9
      have hd11 := s11 _ _ h10
      have L11 := L7.same s711
      have fa11 := fa7.same s711
      have hm11 := h7.same s711
      have due11 := due7.same s711
      have hk11 := s711 _ _ hk7
      have ha11 := s711 _ _ ha7
      refine ⟨tp, rfl, ⟨_, SqT.of h11⟩, for_it (walk_tup (K := K) (a := tp) (xs := [.non, .ref c2])) (fun j σ H' => ∃ v7 v8 : Option V, σ = [some (.ref p), some (.ref kl), some (.ref al), some (.ref lo), some dv, some (.ref ml), some (.ref hd), v7, v8, none] ∧ Same H11 H')
        ⟨none, none, rfl, .refl _⟩ (fun j σ H' _ ⟨_, _, _, s⟩ => Same.tup s (SqT.of h11)) ?_ ?_⟩
      · rintro j v σ H12 H13 hj ⟨v7, v8, rfl, s12⟩ ⟨rfl, hv⟩
        have vv : v = .non ∨ v = .ref c2 := by
          match j, hv with
          | 0, hv => cases hv; exact .inl rfl
          | 1, hv => cases hv; exact .inr rfl
          | j + 2, hv => simp at hv
        refine ⟨_, rfl, hd, _, 0, _, rfl, rfl, SqL.of (s12 _ _ hd11), at0, _, rfl, _, rfl, c1, ml, v, ks, _, P, rfl, SqL.of (s12 _ _ hc1), L11.same s12, by omega, l6, GP, hm11.same s12, bm, ?_, fun pn tl H14 s14 htl => ?_, fun pn H14 s14 => ?_⟩
        · rcases vv with e | e
          · exact .inl e
          · exact .inr ⟨c2, am, e, SqL.of (s12 _ _ hc2), fa11.same s12, la, qa⟩
        · obtain ⟨_, dl, rfl, hdl⟩ := due11.resolve_left fun z => pn z.1
          have s1114 := s12.trans s14
          refine ⟨_, rfl, _, rfl, _, _, dpt_at htl, dpt_at (s1114 _ _ hdl), dpt_shaped _, dpt_shaped _, _, rfl, ?_⟩
          rw [SeqAt.eqv_refl _ (SeqAt.canLay_of_shaped (dpt_shaped _))]
          refine iteF ?_
          refine ⟨_, rfl, _, _, _, _, _, rfl, .ty _, .base (.tup htl), kit_ty (show kitB "tuple" "tuple" = some true by decide +kernel), _, rfl, iteT ?_⟩
          refine ⟨_, rfl, tl, rfl, ⟨_, SqT.of htl⟩, fun D hD => ?_⟩
          refine lc_it (walk_tup (K := K) (a := tl) (xs := ri (psF P ks.length))) (fun i H' => Same H14 H' ∧ H' D = some (.lst (List.replicate i (.bl false)))) ⟨same_new hD, upd_same⟩ (fun i H' _ z => SqT.of (z.1 _ _ htl)) ?_ ?_
          · rintro i v H15 H16 hi ⟨s15, hD15⟩ ⟨rfl, hv⟩
            obtain ⟨z, _, rfl⟩ := ri_get hv
            have pl := psF_le P ks.length
            rw [ri_len] at hi
            refine ⟨rfl, yesT ?_⟩
            refine ⟨_, rfl, _, _, _, _, _, rfl, .ty _, .base (.int _), kit_ty (show kitB "int" "bool" = some false by decide +kernel), ?_⟩
            refine ⟨_, hD15, by rw [List.length_replicate]; exact small' (by omega), Same.put s15 hD, ?_⟩
            rw [upd_same, List.replicate_succ'] <;> rfl
          · rintro H15 ⟨s15, hD15⟩
            obtain ⟨t1, t2⟩ := all_false (ri (psF P ks.length)).length
            refine ⟨D, List.replicate (ri (psF P ks.length)).length false, rfl, SqL.of (by rw [t1]; exact hD15), ?_⟩
            rw [t2]
            refine ⟨_, rfl, iteF ?_⟩
            exact ⟨_, _, rfl, s1114.trans s15⟩
        · obtain ⟨_, rfl⟩ := due11.resolve_right fun z => z.1 pn
          refine ⟨_, rfl, _, rfl, _, _, .non, .non, rfl, rfl, _, rfl, ?_⟩
          rw [SeqAt.eqv_refl _ rfl]
          refine iteF ?_
          refine ⟨_, rfl, _, _, _, _, _, rfl, .ty _, .base .non, kit_ty (show kitB "NoneType" "tuple" = some false by decide +kernel), _, rfl, iteF ?_⟩
          exact ⟨_, _, rfl, s12.trans s14⟩
      · rintro σ H12 ⟨v7, v8, rfl, s12⟩
        refine ⟨_, rfl, _, rfl, _, rfl, rfl, fun nl H13 s13 n13 h13 => ?_⟩
        have s1113 := s12.trans s13
        have dp1 : Dp K H13 (.ref hd) (dka ks am) := .lst (SqL.of (s1113 _ _ hd11)) (.cons (.lst (SqL.of (s1113 _ _ hc1)) (L11.same s1113).dps) (.cons (.lst (SqL.of (s1113 _ _ hc2)) (fa11.same s1113).dps) .nil))
        have dp2 : Dp K H13 (.ref nl) (dka ks am) := .lst (SqL.of h13) (.cons (.lst (SqL.of (s1113 _ _ hk11)) (L11.same s1113).dps) (.cons (.lst (SqL.of (s1113 _ _ ha11)) (fa11.same s1113).dps) .nil))
        have sh := dka_shaped ks am
        refine ⟨_, _, dp1, dp2, sh, sh, ?_⟩
        rw [SeqAt.eqv_refl _ (SeqAt.canLay_of_shaped sh)]
        exact q H13 (F03.trans (F37.trans (.of (s711.trans s1113))))
    · refine ⟨_, rfl, rfl, fun t H4 s4 n4 h4 => ⟨_, _, ri_dp (SqL.of (s4 _ _ h3)), ri_dp (ps := []) (SqL.of h4), dpi_shaped _, dpi_shaped _, _, rfl, ?_⟩⟩
      rw [dpi_eqv]
      by_cases c : psF P ks.length = []
      · refine ite_bF (by rw [decide_eq_true c] <;> rfl) ?_
        exact ⟨.non, rfl, s4, .inl ⟨c, rfl⟩⟩
      · refine ite_bT (by rw [decide_eq_false c] <;> rfl) ?_
        refine ⟨_, rfl, lo, _, rfl, .inl ⟨SqL.of (s4 _ _ h3), fun dl ndl => ?_⟩⟩
        exact ⟨_, rfl, s4.trans (same_new ndl), .inr ⟨c, dl, rfl, upd_same⟩⟩

end
end KR
namespace KR
open PySem PySem.Spec PyProof.Rows L2
section
variable {P : Program} {w : World} {K : PySem.W.Frag} {mg : Str → Option Value} {base : Heap}
def sp_p_law (K : PySem.W.Frag) : Sp := fun vs H Q _ => ∃ (a : Addr) (ns : List Int), vs = [.ref a] ∧ SqL K H a (ns.map V.int) ∧ ns.length ≤ 63 ∧ ∀ H', Q (.bl true) H'
theorem ok_p_law (T : All K mg) : FnOk P w K mg base CX0 10 T.f_p_law T.fd_p_law ["_law_script"] (sp_p_law K) := by
  refine T.d_p_law.fn.ok sc_p_law (fun vs H Q E h => ?_) (fun cdv A outer s H vs Q E hr h => ?_)
  · obtain ⟨a, ns, rfl, _⟩ := h
    rfl
  · obtain ⟨a, ns, rfl, hS, hlen, q⟩ := h
    refine ⟨_, (pss_one (ps_ret (pe_callB (allK (K := K) rfl rfl) (by rfl) T.b_all (by decide +kernel) (pa_cons (pe_lc (own := [("_law_k", 1)]) (g := gName 1) (tt := tYes) (by rfl) sc_p_law.nd (pi_range1 (by rfl) T.b_range (pa_cons (pe_op op_add pe_int (pe_callB (call_min2 rfl) (by rfl) T.b_min (by decide +kernel) (pa_cons pe_int (pa_cons (pe_callB (lenQ (K := K) rfl) (by rfl) T.b_len PySem.boot_len (pa_cons (pv 0) pa_nil)) pa_nil)))) pa_nil)) (blkOk_by (own := [("_law_k", 1)]) (N := ["_law_script", "_law_k"]) (sc := defScope s_p_law) (by decide +kernel)) (fun _ _ _ _ _ => (pg_name (i := 1) sc_p_law.nd rfl (by first | exact Or.inl rfl | exact Or.inr rfl))) (fun _ _ _ _ _ => pts_nil) (fun _ _ _ _ _ => (pe_call (ok_l_right T) hr (by rfl) T.d_l_right.mg T.d_l_right.fn.kp T.d_l_right.b .nil pass0 (pa_cons (pe_call (ok_l_box T) (hr.mono (by decide)) (by rfl) T.d_l_box.mg T.d_l_box.fn.kp T.d_l_box.b .nil pass0 (pa_cons (pv 0) (pa_cons (pv 1) pa_nil))) pa_nil)))) pa_nil)))), ?_⟩
    refine ⟨_, rfl, a, _, rfl, .inl hS, _, _, rfl, _, _, rfl, rfl, _, rfl, ?_⟩
    rw [List.length_map]
    obtain ⟨m, em, m1, m2⟩ : ∃ m : Nat, (1 + (if (ns.length : Int) < 3 then (ns.length : Int) else 3)) = (m : Int) ∧ 1 ≤ m ∧ m ≤ 64 := by
      refine ⟨(1 + (if (ns.length : Int) < 3 then (ns.length : Int) else 3)).toNat, ?_, ?_, ?_⟩ <;> split <;> omega
    dsimp only
    rw [em]
    refine ⟨by omega, by omega, fun D hD => ?_⟩
    refine lc_range (lo := 0) (n := m) (fun i H' => Same H H' ∧ H' D = some (.lst (List.replicate i (.bl true)))) ⟨same_new hD, upd_same⟩ (fun i H1 hi z => ?_) (fun H1 z => ?_)
    · obtain ⟨sm, hd⟩ := z
      refine ⟨rfl, yesT ?_⟩
      refine ⟨_, rfl, _, rfl, a, ns, _, rfl, sm.seq hS, by omega, by omega, fun p H2 s2 n2 B2 => ?_⟩
      refine ⟨p, rfl, B2, fun H3 F3 => ?_⟩
      have hd2 := s2 _ _ hd
      have dp : D ≠ p := ne_of_none hd n2
      have s3 : Same H1 H3 := fun b o e => F3 b o (ne_of_none e n2) (s2 b o e)
      have hd3 := s3 _ _ hd
      refine ⟨_, hd3, by rw [List.length_replicate]; exact small' (by omega), Same.put (sm.trans s3) hD, ?_⟩
      rw [upd_same, List.replicate_succ'] <;> rfl
    · obtain ⟨sm, hd⟩ := z
      obtain ⟨t1, t2⟩ := all_true m
      refine ⟨D, List.replicate m true, rfl, SqL.of (by rw [t1]; exact hd), ?_⟩
      rw [t2]
      exact q H1

end
end KR
namespace KR
open PySem PySem.Spec PyProof.Rows L2
theorem all_mk {l : PySem.W.OpenLaw} {w : World} {K : PySem.W.Frag} {h : Heap} {mg : Str → Option Value} {fa : Addr} (X : K.In h) (G : h.Ns mainGlobals mg) (hfa : mg "law" = some (.ref fa))
    {od0 an0 : Option Addr} {sl0 : Array (Option Value)} {oc0 kV0 dc0 pm0 cd0 ct0 : Value} {f0 : Addr}
    (a0 : PySem.W.nsIn K mainGlobals "is_number" = some (some (.ref f0))) (l0 : K.lookup f0 = some ⟨oc0, od0, .func (PySem.W.fnOf "is_number" "is_number" (defArgs s_p_is_number) (defBody s_p_is_number) (defScope s_p_is_number) .none kV0 dc0 pm0 an0 cd0 ct0), sl0⟩) (c0 : PySem.W.codeIn K cd0 "is_number" = true) (k0 : PySem.W.keepIn K (.ref f0) = true)
    {od1 an1 : Option Addr} {sl1 : Array (Option Value)} {oc1 kV1 dc1 pm1 cd1 ct1 : Value} {f1 : Addr}
    (a1 : PySem.W.nsIn K mainGlobals "is_frac" = some (some (.ref f1))) (l1 : K.lookup f1 = some ⟨oc1, od1, .func (PySem.W.fnOf "is_frac" "is_frac" (defArgs s_p_is_frac) (defBody s_p_is_frac) (defScope s_p_is_frac) .none kV1 dc1 pm1 an1 cd1 ct1), sl1⟩) (c1 : PySem.W.codeIn K cd1 "is_frac" = true) (k1 : PySem.W.keepIn K (.ref f1) = true)
    {od2 an2 : Option Addr} {sl2 : Array (Option Value)} {oc2 kV2 dc2 pm2 cd2 ct2 : Value} {f2 : Addr}
    (a2 : PySem.W.nsIn K mainGlobals "frac_of" = some (some (.ref f2))) (l2 : K.lookup f2 = some ⟨oc2, od2, .func (PySem.W.fnOf "frac_of" "frac_of" (defArgs s_p_frac_of) (defBody s_p_frac_of) (defScope s_p_frac_of) .none kV2 dc2 pm2 an2 cd2 ct2), sl2⟩) (c2 : PySem.W.codeIn K cd2 "frac_of" = true) (k2 : PySem.W.keepIn K (.ref f2) = true)
    {od3 an3 : Option Addr} {sl3 : Array (Option Value)} {oc3 kV3 dc3 pm3 cd3 ct3 : Value} {f3 : Addr}
    (a3 : PySem.W.nsIn K mainGlobals "sum_of" = some (some (.ref f3))) (l3 : K.lookup f3 = some ⟨oc3, od3, .func (PySem.W.fnOf "sum_of" "sum_of" (defArgs s_p_sum_of) (defBody s_p_sum_of) (defScope s_p_sum_of) .none kV3 dc3 pm3 an3 cd3 ct3), sl3⟩) (c3 : PySem.W.codeIn K cd3 "sum_of" = true) (k3 : PySem.W.keepIn K (.ref f3) = true)
    {od4 an4 : Option Addr} {sl4 : Array (Option Value)} {oc4 kV4 dc4 pm4 cd4 ct4 : Value} {f4 : Addr}
    (a4 : PySem.W.nsIn K mainGlobals "sum_of_all" = some (some (.ref f4))) (l4 : K.lookup f4 = some ⟨oc4, od4, .func (PySem.W.fnOf "sum_of_all" "sum_of_all" (defArgs s_p_sum_of_all) (defBody s_p_sum_of_all) (defScope s_p_sum_of_all) .none kV4 dc4 pm4 an4 cd4 ct4), sl4⟩) (c4 : PySem.W.codeIn K cd4 "sum_of_all" = true) (k4 : PySem.W.keepIn K (.ref f4) = true)
    {od5 an5 : Option Addr} {sl5 : Array (Option Value)} {oc5 kV5 dc5 pm5 cd5 ct5 : Value} {f5 : Addr}
    (a5 : PySem.W.nsIn K mainGlobals "difference" = some (some (.ref f5))) (l5 : K.lookup f5 = some ⟨oc5, od5, .func (PySem.W.fnOf "difference" "difference" (defArgs s_p_difference) (defBody s_p_difference) (defScope s_p_difference) .none kV5 dc5 pm5 an5 cd5 ct5), sl5⟩) (c5 : PySem.W.codeIn K cd5 "difference" = true) (k5 : PySem.W.keepIn K (.ref f5) = true)
    {od6 an6 : Option Addr} {sl6 : Array (Option Value)} {oc6 kV6 dc6 pm6 cd6 ct6 : Value} {f6 : Addr}
    (a6 : PySem.W.nsIn K mainGlobals "product" = some (some (.ref f6))) (l6 : K.lookup f6 = some ⟨oc6, od6, .func (PySem.W.fnOf "product" "product" (defArgs s_p_product) (defBody s_p_product) (defScope s_p_product) .none kV6 dc6 pm6 an6 cd6 ct6), sl6⟩) (c6 : PySem.W.codeIn K cd6 "product" = true) (k6 : PySem.W.keepIn K (.ref f6) = true)
    {od7 an7 : Option Addr} {sl7 : Array (Option Value)} {oc7 kV7 dc7 pm7 cd7 ct7 : Value} {f7 : Addr}
    (a7 : PySem.W.nsIn K mainGlobals "quotient" = some (some (.ref f7))) (l7 : K.lookup f7 = some ⟨oc7, od7, .func (PySem.W.fnOf "quotient" "quotient" (defArgs s_p_quotient) (defBody s_p_quotient) (defScope s_p_quotient) .none kV7 dc7 pm7 an7 cd7 ct7), sl7⟩) (c7 : PySem.W.codeIn K cd7 "quotient" = true) (k7 : PySem.W.keepIn K (.ref f7) = true)
    {od8 an8 : Option Addr} {sl8 : Array (Option Value)} {oc8 kV8 dc8 pm8 cd8 ct8 : Value} {f8 : Addr}
    (a8 : PySem.W.nsIn K mainGlobals "is_lesser" = some (some (.ref f8))) (l8 : K.lookup f8 = some ⟨oc8, od8, .func (PySem.W.fnOf "is_lesser" "is_lesser" (defArgs s_p_is_lesser) (defBody s_p_is_lesser) (defScope s_p_is_lesser) .none kV8 dc8 pm8 an8 cd8 ct8), sl8⟩) (c8 : PySem.W.codeIn K cd8 "is_lesser" = true) (k8 : PySem.W.keepIn K (.ref f8) = true)
    {od9 an9 : Option Addr} {sl9 : Array (Option Value)} {oc9 kV9 dc9 pm9 cd9 ct9 : Value} {f9 : Addr}
    (a9 : PySem.W.nsIn K mainGlobals "walked_once" = some (some (.ref f9))) (l9 : K.lookup f9 = some ⟨oc9, od9, .func (PySem.W.fnOf "walked_once" "walked_once" (defArgs s_p_walked_once) (defBody s_p_walked_once) (defScope s_p_walked_once) .none kV9 dc9 pm9 an9 cd9 ct9), sl9⟩) (c9 : PySem.W.codeIn K cd9 "walked_once" = true) (k9 : PySem.W.keepIn K (.ref f9) = true)
    {od10 an10 : Option Addr} {sl10 : Array (Option Value)} {oc10 kV10 dc10 pm10 cd10 ct10 : Value} {f10 : Addr}
    (a10 : PySem.W.nsIn K mainGlobals "gap_between" = some (some (.ref f10))) (l10 : K.lookup f10 = some ⟨oc10, od10, .func (PySem.W.fnOf "gap_between" "gap_between" (defArgs s_p_gap_between) (defBody s_p_gap_between) (defScope s_p_gap_between) .none kV10 dc10 pm10 an10 cd10 ct10), sl10⟩) (c10 : PySem.W.codeIn K cd10 "gap_between" = true) (k10 : PySem.W.keepIn K (.ref f10) = true)
    {od11 an11 : Option Addr} {sl11 : Array (Option Value)} {oc11 kV11 dc11 pm11 cd11 ct11 : Value} {f11 : Addr}
    (a11 : PySem.W.nsIn K mainGlobals "_dripped_of" = some (some (.ref f11))) (l11 : K.lookup f11 = some ⟨oc11, od11, .func (PySem.W.fnOf "_dripped_of" "_dripped_of" (defArgs s_p__dripped_of) (defBody s_p__dripped_of) (defScope s_p__dripped_of) .none kV11 dc11 pm11 an11 cd11 ct11), sl11⟩) (c11 : PySem.W.codeIn K cd11 "_dripped_of" = true) (k11 : PySem.W.keepIn K (.ref f11) = true)
    {od12 an12 : Option Addr} {sl12 : Array (Option Value)} {oc12 kV12 dc12 pm12 cd12 ct12 : Value} {f12 : Addr}
    (a12 : PySem.W.nsIn K mainGlobals "steady_state" = some (some (.ref f12))) (l12 : K.lookup f12 = some ⟨oc12, od12, .func (PySem.W.fnOf "steady_state" "steady_state" (defArgs s_p_steady_state) (defBody s_p_steady_state) (defScope s_p_steady_state) .none kV12 dc12 pm12 an12 cd12 ct12), sl12⟩) (c12 : PySem.W.codeIn K cd12 "steady_state" = true) (k12 : PySem.W.keepIn K (.ref f12) = true)
    {od13 an13 : Option Addr} {sl13 : Array (Option Value)} {oc13 kV13 dc13 pm13 cd13 ct13 : Value} {f13 : Addr}
    (a13 : PySem.W.nsIn K mainGlobals "rounds_till" = some (some (.ref f13))) (l13 : K.lookup f13 = some ⟨oc13, od13, .func (PySem.W.fnOf "rounds_till" "rounds_till" (defArgs s_p_rounds_till) (defBody s_p_rounds_till) (defScope s_p_rounds_till) .none kV13 dc13 pm13 an13 cd13 ct13), sl13⟩) (c13 : PySem.W.codeIn K cd13 "rounds_till" = true) (k13 : PySem.W.keepIn K (.ref f13) = true)
    {od14 an14 : Option Addr} {sl14 : Array (Option Value)} {oc14 kV14 dc14 pm14 cd14 ct14 : Value} {f14 : Addr}
    (a14 : PySem.W.nsIn K mainGlobals "_places_without_loss" = some (some (.ref f14))) (l14 : K.lookup f14 = some ⟨oc14, od14, .func (PySem.W.fnOf "_places_without_loss" "_places_without_loss" (defArgs s_p__places_without_loss) (defBody s_p__places_without_loss) (defScope s_p__places_without_loss) .none kV14 dc14 pm14 an14 cd14 ct14), sl14⟩) (c14 : PySem.W.codeIn K cd14 "_places_without_loss" = true) (k14 : PySem.W.keepIn K (.ref f14) = true)
    {od15 an15 : Option Addr} {sl15 : Array (Option Value)} {oc15 kV15 dc15 pm15 cd15 ct15 : Value} {f15 : Addr}
    (a15 : PySem.W.nsIn K mainGlobals "_goes_in_all" = some (some (.ref f15))) (l15 : K.lookup f15 = some ⟨oc15, od15, .func (PySem.W.fnOf "_goes_in_all" "_goes_in_all" (defArgs s_p__goes_in_all) (defBody s_p__goes_in_all) (defScope s_p__goes_in_all) .none kV15 dc15 pm15 an15 cd15 ct15), sl15⟩) (c15 : PySem.W.codeIn K cd15 "_goes_in_all" = true) (k15 : PySem.W.keepIn K (.ref f15) = true)
    {od16 an16 : Option Addr} {sl16 : Array (Option Value)} {oc16 kV16 dc16 pm16 cd16 ct16 : Value} {f16 : Addr}
    (a16 : PySem.W.nsIn K mainGlobals "_row_of" = some (some (.ref f16))) (l16 : K.lookup f16 = some ⟨oc16, od16, .func (PySem.W.fnOf "_row_of" "_row_of" (defArgs s_p__row_of) (defBody s_p__row_of) (defScope s_p__row_of) .none kV16 dc16 pm16 an16 cd16 ct16), sl16⟩) (c16 : PySem.W.codeIn K cd16 "_row_of" = true) (k16 : PySem.W.keepIn K (.ref f16) = true)
    {od17 an17 : Option Addr} {sl17 : Array (Option Value)} {oc17 kV17 dc17 pm17 cd17 ct17 : Value} {f17 : Addr}
    (a17 : PySem.W.nsIn K mainGlobals "_freed_of_itself" = some (some (.ref f17))) (l17 : K.lookup f17 = some ⟨oc17, od17, .func (PySem.W.fnOf "_freed_of_itself" "_freed_of_itself" (defArgs s_p__freed_of_itself) (defBody s_p__freed_of_itself) (defScope s_p__freed_of_itself) .none kV17 dc17 pm17 an17 cd17 ct17), sl17⟩) (c17 : PySem.W.codeIn K cd17 "_freed_of_itself" = true) (k17 : PySem.W.keepIn K (.ref f17) = true)
    {od18 an18 : Option Addr} {sl18 : Array (Option Value)} {oc18 kV18 dc18 pm18 cd18 ct18 : Value} {f18 : Addr}
    (a18 : PySem.W.nsIn K mainGlobals "_put_into" = some (some (.ref f18))) (l18 : K.lookup f18 = some ⟨oc18, od18, .func (PySem.W.fnOf "_put_into" "_put_into" (defArgs s_p__put_into) (defBody s_p__put_into) (defScope s_p__put_into) .none kV18 dc18 pm18 an18 cd18 ct18), sl18⟩) (c18 : PySem.W.codeIn K cd18 "_put_into" = true) (k18 : PySem.W.keepIn K (.ref f18) = true)
    {od19 an19 : Option Addr} {sl19 : Array (Option Value)} {oc19 kV19 dc19 pm19 cd19 ct19 : Value} {f19 : Addr}
    (a19 : PySem.W.nsIn K mainGlobals "_law_cell_at" = some (some (.ref f19))) (l19 : K.lookup f19 = some ⟨oc19, od19, .func (PySem.W.fnOf "_law_cell_at" "_law_cell_at" (defArgs s_l_cell_at) (defBody s_l_cell_at) (defScope s_l_cell_at) .none kV19 dc19 pm19 an19 cd19 ct19), sl19⟩) (c19 : PySem.W.codeIn K cd19 "_law_cell_at" = true) (k19 : PySem.W.keepIn K (.ref f19) = true)
    {od20 an20 : Option Addr} {sl20 : Array (Option Value)} {oc20 kV20 dc20 pm20 cd20 ct20 : Value} {f20 : Addr}
    (a20 : PySem.W.nsIn K mainGlobals "_law_box" = some (some (.ref f20))) (l20 : K.lookup f20 = some ⟨oc20, od20, .func (PySem.W.fnOf "_law_box" "_law_box" (defArgs s_l_box) (defBody s_l_box) (defScope s_l_box) .none kV20 dc20 pm20 an20 cd20 ct20), sl20⟩) (c20 : PySem.W.codeIn K cd20 "_law_box" = true) (k20 : PySem.W.keepIn K (.ref f20) = true)
    {od21 an21 : Option Addr} {sl21 : Array (Option Value)} {oc21 kV21 dc21 pm21 cd21 ct21 : Value} {f21 : Addr}
    (a21 : PySem.W.nsIn K mainGlobals "_law_take" = some (some (.ref f21))) (l21 : K.lookup f21 = some ⟨oc21, od21, .func (PySem.W.fnOf "_law_take" "_law_take" (defArgs s_l_take) (defBody s_l_take) (defScope s_l_take) .none kV21 dc21 pm21 an21 cd21 ct21), sl21⟩) (c21 : PySem.W.codeIn K cd21 "_law_take" = true) (k21 : PySem.W.keepIn K (.ref f21) = true)
    {od22 an22 : Option Addr} {sl22 : Array (Option Value)} {oc22 kV22 dc22 pm22 cd22 ct22 : Value} {f22 : Addr}
    (a22 : PySem.W.nsIn K mainGlobals "_law_low" = some (some (.ref f22))) (l22 : K.lookup f22 = some ⟨oc22, od22, .func (PySem.W.fnOf "_law_low" "_law_low" (defArgs s_l_low) (defBody s_l_low) (defScope s_l_low) .none kV22 dc22 pm22 an22 cd22 ct22), sl22⟩) (c22 : PySem.W.codeIn K cd22 "_law_low" = true) (k22 : PySem.W.keepIn K (.ref f22) = true)
    {od23 an23 : Option Addr} {sl23 : Array (Option Value)} {oc23 kV23 dc23 pm23 cd23 ct23 : Value} {f23 : Addr}
    (a23 : PySem.W.nsIn K mainGlobals "_law_plus" = some (some (.ref f23))) (l23 : K.lookup f23 = some ⟨oc23, od23, .func (PySem.W.fnOf "_law_plus" "_law_plus" (defArgs s_l_plus) (defBody s_l_plus) (defScope s_l_plus) .none kV23 dc23 pm23 an23 cd23 ct23), sl23⟩) (c23 : PySem.W.codeIn K cd23 "_law_plus" = true) (k23 : PySem.W.keepIn K (.ref f23) = true)
    {od24 an24 : Option Addr} {sl24 : Array (Option Value)} {oc24 kV24 dc24 pm24 cd24 ct24 : Value} {f24 : Addr}
    (a24 : PySem.W.nsIn K mainGlobals "_law_all" = some (some (.ref f24))) (l24 : K.lookup f24 = some ⟨oc24, od24, .func (PySem.W.fnOf "_law_all" "_law_all" (defArgs s_l_all) (defBody s_l_all) (defScope s_l_all) .none kV24 dc24 pm24 an24 cd24 ct24), sl24⟩) (c24 : PySem.W.codeIn K cd24 "_law_all" = true) (k24 : PySem.W.keepIn K (.ref f24) = true)
    {od25 an25 : Option Addr} {sl25 : Array (Option Value)} {oc25 kV25 dc25 pm25 cd25 ct25 : Value} {f25 : Addr}
    (a25 : PySem.W.nsIn K mainGlobals "_law_goes" = some (some (.ref f25))) (l25 : K.lookup f25 = some ⟨oc25, od25, .func (PySem.W.fnOf "_law_goes" "_law_goes" (defArgs s_l_goes) (defBody s_l_goes) (defScope s_l_goes) .none kV25 dc25 pm25 an25 cd25 ct25), sl25⟩) (c25 : PySem.W.codeIn K cd25 "_law_goes" = true) (k25 : PySem.W.keepIn K (.ref f25) = true)
    {od26 an26 : Option Addr} {sl26 : Array (Option Value)} {oc26 kV26 dc26 pm26 cd26 ct26 : Value} {f26 : Addr}
    (a26 : PySem.W.nsIn K mainGlobals "_law_kinds" = some (some (.ref f26))) (l26 : K.lookup f26 = some ⟨oc26, od26, .func (PySem.W.fnOf "_law_kinds" "_law_kinds" (defArgs s_l_kinds) (defBody s_l_kinds) (defScope s_l_kinds) .none kV26 dc26 pm26 an26 cd26 ct26), sl26⟩) (c26 : PySem.W.codeIn K cd26 "_law_kinds" = true) (k26 : PySem.W.keepIn K (.ref f26) = true)
    {od27 an27 : Option Addr} {sl27 : Array (Option Value)} {oc27 kV27 dc27 pm27 cd27 ct27 : Value} {f27 : Addr}
    (a27 : PySem.W.nsIn K mainGlobals "_law_amounts" = some (some (.ref f27))) (l27 : K.lookup f27 = some ⟨oc27, od27, .func (PySem.W.fnOf "_law_amounts" "_law_amounts" (defArgs s_l_amounts) (defBody s_l_amounts) (defScope s_l_amounts) .none kV27 dc27 pm27 an27 cd27 ct27), sl27⟩) (c27 : PySem.W.codeIn K cd27 "_law_amounts" = true) (k27 : PySem.W.keepIn K (.ref f27) = true)
    {od28 an28 : Option Addr} {sl28 : Array (Option Value)} {oc28 kV28 dc28 pm28 cd28 ct28 : Value} {f28 : Addr}
    (a28 : PySem.W.nsIn K mainGlobals "_law_strays" = some (some (.ref f28))) (l28 : K.lookup f28 = some ⟨oc28, od28, .func (PySem.W.fnOf "_law_strays" "_law_strays" (defArgs s_l_strays) (defBody s_l_strays) (defScope s_l_strays) .none kV28 dc28 pm28 an28 cd28 ct28), sl28⟩) (c28 : PySem.W.codeIn K cd28 "_law_strays" = true) (k28 : PySem.W.keepIn K (.ref f28) = true)
    {od29 an29 : Option Addr} {sl29 : Array (Option Value)} {oc29 kV29 dc29 pm29 cd29 ct29 : Value} {f29 : Addr}
    (a29 : PySem.W.nsIn K mainGlobals "_law_lossless" = some (some (.ref f29))) (l29 : K.lookup f29 = some ⟨oc29, od29, .func (PySem.W.fnOf "_law_lossless" "_law_lossless" (defArgs s_l_lossless) (defBody s_l_lossless) (defScope s_l_lossless) .none kV29 dc29 pm29 an29 cd29 ct29), sl29⟩) (c29 : PySem.W.codeIn K cd29 "_law_lossless" = true) (k29 : PySem.W.keepIn K (.ref f29) = true)
    {od30 an30 : Option Addr} {sl30 : Array (Option Value)} {oc30 kV30 dc30 pm30 cd30 ct30 : Value} {f30 : Addr}
    (a30 : PySem.W.nsIn K mainGlobals "_law_within" = some (some (.ref f30))) (l30 : K.lookup f30 = some ⟨oc30, od30, .func (PySem.W.fnOf "_law_within" "_law_within" (defArgs s_l_within) (defBody s_l_within) (defScope s_l_within) .none kV30 dc30 pm30 an30 cd30 ct30), sl30⟩) (c30 : PySem.W.codeIn K cd30 "_law_within" = true) (k30 : PySem.W.keepIn K (.ref f30) = true)
    {od31 an31 : Option Addr} {sl31 : Array (Option Value)} {oc31 kV31 dc31 pm31 cd31 ct31 : Value} {f31 : Addr}
    (a31 : PySem.W.nsIn K mainGlobals "_law_closed" = some (some (.ref f31))) (l31 : K.lookup f31 = some ⟨oc31, od31, .func (PySem.W.fnOf "_law_closed" "_law_closed" (defArgs s_l_closed) (defBody s_l_closed) (defScope s_l_closed) .none kV31 dc31 pm31 an31 cd31 ct31), sl31⟩) (c31 : PySem.W.codeIn K cd31 "_law_closed" = true) (k31 : PySem.W.keepIn K (.ref f31) = true)
    {od32 an32 : Option Addr} {sl32 : Array (Option Value)} {oc32 kV32 dc32 pm32 cd32 ct32 : Value} {f32 : Addr}
    (a32 : PySem.W.nsIn K mainGlobals "_law_refused" = some (some (.ref f32))) (l32 : K.lookup f32 = some ⟨oc32, od32, .func (PySem.W.fnOf "_law_refused" "_law_refused" (defArgs s_l_refused) (defBody s_l_refused) (defScope s_l_refused) .none kV32 dc32 pm32 an32 cd32 ct32), sl32⟩) (c32 : PySem.W.codeIn K cd32 "_law_refused" = true) (k32 : PySem.W.keepIn K (.ref f32) = true)
    {od33 an33 : Option Addr} {sl33 : Array (Option Value)} {oc33 kV33 dc33 pm33 cd33 ct33 : Value} {f33 : Addr}
    (a33 : PySem.W.nsIn K mainGlobals "_law_right" = some (some (.ref f33))) (l33 : K.lookup f33 = some ⟨oc33, od33, .func (PySem.W.fnOf "_law_right" "_law_right" (defArgs s_l_right) (defBody s_l_right) (defScope s_l_right) .none kV33 dc33 pm33 an33 cd33 ct33), sl33⟩) (c33 : PySem.W.codeIn K cd33 "_law_right" = true) (k33 : PySem.W.keepIn K (.ref f33) = true)
    {od34 an34 : Option Addr} {sl34 : Array (Option Value)} {oc34 kV34 dc34 pm34 cd34 ct34 : Value} {f34 : Addr}
    (a34 : PySem.W.nsIn K mainGlobals "law" = some (some (.ref f34))) (l34 : K.lookup f34 = some ⟨oc34, od34, .func (PySem.W.fnOf "law" "law" (defArgs s_p_law) (defBody s_p_law) (defScope s_p_law) .none kV34 dc34 pm34 an34 cd34 ct34), sl34⟩) (c34 : PySem.W.codeIn K cd34 "law" = true) (k34 : PySem.W.keepIn K (.ref f34) = true)
    (z_ValueError : PySem.W.nsIn K mainGlobals "ValueError" = some none)
    (z_abs : PySem.W.nsIn K mainGlobals "abs" = some none)
    (z_all : PySem.W.nsIn K mainGlobals "all" = some none)
    (z_any : PySem.W.nsIn K mainGlobals "any" = some none)
    (z_bool : PySem.W.nsIn K mainGlobals "bool" = some none)
    (z_enumerate : PySem.W.nsIn K mainGlobals "enumerate" = some none)
    (z_int : PySem.W.nsIn K mainGlobals "int" = some none)
    (z_isinstance : PySem.W.nsIn K mainGlobals "isinstance" = some none)
    (z_len : PySem.W.nsIn K mainGlobals "len" = some none)
    (z_list : PySem.W.nsIn K mainGlobals "list" = some none)
    (z_min : PySem.W.nsIn K mainGlobals "min" = some none)
    (z_range : PySem.W.nsIn K mainGlobals "range" = some none)
    (z_tuple : PySem.W.nsIn K mainGlobals "tuple" = some none)
    (z_zip : PySem.W.nsIn K mainGlobals "zip" = some none)
    (z_gcd : PySem.W.nsIn K mainGlobals "gcd" = some (some (.builtin "math.gcd")))
    {t_MOST_ROUNDS : Tok} (z_MOST_ROUNDS : PySem.W.nsIn K mainGlobals "MOST_ROUNDS" = some (some (.int 40 t_MOST_ROUNDS)))
    {C_BoilError : Addr} (y_BoilError : PySem.W.nsIn K mainGlobals "BoilError" = some (some (.ref C_BoilError)))
    {C_NoSteady : Addr} (y_NoSteady : PySem.W.nsIn K mainGlobals "NoSteady" = some (some (.ref C_NoSteady)))
    {C_BadDeed : Addr} (y_BadDeed : PySem.W.nsIn K mainGlobals "BadDeed" = some (some (.ref C_BadDeed)))
    {C_BadFrac : Addr} (y_BadFrac : PySem.W.nsIn K mainGlobals "BadFrac" = some (some (.ref C_BadFrac)))
    {C_BadKettles : Addr} (y_BadKettles : PySem.W.nsIn K mainGlobals "BadKettles" = some (some (.ref C_BadKettles)))
    {C_BadMoulds : Addr} (y_BadMoulds : PySem.W.nsIn K mainGlobals "BadMoulds" = some (some (.ref C_BadMoulds)))
    {C_BadRow : Addr} (y_BadRow : PySem.W.nsIn K mainGlobals "BadRow" = some (some (.ref C_BadRow)))
    {C_Cured : Addr} (y_Cured : PySem.W.nsIn K mainGlobals "Cured" = some (some (.ref C_Cured)))
    {C_Empty : Addr} (y_Empty : PySem.W.nsIn K mainGlobals "Empty" = some (some (.ref C_Empty)))
    {C_InWork : Addr} (y_InWork : PySem.W.nsIn K mainGlobals "InWork" = some (some (.ref C_InWork)))
    {C_NoHour : Addr} (y_NoHour : PySem.W.nsIn K mainGlobals "NoHour" = some (some (.ref C_NoHour)))
    {C_NoKettle : Addr} (y_NoKettle : PySem.W.nsIn K mainGlobals "NoKettle" = some (some (.ref C_NoKettle)))
    {C_NoMould : Addr} (y_NoMould : PySem.W.nsIn K mainGlobals "NoMould" = some (some (.ref C_NoMould)))
    {C_NoRoom : Addr} (y_NoRoom : PySem.W.nsIn K mainGlobals "NoRoom" = some (some (.ref C_NoRoom)))
    {C_NoShare : Addr} (y_NoShare : PySem.W.nsIn K mainGlobals "NoShare" = some (some (.ref C_NoShare)))
    {C_NoTelling : Addr} (y_NoTelling : PySem.W.nsIn K mainGlobals "NoTelling" = some (some (.ref C_NoTelling)))
    {C_NotCured : Addr} (y_NotCured : PySem.W.nsIn K mainGlobals "NotCured" = some (some (.ref C_NotCured)))
    {C_NotReady : Addr} (y_NotReady : PySem.W.nsIn K mainGlobals "NotReady" = some (some (.ref C_NotReady)))
    {C_Same : Addr} (y_Same : PySem.W.nsIn K mainGlobals "Same" = some (some (.ref C_Same)))
    {C_Stopped : Addr} (y_Stopped : PySem.W.nsIn K mainGlobals "Stopped" = some (some (.ref C_Stopped)))
    {C_TooStrong : Addr} (y_TooStrong : PySem.W.nsIn K mainGlobals "TooStrong" = some (some (.ref C_TooStrong)))
    {nm_NoSteady q_NoSteady : Str} {N_NoSteady fI_NoSteady : Addr} {bs_NoSteady : List Value} {sn_NoSteady : List Str} {sub_NoSteady : List Value} {ab_NoSteady : Bool} {col_NoSteady : Option Bool} {dd_NoSteady odI_NoSteady anI_NoSteady : Option Addr} {t2_NoSteady : Tok} {m0_NoSteady m1_NoSteady m3_NoSteady m5_NoSteady : Option Value} {ocI_NoSteady kVI_NoSteady dcI_NoSteady pmI_NoSteady cdI_NoSteady ctI_NoSteady : Value} {slI_NoSteady : Array (Option Value)}
    (xL_NoSteady : K.lookup C_NoSteady = some (excClassObj nm_NoSteady q_NoSteady C_NoSteady N_NoSteady bs_NoSteady [.ref C_BoilError, .type "ValueError", .type "Exception", .type "BaseException", .type "object"] true sn_NoSteady sub_NoSteady ab_NoSteady col_NoSteady dd_NoSteady m0_NoSteady m1_NoSteady (some (.str "NoSteady" t2_NoSteady)) m3_NoSteady m5_NoSteady "ValueError.__new__"))
    (xsa_NoSteady : PySem.W.findIn K (.ref C_NoSteady) "__setattr__" = some (some (.builtin "object.__setattr__")))
    (xex_NoSteady : PySem.W.subIn K (.ref C_NoSteady) (.type "BaseException") = some true)
    (xty_NoSteady : PySem.W.typeIn K (.ref C_NoSteady) = some (.type "type"))
    (xk_NoSteady : PySem.W.keepIn K (.ref C_NoSteady) = true)
    (xi_NoSteady : PySem.W.findIn K (.ref C_NoSteady) "__init__" = some (some (.ref fI_NoSteady)))
    (xti_NoSteady : PySem.W.typeIn K (.ref fI_NoSteady) = some (.type "function"))
    (xl_NoSteady : K.lookup fI_NoSteady = some ⟨ocI_NoSteady, odI_NoSteady, .func (PySem.W.fnOf "__init__" "NoSteady.__init__" (defArgs s_init_NoSteady) (defBody s_init_NoSteady) (defScope s_init_NoSteady) .none kVI_NoSteady dcI_NoSteady pmI_NoSteady anI_NoSteady cdI_NoSteady ctI_NoSteady), slI_NoSteady⟩)
    (xc_NoSteady : PySem.W.codeIn K cdI_NoSteady "NoSteady.__init__" = true)
    (xki_NoSteady : PySem.W.keepIn K (.ref fI_NoSteady) = true)
    (ecl_NoSteady : PySem.W.isClsIn K C_NoSteady = true)
    (ega_NoSteady : PySem.W.findIn K (.ref C_NoSteady) "__getattribute__" = some (some (.builtin "BaseException.__getattribute__")))
    (egg_NoSteady : PySem.W.findIn K (.ref C_NoSteady) "__getattr__" = some none)
    (ecs_NoSteady : PySem.W.findIn K (.ref C_NoSteady) "__class__" = some (some (.builtin "object.__class__")))
    (ege_NoSteady : PySem.W.specialIn K (.builtin "object.__class__") "__get__" = some (some (.builtin "getset_descriptor.__get__")))
    (etk_NoSteady : PySem.W.takesIn K (.builtin "object.__class__") = some true)
    (eob_NoSteady : PySem.W.mroIn K C_NoSteady (.type "object") = some true)
    (edi_NoSteady : PySem.W.hasDictIn K C_NoSteady = true)
    (efw_NoSteady : PySem.W.findIn K (.ref C_NoSteady) "word" = some none)
    (ern_NoSteady : PySem.W.readsIn K C_NoSteady (.type "type") = true)
    (efc_NoSteady : PySem.W.findCls K (.ref C_NoSteady) (.type "type") "__name__" = some (.get (.builtin "getset_descriptor.__get__") (.builtin "type.__name__") (.ref C_NoSteady) (.type "type")))
    (efl_NoSteady : PySem.W.findIn K (.ref C_NoSteady) "what" = some none)
    (ic_BoilError : PySem.W.isClsIn K C_BoilError = true)
    (it_BoilError : PySem.W.typeIn K (.ref C_BoilError) = some (.type "type"))
    (ic_BadDeed : PySem.W.isClsIn K C_BadDeed = true)
    (it_BadDeed : PySem.W.typeIn K (.ref C_BadDeed) = some (.type "type"))
    (ic_BadFrac : PySem.W.isClsIn K C_BadFrac = true)
    (it_BadFrac : PySem.W.typeIn K (.ref C_BadFrac) = some (.type "type"))
    (ic_BadKettles : PySem.W.isClsIn K C_BadKettles = true)
    (it_BadKettles : PySem.W.typeIn K (.ref C_BadKettles) = some (.type "type"))
    (ic_BadMoulds : PySem.W.isClsIn K C_BadMoulds = true)
    (it_BadMoulds : PySem.W.typeIn K (.ref C_BadMoulds) = some (.type "type"))
    (ic_BadRow : PySem.W.isClsIn K C_BadRow = true)
    (it_BadRow : PySem.W.typeIn K (.ref C_BadRow) = some (.type "type"))
    (ic_Cured : PySem.W.isClsIn K C_Cured = true)
    (it_Cured : PySem.W.typeIn K (.ref C_Cured) = some (.type "type"))
    (ic_Empty : PySem.W.isClsIn K C_Empty = true)
    (it_Empty : PySem.W.typeIn K (.ref C_Empty) = some (.type "type"))
    (ic_InWork : PySem.W.isClsIn K C_InWork = true)
    (it_InWork : PySem.W.typeIn K (.ref C_InWork) = some (.type "type"))
    (ic_NoHour : PySem.W.isClsIn K C_NoHour = true)
    (it_NoHour : PySem.W.typeIn K (.ref C_NoHour) = some (.type "type"))
    (ic_NoKettle : PySem.W.isClsIn K C_NoKettle = true)
    (it_NoKettle : PySem.W.typeIn K (.ref C_NoKettle) = some (.type "type"))
    (ic_NoMould : PySem.W.isClsIn K C_NoMould = true)
    (it_NoMould : PySem.W.typeIn K (.ref C_NoMould) = some (.type "type"))
    (ic_NoRoom : PySem.W.isClsIn K C_NoRoom = true)
    (it_NoRoom : PySem.W.typeIn K (.ref C_NoRoom) = some (.type "type"))
    (ic_NoShare : PySem.W.isClsIn K C_NoShare = true)
    (it_NoShare : PySem.W.typeIn K (.ref C_NoShare) = some (.type "type"))
    (ic_NoTelling : PySem.W.isClsIn K C_NoTelling = true)
    (it_NoTelling : PySem.W.typeIn K (.ref C_NoTelling) = some (.type "type"))
    (ic_NotCured : PySem.W.isClsIn K C_NotCured = true)
    (it_NotCured : PySem.W.typeIn K (.ref C_NotCured) = some (.type "type"))
    (ic_NotReady : PySem.W.isClsIn K C_NotReady = true)
    (it_NotReady : PySem.W.typeIn K (.ref C_NotReady) = some (.type "type"))
    (ic_Same : PySem.W.isClsIn K C_Same = true)
    (it_Same : PySem.W.typeIn K (.ref C_Same) = some (.type "type"))
    (ic_Stopped : PySem.W.isClsIn K C_Stopped = true)
    (it_Stopped : PySem.W.typeIn K (.ref C_Stopped) = some (.type "type"))
    (ic_TooStrong : PySem.W.isClsIn K C_TooStrong = true)
    (it_TooStrong : PySem.W.typeIn K (.ref C_TooStrong) = some (.type "type"))
    (ibx : PySem.W.subIn K (.ref C_BoilError) (.type "BaseException") = some true)
    (su_NoSteady_BoilError : PySem.W.subIn K (.ref C_NoSteady) (.ref C_BoilError) = some true)
    (su_NoSteady_NoSteady : PySem.W.subIn K (.ref C_NoSteady) (.ref C_NoSteady) = some true)
    (su_NoSteady_BadDeed : PySem.W.subIn K (.ref C_NoSteady) (.ref C_BadDeed) = some false)
    (su_NoSteady_BadFrac : PySem.W.subIn K (.ref C_NoSteady) (.ref C_BadFrac) = some false)
    (su_NoSteady_BadKettles : PySem.W.subIn K (.ref C_NoSteady) (.ref C_BadKettles) = some false)
    (su_NoSteady_BadMoulds : PySem.W.subIn K (.ref C_NoSteady) (.ref C_BadMoulds) = some false)
    (su_NoSteady_BadRow : PySem.W.subIn K (.ref C_NoSteady) (.ref C_BadRow) = some false)
    (su_NoSteady_Cured : PySem.W.subIn K (.ref C_NoSteady) (.ref C_Cured) = some false)
    (su_NoSteady_Empty : PySem.W.subIn K (.ref C_NoSteady) (.ref C_Empty) = some false)
    (su_NoSteady_InWork : PySem.W.subIn K (.ref C_NoSteady) (.ref C_InWork) = some false)
    (su_NoSteady_NoHour : PySem.W.subIn K (.ref C_NoSteady) (.ref C_NoHour) = some false)
    (su_NoSteady_NoKettle : PySem.W.subIn K (.ref C_NoSteady) (.ref C_NoKettle) = some false)
    (su_NoSteady_NoMould : PySem.W.subIn K (.ref C_NoSteady) (.ref C_NoMould) = some false)
    (su_NoSteady_NoRoom : PySem.W.subIn K (.ref C_NoSteady) (.ref C_NoRoom) = some false)
    (su_NoSteady_NoShare : PySem.W.subIn K (.ref C_NoSteady) (.ref C_NoShare) = some false)
    (su_NoSteady_NoTelling : PySem.W.subIn K (.ref C_NoSteady) (.ref C_NoTelling) = some false)
    (su_NoSteady_NotCured : PySem.W.subIn K (.ref C_NoSteady) (.ref C_NotCured) = some false)
    (su_NoSteady_NotReady : PySem.W.subIn K (.ref C_NoSteady) (.ref C_NotReady) = some false)
    (su_NoSteady_Same : PySem.W.subIn K (.ref C_NoSteady) (.ref C_Same) = some false)
    (su_NoSteady_Stopped : PySem.W.subIn K (.ref C_NoSteady) (.ref C_Stopped) = some false)
    (su_NoSteady_TooStrong : PySem.W.subIn K (.ref C_NoSteady) (.ref C_TooStrong) = some false)
    (ive_NoSteady : PySem.W.subIn K (.ref C_NoSteady) (.type "ValueError") = some true)
    {a_NOUGHT : Addr} {od_NOUGHT : Option Addr} {n_NOUGHT : Nat} {sl_NOUGHT : Array (Option Value)} {t_NOUGHT_0 t_NOUGHT_1 : Tok} (z_NOUGHT : PySem.W.nsIn K mainGlobals "NOUGHT" = some (some (.ref a_NOUGHT))) (l_NOUGHT : K.lookup a_NOUGHT = some ⟨.type "tuple", od_NOUGHT, .seq #[.int 0 t_NOUGHT_0, .int 1 t_NOUGHT_1] n_NOUGHT, sl_NOUGHT⟩)
    {a_ONE : Addr} {od_ONE : Option Addr} {n_ONE : Nat} {sl_ONE : Array (Option Value)} {t_ONE_0 t_ONE_1 : Tok} (z_ONE : PySem.W.nsIn K mainGlobals "ONE" = some (some (.ref a_ONE))) (l_ONE : K.lookup a_ONE = some ⟨.type "tuple", od_ONE, .seq #[.int 1 t_ONE_0, .int 1 t_ONE_1] n_ONE, sl_ONE⟩)
    : ∃ fd : FuncData, (∀ (s : Shared) (v : Value), BindsTo s fd ⟨[v], []⟩ [("_law_script", v)]) ∧ ∀ base : Heap, K.In base → base.Ns mainGlobals mg → FnOk l.prog w K mg base CX0 10 fa fd ["_law_script"] (sp_p_law K) := by
  have e := hfa.symm.trans (PySem.W.mg_of X G a34)
  cases e
  have F0 := fun_mk (st := s_p_is_number) l0 c0 k0
  have F1 := fun_mk (st := s_p_is_frac) l1 c1 k1
  have F2 := fun_mk (st := s_p_frac_of) l2 c2 k2
  have F3 := fun_mk (st := s_p_sum_of) l3 c3 k3
  have F4 := fun_mk (st := s_p_sum_of_all) l4 c4 k4
  have F5 := fun_mk (st := s_p_difference) l5 c5 k5
  have F6 := fun_mk (st := s_p_product) l6 c6 k6
  have F7 := fun_mk (st := s_p_quotient) l7 c7 k7
  have F8 := fun_mk (st := s_p_is_lesser) l8 c8 k8
  have F9 := fun_mk (st := s_p_walked_once) l9 c9 k9
  have F10 := fun_mk (st := s_p_gap_between) l10 c10 k10
  have F11 := fun_mk (st := s_p__dripped_of) l11 c11 k11
  have F12 := fun_mk (st := s_p_steady_state) l12 c12 k12
  have F13 := fun_mk (st := s_p_rounds_till) l13 c13 k13
  have F14 := fun_mk (st := s_p__places_without_loss) l14 c14 k14
  have F15 := fun_mk (st := s_p__goes_in_all) l15 c15 k15
  have F16 := fun_mk (st := s_p__row_of) l16 c16 k16
  have F17 := fun_mk (st := s_p__freed_of_itself) l17 c17 k17
  have F18 := fun_mk (st := s_p__put_into) l18 c18 k18
  have F19 := fun_mk (st := s_l_cell_at) l19 c19 k19
  have F20 := fun_mk (st := s_l_box) l20 c20 k20
  have F21 := fun_mk (st := s_l_take) l21 c21 k21
  have F22 := fun_mk (st := s_l_low) l22 c22 k22
  have F23 := fun_mk (st := s_l_plus) l23 c23 k23
  have F24 := fun_mk (st := s_l_all) l24 c24 k24
  have F25 := fun_mk (st := s_l_goes) l25 c25 k25
  have F26 := fun_mk (st := s_l_kinds) l26 c26 k26
  have F27 := fun_mk (st := s_l_amounts) l27 c27 k27
  have F28 := fun_mk (st := s_l_strays) l28 c28 k28
  have F29 := fun_mk (st := s_l_lossless) l29 c29 k29
  have F30 := fun_mk (st := s_l_within) l30 c30 k30
  have F31 := fun_mk (st := s_l_closed) l31 c31 k31
  have F32 := fun_mk (st := s_l_refused) l32 c32 k32
  have F33 := fun_mk (st := s_l_right) l33 c33 k33
  have F34 := fun_mk (st := s_p_law) l34 c34 k34
  have FI_NoSteady := fun_mk (st := s_init_NoSteady) xl_NoSteady xc_NoSteady xki_NoSteady
  let T : All K mg := ⟨_, _, ⟨F0, PySem.W.mg_of X G a0, F0.binds (ps := ["thing"]) fun _ _ _ _ _ _ us hl => match us, hl with | [_], _ => rfl⟩, _, _, ⟨F1, PySem.W.mg_of X G a1, F1.binds (ps := ["thing"]) fun _ _ _ _ _ _ us hl => match us, hl with | [_], _ => rfl⟩, _, _, ⟨F2, PySem.W.mg_of X G a2, F2.binds (ps := ["top", "bottom"]) fun _ _ _ _ _ _ us hl => match us, hl with | [_, _], _ => rfl⟩, _, _, ⟨F3, PySem.W.mg_of X G a3, F3.binds (ps := ["one", "other"]) fun _ _ _ _ _ _ us hl => match us, hl with | [_, _], _ => rfl⟩, _, _, ⟨F4, PySem.W.mg_of X G a4, F4.binds (ps := ["ones"]) fun _ _ _ _ _ _ us hl => match us, hl with | [_], _ => rfl⟩, _, _, ⟨F5, PySem.W.mg_of X G a5, F5.binds (ps := ["one", "other"]) fun _ _ _ _ _ _ us hl => match us, hl with | [_, _], _ => rfl⟩, _, _, ⟨F6, PySem.W.mg_of X G a6, F6.binds (ps := ["one", "other"]) fun _ _ _ _ _ _ us hl => match us, hl with | [_, _], _ => rfl⟩, _, _, ⟨F7, PySem.W.mg_of X G a7, F7.binds (ps := ["one", "other"]) fun _ _ _ _ _ _ us hl => match us, hl with | [_, _], _ => rfl⟩, _, _, ⟨F8, PySem.W.mg_of X G a8, F8.binds (ps := ["one", "other"]) fun _ _ _ _ _ _ us hl => match us, hl with | [_, _], _ => rfl⟩, _, _, ⟨F9, PySem.W.mg_of X G a9, F9.binds (ps := ["kinds", "amounts"]) fun _ _ _ _ _ _ us hl => match us, hl with | [_, _], _ => rfl⟩, _, _, ⟨F10, PySem.W.mg_of X G a10, F10.binds (ps := ["one", "other"]) fun _ _ _ _ _ _ us hl => match us, hl with | [_, _], _ => rfl⟩, _, _, ⟨F11, PySem.W.mg_of X G a11, F11.binds (ps := ["kinds", "amounts"]) fun _ _ _ _ _ _ us hl => match us, hl with | [_, _], _ => rfl⟩, _, _, ⟨F12, PySem.W.mg_of X G a12, F12.binds (ps := ["kinds"]) fun _ _ _ _ _ _ us hl => match us, hl with | [_], _ => rfl⟩, _, _, ⟨F13, PySem.W.mg_of X G a13, F13.binds (ps := ["kinds", "amounts", "most"]) fun _ _ _ _ _ _ us hl => match us, hl with | [_, _, _], _ => rfl⟩, _, _, ⟨F14, PySem.W.mg_of X G a14, F14.binds (ps := ["kinds"]) fun _ _ _ _ _ _ us hl => match us, hl with | [_], _ => rfl⟩, _, _, ⟨F15, PySem.W.mg_of X G a15, F15.binds (ps := ["kind", "places"]) fun _ _ _ _ _ _ us hl => match us, hl with | [_, _], _ => rfl⟩, _, _, ⟨F16, PySem.W.mg_of X G a16, F16.binds (ps := ["kinds", "place"]) fun _ _ _ _ _ _ us hl => match us, hl with | [_, _], _ => rfl⟩, _, _, ⟨F17, PySem.W.mg_of X G a17, F17.binds (ps := ["row", "place"]) fun _ _ _ _ _ _ us hl => match us, hl with | [_, _], _ => rfl⟩, _, _, ⟨F18, PySem.W.mg_of X G a18, F18.binds (ps := ["row", "place", "freed"]) fun _ _ _ _ _ _ us hl => match us, hl with | [_, _, _], _ => rfl⟩, _, _, ⟨F19, PySem.W.mg_of X G a19, F19.binds (ps := ["_law_script", "_law_k"]) fun _ _ _ _ _ _ us hl => match us, hl with | [_, _], _ => rfl⟩, _, _, ⟨F20, PySem.W.mg_of X G a20, F20.binds (ps := ["_law_script", "_law_k"]) fun _ _ _ _ _ _ us hl => match us, hl with | [_, _], _ => rfl⟩, _, _, ⟨F21, PySem.W.mg_of X G a21, F21.binds (ps := ["_law_box_here", "_law_many"]) fun _ _ _ _ _ _ us hl => match us, hl with | [_, _], _ => rfl⟩, _, _, ⟨F22, PySem.W.mg_of X G a22, F22.binds (ps := ["_law_top", "_law_bottom"]) fun _ _ _ _ _ _ us hl => match us, hl with | [_, _], _ => rfl⟩, _, _, ⟨F23, PySem.W.mg_of X G a23, F23.binds (ps := ["_law_one", "_law_other"]) fun _ _ _ _ _ _ us hl => match us, hl with | [_, _], _ => rfl⟩, _, _, ⟨F24, PySem.W.mg_of X G a24, F24.binds (ps := ["_law_fracs"]) fun _ _ _ _ _ _ us hl => match us, hl with | [_], _ => rfl⟩, _, _, ⟨F25, PySem.W.mg_of X G a25, F25.binds (ps := ["_law_box_here", "_law_many"]) fun _ _ _ _ _ _ us hl => match us, hl with | [_, _], _ => rfl⟩, _, _, ⟨F26, PySem.W.mg_of X G a26, F26.binds (ps := ["_law_box_here", "_law_many"]) fun _ _ _ _ _ _ us hl => match us, hl with | [_, _], _ => rfl⟩, _, _, ⟨F27, PySem.W.mg_of X G a27, F27.binds (ps := ["_law_box_here", "_law_many", "_law_sorts"]) fun _ _ _ _ _ _ us hl => match us, hl with | [_, _, _], _ => rfl⟩, _, _, ⟨F28, PySem.W.mg_of X G a28, F28.binds (ps := ["_law_row", "_law_places"]) fun _ _ _ _ _ _ us hl => match us, hl with | [_, _], _ => rfl⟩, _, _, ⟨F29, PySem.W.mg_of X G a29, F29.binds (ps := ["_law_kinds_here"]) fun _ _ _ _ _ _ us hl => match us, hl with | [_], _ => rfl⟩, _, _, ⟨F30, PySem.W.mg_of X G a30, F30.binds (ps := ["_law_box_here", "_law_many", "_law_places"]) fun _ _ _ _ _ _ us hl => match us, hl with | [_, _, _], _ => rfl⟩, _, _, ⟨F31, PySem.W.mg_of X G a31, F31.binds (ps := ["_law_box_here"]) fun _ _ _ _ _ _ us hl => match us, hl with | [_], _ => rfl⟩, _, _, ⟨F32, PySem.W.mg_of X G a32, F32.binds (ps := ["_law_kinds_here", "_law_amounts_here", "_law_most"]) fun _ _ _ _ _ _ us hl => match us, hl with | [_, _, _], _ => rfl⟩, _, _, ⟨F33, PySem.W.mg_of X G a33, F33.binds (ps := ["_law_box_here"]) fun _ _ _ _ _ _ us hl => match us, hl with | [_], _ => rfl⟩, _, _, ⟨F34, PySem.W.mg_of X G a34, F34.binds (ps := ["_law_script"]) fun _ _ _ _ _ _ us hl => match us, hl with | [_], _ => rfl⟩, PySem.W.mg_none_of X G z_ValueError, PySem.W.mg_none_of X G z_abs, PySem.W.mg_none_of X G z_all, PySem.W.mg_none_of X G z_any, PySem.W.mg_none_of X G z_bool, PySem.W.mg_none_of X G z_enumerate, PySem.W.mg_none_of X G z_int, PySem.W.mg_none_of X G z_isinstance, PySem.W.mg_none_of X G z_len, PySem.W.mg_none_of X G z_list, PySem.W.mg_none_of X G z_min, PySem.W.mg_none_of X G z_range, PySem.W.mg_none_of X G z_tuple, PySem.W.mg_none_of X G z_zip, PySem.W.mg_of X G z_gcd, _, PySem.W.mg_of X G z_MOST_ROUNDS, _, PySem.W.mg_of X G y_BoilError, _, PySem.W.mg_of X G y_NoSteady, _, PySem.W.mg_of X G y_BadDeed, _, PySem.W.mg_of X G y_BadFrac, _, PySem.W.mg_of X G y_BadKettles, _, PySem.W.mg_of X G y_BadMoulds, _, PySem.W.mg_of X G y_BadRow, _, PySem.W.mg_of X G y_Cured, _, PySem.W.mg_of X G y_Empty, _, PySem.W.mg_of X G y_InWork, _, PySem.W.mg_of X G y_NoHour, _, PySem.W.mg_of X G y_NoKettle, _, PySem.W.mg_of X G y_NoMould, _, PySem.W.mg_of X G y_NoRoom, _, PySem.W.mg_of X G y_NoShare, _, PySem.W.mg_of X G y_NoTelling, _, PySem.W.mg_of X G y_NotCured, _, PySem.W.mg_of X G y_NotReady, _, PySem.W.mg_of X G y_Same, _, PySem.W.mg_of X G y_Stopped, _, PySem.W.mg_of X G y_TooStrong, ⟨⟨_, _, _, _, _, _, _, _, _, _, _, _, _, _, _, xL_NoSteady, rfl⟩, xsa_NoSteady, xex_NoSteady, xty_NoSteady, xk_NoSteady⟩, _, _, xi_NoSteady, xti_NoSteady, FI_NoSteady, FI_NoSteady.binds (ps := ["self", "what"]) fun _ _ _ _ _ _ us hl => match us, hl with | [_, _], _ => rfl, ⟨ecl_NoSteady, ega_NoSteady, egg_NoSteady, xex_NoSteady, ecs_NoSteady, ege_NoSteady, etk_NoSteady, eob_NoSteady, edi_NoSteady, efl_NoSteady⟩, ⟨⟨_, t2_NoSteady, xL_NoSteady, rfl, rfl⟩, ern_NoSteady, efw_NoSteady, efc_NoSteady⟩, exm_own ibx ic_BoilError it_BoilError su_NoSteady_BoilError, kitAny_cons (kit_own ic_BadDeed it_BadDeed su_NoSteady_BadDeed su_NoSteady_NoSteady) (fun _ => kitAny_cons (kit_own ic_BadFrac it_BadFrac su_NoSteady_BadFrac su_NoSteady_NoSteady) (fun _ => kitAny_cons (kit_own ic_BadKettles it_BadKettles su_NoSteady_BadKettles su_NoSteady_NoSteady) (fun _ => kitAny_cons (kit_own ic_BadMoulds it_BadMoulds su_NoSteady_BadMoulds su_NoSteady_NoSteady) (fun _ => kitAny_cons (kit_own ic_BadRow it_BadRow su_NoSteady_BadRow su_NoSteady_NoSteady) (fun _ => kitAny_cons (kit_own ic_Cured it_Cured su_NoSteady_Cured su_NoSteady_NoSteady) (fun _ => kitAny_cons (kit_own ic_Empty it_Empty su_NoSteady_Empty su_NoSteady_NoSteady) (fun _ => kitAny_cons (kit_own ic_InWork it_InWork su_NoSteady_InWork su_NoSteady_NoSteady) (fun _ => kitAny_cons (kit_own ic_NoHour it_NoHour su_NoSteady_NoHour su_NoSteady_NoSteady) (fun _ => kitAny_cons (kit_own ic_NoKettle it_NoKettle su_NoSteady_NoKettle su_NoSteady_NoSteady) (fun _ => rfl) (fun z => nomatch z)) (fun z => nomatch z)) (fun z => nomatch z)) (fun z => nomatch z)) (fun z => nomatch z)) (fun z => nomatch z)) (fun z => nomatch z)) (fun z => nomatch z)) (fun z => nomatch z)) (fun z => nomatch z), kitAny_cons (kit_own ic_NoMould it_NoMould su_NoSteady_NoMould su_NoSteady_NoSteady) (fun _ => kitAny_cons (kit_own ic_NoRoom it_NoRoom su_NoSteady_NoRoom su_NoSteady_NoSteady) (fun _ => kitAny_cons (kit_own ic_NoShare it_NoShare su_NoSteady_NoShare su_NoSteady_NoSteady) (fun _ => kitAny_cons (kit_own ic_NoTelling it_NoTelling su_NoSteady_NoTelling su_NoSteady_NoSteady) (fun _ => kitAny_cons (kit_own ic_NotCured it_NotCured su_NoSteady_NotCured su_NoSteady_NoSteady) (fun _ => kitAny_cons (kit_own ic_NotReady it_NotReady su_NoSteady_NotReady su_NoSteady_NoSteady) (fun _ => kitAny_cons (kit_own ic_Same it_Same su_NoSteady_Same su_NoSteady_NoSteady) (fun _ => kitAny_cons (kit_own ic_Stopped it_Stopped su_NoSteady_Stopped su_NoSteady_NoSteady) (fun _ => kitAny_cons (kit_own ic_TooStrong it_TooStrong su_NoSteady_TooStrong su_NoSteady_NoSteady) (fun _ => rfl) (fun z => nomatch z)) (fun z => nomatch z)) (fun z => nomatch z)) (fun z => nomatch z)) (fun z => nomatch z)) (fun z => nomatch z)) (fun z => nomatch z)) (fun z => nomatch z)) (fun z => nomatch z), kit_ve ive_NoSteady, kit_own ecl_NoSteady xty_NoSteady su_NoSteady_NoSteady su_NoSteady_NoSteady, _, PySem.W.mg_of X G z_NOUGHT, fun H => .inr ⟨_, _, _, l_NOUGHT, rfl, rfl, small (n := 2) (by decide), .cons ⟨_, rfl⟩ (.cons ⟨_, rfl⟩ (.nil))⟩, _, PySem.W.mg_of X G z_ONE, fun H => .inr ⟨_, _, _, l_ONE, rfl, rfl, small (n := 2) (by decide), .cons ⟨_, rfl⟩ (.cons ⟨_, rfl⟩ (.nil))⟩⟩
  exact ⟨T.fd_p_law, fun s v => .of_eq rfl, fun base _ _ => ok_p_law T⟩
end KR
open PySem PySem.W PyProof.Rows
set_option maxRecDepth 100000 in
set_option maxHeartbeats 0 in
theorem PySem.Challenge.cw_kettlerow_k56_kinds_that_lose_nothing_holds : PySem.Challenge.rw_kettlerow_k56_kinds_that_lose_nothing.Holds := by
  w_on; o_law; k_head; (case hw => w_witness2)
  k_fill
  refine L2.walk_of (l := PySem.Challenge.rw_kettlerow_k56_kinds_that_lose_nothing) (n := 63) (k := 10) (x := "_law_script") (CX := fun _ => L2.CX0) (sp := fun w => KR.sp_p_law _) rfl (by decide) rfl ⟨rfl, by decide, by decide⟩ (fun w h Y => PySem.W.kIn_of Y) ?F (fun _ _ a ns hl _ hS => ⟨a, ns, rfl, hS, hl, fun _ => rfl⟩) (fun _ _ _ _ _ h => h)
  case F =>
    intro w mg fa h KX G hmg
    refine' KR.all_mk KX G hmg ?a0 ?l0 ?c0 ?k0 ?a1 ?l1 ?c1 ?k1 ?a2 ?l2 ?c2 ?k2 ?a3 ?l3 ?c3 ?k3 ?a4 ?l4 ?c4 ?k4 ?a5 ?l5 ?c5 ?k5 ?a6 ?l6 ?c6 ?k6 ?a7 ?l7 ?c7 ?k7 ?a8 ?l8 ?c8 ?k8 ?a9 ?l9 ?c9 ?k9 ?a10 ?l10 ?c10 ?k10 ?a11 ?l11 ?c11 ?k11 ?a12 ?l12 ?c12 ?k12 ?a13 ?l13 ?c13 ?k13 ?a14 ?l14 ?c14 ?k14 ?a15 ?l15 ?c15 ?k15 ?a16 ?l16 ?c16 ?k16 ?a17 ?l17 ?c17 ?k17 ?a18 ?l18 ?c18 ?k18 ?a19 ?l19 ?c19 ?k19 ?a20 ?l20 ?c20 ?k20 ?a21 ?l21 ?c21 ?k21 ?a22 ?l22 ?c22 ?k22 ?a23 ?l23 ?c23 ?k23 ?a24 ?l24 ?c24 ?k24 ?a25 ?l25 ?c25 ?k25 ?a26 ?l26 ?c26 ?k26 ?a27 ?l27 ?c27 ?k27 ?a28 ?l28 ?c28 ?k28 ?a29 ?l29 ?c29 ?k29 ?a30 ?l30 ?c30 ?k30 ?a31 ?l31 ?c31 ?k31 ?a32 ?l32 ?c32 ?k32 ?a33 ?l33 ?c33 ?k33 ?a34 ?l34 ?c34 ?k34 ?z_ValueError ?z_abs ?z_all ?z_any ?z_bool ?z_enumerate ?z_int ?z_isinstance ?z_len ?z_list ?z_min ?z_range ?z_tuple ?z_zip ?z_gcd ?z_MOST_ROUNDS ?y_BoilError ?y_NoSteady ?y_BadDeed ?y_BadFrac ?y_BadKettles ?y_BadMoulds ?y_BadRow ?y_Cured ?y_Empty ?y_InWork ?y_NoHour ?y_NoKettle ?y_NoMould ?y_NoRoom ?y_NoShare ?y_NoTelling ?y_NotCured ?y_NotReady ?y_Same ?y_Stopped ?y_TooStrong ?xL_NoSteady ?xsa_NoSteady ?xex_NoSteady ?xty_NoSteady ?xk_NoSteady ?xi_NoSteady ?xti_NoSteady ?xl_NoSteady ?xc_NoSteady ?xki_NoSteady ?ecl_NoSteady ?ega_NoSteady ?egg_NoSteady ?ecs_NoSteady ?ege_NoSteady ?etk_NoSteady ?eob_NoSteady ?edi_NoSteady ?efw_NoSteady ?ern_NoSteady ?efc_NoSteady ?efl_NoSteady ?ic_BoilError ?it_BoilError ?ic_BadDeed ?it_BadDeed ?ic_BadFrac ?it_BadFrac ?ic_BadKettles ?it_BadKettles ?ic_BadMoulds ?it_BadMoulds ?ic_BadRow ?it_BadRow ?ic_Cured ?it_Cured ?ic_Empty ?it_Empty ?ic_InWork ?it_InWork ?ic_NoHour ?it_NoHour ?ic_NoKettle ?it_NoKettle ?ic_NoMould ?it_NoMould ?ic_NoRoom ?it_NoRoom ?ic_NoShare ?it_NoShare ?ic_NoTelling ?it_NoTelling ?ic_NotCured ?it_NotCured ?ic_NotReady ?it_NotReady ?ic_Same ?it_Same ?ic_Stopped ?it_Stopped ?ic_TooStrong ?it_TooStrong ?ibx ?su_NoSteady_BoilError ?su_NoSteady_NoSteady ?su_NoSteady_BadDeed ?su_NoSteady_BadFrac ?su_NoSteady_BadKettles ?su_NoSteady_BadMoulds ?su_NoSteady_BadRow ?su_NoSteady_Cured ?su_NoSteady_Empty ?su_NoSteady_InWork ?su_NoSteady_NoHour ?su_NoSteady_NoKettle ?su_NoSteady_NoMould ?su_NoSteady_NoRoom ?su_NoSteady_NoShare ?su_NoSteady_NoTelling ?su_NoSteady_NotCured ?su_NoSteady_NotReady ?su_NoSteady_Same ?su_NoSteady_Stopped ?su_NoSteady_TooStrong ?ive_NoSteady ?z_NOUGHT ?l_NOUGHT ?z_ONE ?l_ONE
    (case a0 => k_is)
    (case l0 => k_is)
    (case c0 => k_is)
    (case k0 => k_is)
    (case a1 => k_is)
    (case l1 => k_is)
    (case c1 => k_is)
    (case k1 => k_is)
    (case a2 => k_is)
    (case l2 => k_is)
    (case c2 => k_is)
    (case k2 => k_is)
    (case a3 => k_is)
    (case l3 => k_is)
    (case c3 => k_is)
    (case k3 => k_is)
    (case a4 => k_is)
    (case l4 => k_is)
    (case c4 => k_is)
    (case k4 => k_is)
    (case a5 => k_is)
    (case l5 => k_is)
    (case c5 => k_is)
    (case k5 => k_is)
    (case a6 => k_is)
    (case l6 => k_is)
    (case c6 => k_is)
    (case k6 => k_is)
    (case a7 => k_is)
    (case l7 => k_is)
    (case c7 => k_is)
    (case k7 => k_is)
    (case a8 => k_is)
    (case l8 => k_is)
    (case c8 => k_is)
    (case k8 => k_is)
    (case a9 => k_is)
    (case l9 => k_is)
    (case c9 => k_is)
    (case k9 => k_is)
    (case a10 => k_is)
    (case l10 => k_is)
    (case c10 => k_is)
    (case k10 => k_is)
    (case a11 => k_is)
    (case l11 => k_is)
    (case c11 => k_is)
    (case k11 => k_is)
    (case a12 => k_is)
    (case l12 => k_is)
    (case c12 => k_is)
    (case k12 => k_is)
    (case a13 => k_is)
    (case l13 => k_is)
    (case c13 => k_is)
    (case k13 => k_is)
    (case a14 => k_is)
    (case l14 => k_is)
    (case c14 => k_is)
    (case k14 => k_is)
    (case a15 => k_is)
    (case l15 => k_is)
    (case c15 => k_is)
    (case k15 => k_is)
    (case a16 => k_is)
    (case l16 => k_is)
    (case c16 => k_is)
    (case k16 => k_is)
    (case a17 => k_is)
    (case l17 => k_is)
    (case c17 => k_is)
    (case k17 => k_is)
    (case a18 => k_is)
    (case l18 => k_is)
    (case c18 => k_is)
    (case k18 => k_is)
    (case a19 => k_is)
    (case l19 => k_is)
    (case c19 => k_is)
    (case k19 => k_is)
    (case a20 => k_is)
    (case l20 => k_is)
    (case c20 => k_is)
    (case k20 => k_is)
    (case a21 => k_is)
    (case l21 => k_is)
    (case c21 => k_is)
    (case k21 => k_is)
    (case a22 => k_is)
    (case l22 => k_is)
    (case c22 => k_is)
    (case k22 => k_is)
    (case a23 => k_is)
    (case l23 => k_is)
    (case c23 => k_is)
    (case k23 => k_is)
    (case a24 => k_is)
    (case l24 => k_is)
    (case c24 => k_is)
    (case k24 => k_is)
    (case a25 => k_is)
    (case l25 => k_is)
    (case c25 => k_is)
    (case k25 => k_is)
    (case a26 => k_is)
    (case l26 => k_is)
    (case c26 => k_is)
    (case k26 => k_is)
    (case a27 => k_is)
    (case l27 => k_is)
    (case c27 => k_is)
    (case k27 => k_is)
    (case a28 => k_is)
    (case l28 => k_is)
    (case c28 => k_is)
    (case k28 => k_is)
    (case a29 => k_is)
    (case l29 => k_is)
    (case c29 => k_is)
    (case k29 => k_is)
    (case a30 => k_is)
    (case l30 => k_is)
    (case c30 => k_is)
    (case k30 => k_is)
    (case a31 => k_is)
    (case l31 => k_is)
    (case c31 => k_is)
    (case k31 => k_is)
    (case a32 => k_is)
    (case l32 => k_is)
    (case c32 => k_is)
    (case k32 => k_is)
    (case a33 => k_is)
    (case l33 => k_is)
    (case c33 => k_is)
    (case k33 => k_is)
    (case a34 => k_is)
    (case l34 => k_is)
    (case c34 => k_is)
    (case k34 => k_is)
    (case z_ValueError => k_is)
    (case z_abs => k_is)
    (case z_all => k_is)
    (case z_any => k_is)
    (case z_bool => k_is)
    (case z_enumerate => k_is)
    (case z_int => k_is)
    (case z_isinstance => k_is)
    (case z_len => k_is)
    (case z_list => k_is)
    (case z_min => k_is)
    (case z_range => k_is)
    (case z_tuple => k_is)
    (case z_zip => k_is)
    (case z_gcd => k_is)
    (case z_MOST_ROUNDS => k_is)
    (case y_BoilError => k_is)
    (case y_NoSteady => k_is)
    (case y_BadDeed => k_is)
    (case y_BadFrac => k_is)
    (case y_BadKettles => k_is)
    (case y_BadMoulds => k_is)
    (case y_BadRow => k_is)
    (case y_Cured => k_is)
    (case y_Empty => k_is)
    (case y_InWork => k_is)
    (case y_NoHour => k_is)
    (case y_NoKettle => k_is)
    (case y_NoMould => k_is)
    (case y_NoRoom => k_is)
    (case y_NoShare => k_is)
    (case y_NoTelling => k_is)
    (case y_NotCured => k_is)
    (case y_NotReady => k_is)
    (case y_Same => k_is)
    (case y_Stopped => k_is)
    (case y_TooStrong => k_is)
    (case xL_NoSteady => k_is)
    (case xsa_NoSteady => k_is)
    (case xex_NoSteady => k_is)
    (case xty_NoSteady => k_is)
    (case xk_NoSteady => k_is)
    (case xi_NoSteady => k_is)
    (case xti_NoSteady => k_is)
    (case xl_NoSteady => k_is)
    (case xc_NoSteady => k_is)
    (case xki_NoSteady => k_is)
    (case ecl_NoSteady => k_is)
    (case ega_NoSteady => k_is)
    (case egg_NoSteady => k_is)
    (case ecs_NoSteady => k_is)
    (case ege_NoSteady => k_is)
    (case etk_NoSteady => k_is)
    (case eob_NoSteady => k_is)
    (case edi_NoSteady => k_is)
    (case efw_NoSteady => k_is)
    (case ern_NoSteady => k_is)
    (case efc_NoSteady => k_is)
    (case efl_NoSteady => k_is)
    (case ic_BoilError => k_is)
    (case it_BoilError => k_is)
    (case ic_BadDeed => k_is)
    (case it_BadDeed => k_is)
    (case ic_BadFrac => k_is)
    (case it_BadFrac => k_is)
    (case ic_BadKettles => k_is)
    (case it_BadKettles => k_is)
    (case ic_BadMoulds => k_is)
    (case it_BadMoulds => k_is)
    (case ic_BadRow => k_is)
    (case it_BadRow => k_is)
    (case ic_Cured => k_is)
    (case it_Cured => k_is)
    (case ic_Empty => k_is)
    (case it_Empty => k_is)
    (case ic_InWork => k_is)
    (case it_InWork => k_is)
    (case ic_NoHour => k_is)
    (case it_NoHour => k_is)
    (case ic_NoKettle => k_is)
    (case it_NoKettle => k_is)
    (case ic_NoMould => k_is)
    (case it_NoMould => k_is)
    (case ic_NoRoom => k_is)
    (case it_NoRoom => k_is)
    (case ic_NoShare => k_is)
    (case it_NoShare => k_is)
    (case ic_NoTelling => k_is)
    (case it_NoTelling => k_is)
    (case ic_NotCured => k_is)
    (case it_NotCured => k_is)
    (case ic_NotReady => k_is)
    (case it_NotReady => k_is)
    (case ic_Same => k_is)
    (case it_Same => k_is)
    (case ic_Stopped => k_is)
    (case it_Stopped => k_is)
    (case ic_TooStrong => k_is)
    (case it_TooStrong => k_is)
    (case ibx => k_is)
    (case su_NoSteady_BoilError => k_is)
    (case su_NoSteady_NoSteady => k_is)
    (case su_NoSteady_BadDeed => k_is)
    (case su_NoSteady_BadFrac => k_is)
    (case su_NoSteady_BadKettles => k_is)
    (case su_NoSteady_BadMoulds => k_is)
    (case su_NoSteady_BadRow => k_is)
    (case su_NoSteady_Cured => k_is)
    (case su_NoSteady_Empty => k_is)
    (case su_NoSteady_InWork => k_is)
    (case su_NoSteady_NoHour => k_is)
    (case su_NoSteady_NoKettle => k_is)
    (case su_NoSteady_NoMould => k_is)
    (case su_NoSteady_NoRoom => k_is)
    (case su_NoSteady_NoShare => k_is)
    (case su_NoSteady_NoTelling => k_is)
    (case su_NoSteady_NotCured => k_is)
    (case su_NoSteady_NotReady => k_is)
    (case su_NoSteady_Same => k_is)
    (case su_NoSteady_Stopped => k_is)
    (case su_NoSteady_TooStrong => k_is)
    (case ive_NoSteady => k_is)
    (case z_NOUGHT => k_is)
    (case l_NOUGHT => k_is)
    (case z_ONE => k_is)
    (case l_ONE => k_is)
#print axioms PySem.Challenge.cw_kettlerow_k56_kinds_that_lose_nothing_holds
