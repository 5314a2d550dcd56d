import PyProof.Rows.All
import Wide.All
import OpenK.AllK
import Wide.FinOn
import HandS.ForMost
import HandS.Gcd
import HandS.Wide
import HandS.IsInst
import HandS.Zip
import HandS.More
import HandS.Style
import HandS.Rev
import HandS.MapJoin
import HandS.StrMore
import KE.GoesEnum
import KE.GoesMore
import KE.GoesZip
import HandS.Walk
import HandS.Flt
import HandS.Dict
import HandS.TupAny
import HandS.RevRange
import HandS.Conv
import HandS.Small
import KE.DataFind
import PySem.Challenge.RW_kettlerow_k63_no_plan_has_more
set_option Elab.async false
set_option linter.all false
set_option maxRecDepth 100000
set_option maxHeartbeats 4000000
/-! ### own rules and words, of no law -/
namespace KR
open PySem PySem.Spec PyProof.Rows L2

/-- * of any two ints whose product is told to fit -/
theorem op_mulX {X : Cx} : OpR X (binaryOp .Mult) (rI IntMulOk fun i j => .int (i * j)) := opI fun _ _ _ _ _ _ _ hc q => mul_int q hc
/-- // by any divisor but 0, to some three thousand figures -/
def DivOk (_ j : Int) : Prop := j ≠ 0 ∧ j.natAbs.log2 < 9000
theorem op_fdivX {X : Cx} : OpR X (binaryOp .FloorDiv) (rI DivOk fun i j => .int (i.fdiv j)) := opI fun _ _ _ _ _ _ _ hc q => floordiv_int hc.1 q (.inl (PyProof.noPylong_of_log2 hc.2))
theorem mulL {i j : Int} (h : i.natAbs < 2 ^ 64) : IntMulOk i j := CMul.ok (.inl ⟨by omega, by omega⟩)
theorem mulR {i j : Int} (h : j.natAbs < 2 ^ 64) : IntMulOk i j := CMul.ok (.inr ⟨by omega, by omega⟩)
theorem mulW {i j : Int} {a b : Nat} (ha : i.natAbs < 2 ^ a) (hb : j.natAbs < 2 ^ b) (h0 : 0 < a) (h1 : 0 < b) (h : a + b ≤ 1000000) : IntMulOk i j := (wide_mul ha hb h0 h1 h).ok
theorem divOk {i j : Int} {b : Nat} (h : j ≠ 0) (hb : j.natAbs < 2 ^ b) (h0 : 0 < b) (h9 : b ≤ 9000) : DivOk i j := ⟨h, Nat.lt_of_lt_of_le (PySem.Flt.log2_lt_of h0 hb) h9⟩
theorem add_lt {i j : Int} {a : Nat} (ha : i.natAbs < 2 ^ a) (hb : j.natAbs < 2 ^ a) : (i + j).natAbs < 2 ^ (a + 1) := by
  rw [Nat.pow_succ]
  omega
theorem sub_lt {i j : Int} {a : Nat} (ha : i.natAbs < 2 ^ a) (hb : j.natAbs < 2 ^ a) : (i - j).natAbs < 2 ^ (a + 1) := by
  rw [Nat.pow_succ]
  omega
theorem lt_up {i : Int} {a b : Nat} (ha : i.natAbs < 2 ^ a) (h : a ≤ b) : i.natAbs < 2 ^ b := Nat.lt_of_lt_of_le ha (Nat.pow_le_pow_right (by decide) h)
theorem b40 {n : Nat} (h : n < 10 ^ 40) : n < 2 ^ 200 := Nat.lt_trans h (by decide)
theorem b41 {n : Nat} (h : n ≤ 10 ^ 41) : n < 2 ^ 200 := Nat.lt_of_le_of_lt h (by decide)
theorem bit_lt {c : Prop} [Decidable c] : (if c then (1 : Int) else 0).natAbs < 2 ^ 64 := by split <;> decide
theorem bit_nn {c : Prop} [Decidable c] : (0 : Int) ≤ (if c then (1 : Int) else 0) := by split <;> decide
theorem bit_or {c : Prop} [Decidable c] : (if c then (1 : Int) else 0) = 0 ∨ (if c then (1 : Int) else 0) = 1 := by split <;> simp
theorem small {n : Nat} (h : n ≤ 100000) : n ≤ sizeLine := Nat.le_trans h (by decide)
theorem small' {n : Nat} (h : n < 100000) : n < sizeLine := Nat.lt_of_lt_of_le h (by decide)

/-! the heap but for one object that is written -/
/-- all that was tracked but p is as it was -/
def Fr (p : Addr) (H H' : Hp) : Prop := ∀ b o, b ≠ p → H b = some o → H' b = some o
theorem Fr.refl {p : Addr} {H : Hp} : Fr p H H := fun _ _ _ h => h
theorem Fr.trans {p : Addr} {H H1 H2 : Hp} (a : Fr p H H1) (b : Fr p H1 H2) : Fr p H H2 := fun c o n h => b c o n (a c o n h)
theorem Fr.of {p : Addr} {H H1 : Hp} (a : Same H H1) : Fr p H H1 := fun c o _ h => a c o h
theorem same_new {H : Hp} {p : Addr} {o : HO} (h : H p = none) : Same H (upd H p o) := fun b x e => by
  rw [upd_ne (ne_of_none e h)]
  exact e
theorem Fr.new {p q : Addr} {H H1 : Hp} {o : HO} (a : Fr p H H1) (h : H1 q = none) : Fr p H (upd H1 q o) := a.trans (.of (same_new h))
theorem Fr.put {p : Addr} {H H1 : Hp} {o : HO} (a : Fr p H H1) : Fr p H (upd H1 p o) := fun c x n h => by
  rw [upd_ne n]
  exact a c x n h
theorem Fr.put' {p q : Addr} {H H1 : Hp} {o : HO} (a : Fr p H H1) (h : H q = none) : Fr p H (upd H1 q o) := fun c x n e => by
  rw [upd_ne (ne_of_none e h)]
  exact a c x n e
/-- what is new there was new ahead of it, if the written one stands -/
theorem Fr.free {p q : Addr} {H H1 : Hp} {o : HO} (a : Fr p H H1) (hp : H1 p = some o) (h : H1 q = none) : H q = none := by
  cases e : H q with
  | none => rfl
  | some u =>
    have n : q ≠ p := fun z => by
      rw [z, hp] at h
      cases h
    rw [a q u n e] at h
    cases h

/-! a reading may be asked for more than is wanted; displays whose new heap is a letter -/
def clA (t : TA) : TA := fun σ H Q => ∃ Q0 : List V → Hp → Prop, (∀ xs H1, Q0 xs H1 → Q xs H1) ∧ t σ H Q0
theorem pa_cl {X : Cx} {es : List Expr} {t : TA} (h : PA X es t) : PA X es (clA t) := ⟨fun pos pins s σ H Q I ⟨Q0, m, q⟩ =>
  thn (h.run pos pins s σ H Q0 I q) fun us s1 ⟨xs, H1, I1, r, z⟩ => ⟨xs, H1, I1, r, m _ _ z⟩⟩
def tTupI (t : TA) : TE := fun σ H Q => t σ H fun xs H1 => Nat.ble xs.length 100000 = true ∧ ∀ p H', Same H1 H' → H1 p = none → H' p = some (.tup xs) → Q (.ref p) H'
def tLstI (t : TA) : TE := fun σ H Q => t σ H fun xs H1 => Nat.ble xs.length 100000 = true ∧ ∀ p H', Same H1 H' → H1 p = none → H' p = some (.lst xs) → Q (.ref p) H'
theorem pe_tupI {X : Cx} {es : List Expr} {k : Nat} {pos : Pos} {t : TA} (h : PA X es t) : PE X (.Tuple es k pos) (tTupI t) := ⟨fun pins s σ H Q I q =>
  (pe_tup (pa_cl h)).run pins s σ H Q I ⟨_, fun _ _ ⟨z, w⟩ => ⟨small (Nat.le_of_ble_eq_true z), fun p hp => w p _ (same_new hp) hp upd_same⟩, q⟩⟩
theorem pe_lstI {X : Cx} {es : List Expr} {pos : Pos} {t : TA} (h : PA X es t) : PE X (.List es pos) (tLstI t) := ⟨fun pins s σ H Q I q =>
  (pe_lst (pa_cl h)).run pins s σ H Q I ⟨_, fun _ _ ⟨z, w⟩ => ⟨small (Nat.le_of_ble_eq_true z), fun p hp => w p _ (same_new hp) hp upd_same⟩, q⟩⟩
/-- ways that join behind a statement: R is what they come to -/
def tJ (t : TS) : TS := fun D σ H => ∃ R : L2.St → Hp → Prop, (∀ σ' H', R σ' H' → D.nx σ' H') ∧ t { D with nx := R } σ H
theorem ps_J {X : Cx} {st : Stmt} {t : TS} (h : PS X st t) : PS X st (tJ t) := ⟨fun pins s σ H D I ⟨R, m, q⟩ => thn (h.run pins s σ H { D with nx := R } I q) fun f s1 z =>
  match f, z with
  | .next, ⟨σ', H', J, r⟩ => ⟨σ', H', J, m _ _ r⟩
  | .ret _, z => z
  | .brk, z => z
  | .cont, z => z⟩
theorem ite_bT {b : Bool} {A B : Prop} (h : b = true) (q : A) : if b = true then A else B := by
  rw [if_pos h]
  exact q
theorem ite_bF {b : Bool} {A B : Prop} (h : b = false) (q : B) : if b = true then A else B := by
  rw [if_neg (by rw [h]; exact Bool.false_ne_true)]
  exact q
theorem ite_iT {i j : Int} {A B : Prop} (h : i = j) (q : A) : if decide (V.int i = V.int j) = true then A else B := by
  rw [if_pos (decide_eq_true (congrArg V.int h))]
  exact q
theorem ite_iF {i j : Int} {A B : Prop} (h : i ≠ j) (q : B) : if decide (V.int i = V.int j) = true then A else B := by
  rw [if_neg (by rw [decide_eq_false fun z => h (V.int.inj z)]; exact Bool.false_ne_true)]
  exact q
theorem ite_nT {i j : Int} {A B : Prop} (h : i ≠ j) (q : A) : if (!decide (V.int i = V.int j)) = true then A else B := by
  rw [if_pos (by rw [decide_eq_false fun z => h (V.int.inj z)] <;> rfl)]
  exact q
theorem ite_nF {i j : Int} {A B : Prop} (h : i = j) (q : B) : if (!decide (V.int i = V.int j)) = true then A else B := by
  rw [if_neg (by rw [decide_eq_true (congrArg V.int h)]; exact Bool.false_ne_true)]
  exact q
/-- the law's box of draws: n is more than have been mixed -/
def BoxAt (H : Hp) (p : Addr) (n : Nat) : Prop := ∃ a b c : Int, H p = some (.lst [.int a, .int b, .int c]) ∧ 0 ≤ a ∧ 0 ≤ b ∧ b < 2 ^ 62 ∧ 0 ≤ c ∧ c ≤ (n : Int)
theorem BoxAt.mono {H : Hp} {p : Addr} {n m : Nat} (h : BoxAt H p n) (le : n ≤ m) : BoxAt H p m := by
  obtain ⟨a, b, c, h1, h2, h3, h4, h5, h6⟩ := h
  exact ⟨a, b, c, h1, h2, h3, h4, h5, by omega⟩
theorem BoxAt.same {H H' : Hp} {p : Addr} {n : Nat} (h : BoxAt H p n) (s : Same H H') : BoxAt H' p n := by
  obtain ⟨a, b, c, h1, h2⟩ := h
  exact ⟨a, b, c, s _ _ h1, h2⟩
theorem BoxAt.ne {H : Hp} {p q : Addr} {n : Nat} {xs : List V} (h : BoxAt H p n) (t : H q = some (.tup xs)) : q ≠ p := by
  obtain ⟨a, b, c, h1, _⟩ := h
  exact ne_of t h1 (by intro z; cases z)
theorem BoxAt.some {H : Hp} {p : Addr} {n : Nat} (h : BoxAt H p n) : ∃ o, H p = some o := by
  obtain ⟨a, b, c, h1, _⟩ := h
  exact ⟨_, h1⟩
/-- a tuple stays -/
theorem Fr.tup {p q : Addr} {H H1 : Hp} {n : Nat} {xs : List V} (a : Fr p H H1) (hb : BoxAt H p n) (t : H q = some (.tup xs)) : H1 q = some (.tup xs) := a q _ (hb.ne t) t
/-- a pair of ints -/
def PrAt (H : Hp) (q : Addr) (t b : Int) : Prop := H q = some (.tup [.int t, .int b])
theorem at0 {x : V} {xs : List V} : atI (x :: xs) 0 = some x := atI_nat (j := 0) rfl
theorem at1 {x y : V} {xs : List V} : atI (x :: y :: xs) 1 = some y := atI_nat (j := 1) rfl
theorem at2 {x y z : V} {xs : List V} : atI (x :: y :: z :: xs) 2 = some z := atI_nat (j := 2) rfl

/-! fractions -/
/-- the law's own lowest terms -/
def low (t b : Int) : Int × Int := (t / (Nat.gcd t.natAbs b.natAbs : Nat) * (if b < 0 then -1 else 1), (b.natAbs : Int) / (Nat.gcd t.natAbs b.natAbs : Nat))
structure IsLow (t b : Int) : Prop where
  pos : 0 < b
  cop : Nat.gcd t.natAbs b.natAbs = 1
theorem dvd_mul {a b : Int} (h : a ∣ b) : a * (b / a) = b := Int.mul_ediv_cancel' h
theorem low_facts (t b : Int) (hb : b ≠ 0) : IsLow (low t b).1 (low t b).2 ∧ t * (low t b).2 = (low t b).1 * b := by
  have hg : 0 < Nat.gcd t.natAbs b.natAbs := Nat.gcd_pos_of_pos_right _ (by omega)
  generalize e : Nat.gcd t.natAbs b.natAbs = g at hg
  have d1 : g ∣ t.natAbs := e ▸ Nat.gcd_dvd_left _ _
  have d2 : g ∣ b.natAbs := e ▸ Nat.gcd_dvd_right _ _
  obtain ⟨x, hx⟩ := d1
  obtain ⟨y, hy⟩ := d2
  have hc : Nat.gcd x y = 1 := by
    rw [hx, hy, Nat.gcd_mul_left] at e
    exact Nat.eq_of_mul_eq_mul_left hg (by rw [e, Nat.mul_one])
  have hy0 : 0 < y := by
    rcases Nat.eq_zero_or_pos y with z | z
    · rw [z, Nat.mul_zero] at hy
      omega
    · exact z
  have h2 : (low t b).2 = (y : Int) := by
    show (b.natAbs : Int) / (Nat.gcd t.natAbs b.natAbs : Nat) = (y : Int)
    rw [e, hy, Int.natCast_mul]
    exact Int.mul_ediv_cancel_left _ (by omega)
  have ht : t = (g : Int) * x ∨ t = -((g : Int) * x) := by
    have q : (t.natAbs : Int) = (g : Int) * x := by rw [hx, Int.natCast_mul]
    omega
  have hbb : (b.natAbs : Int) = (g : Int) * y := by rw [hy, Int.natCast_mul]
  have h1 : (low t b).1 = (t / (g : Int)) * (if b < 0 then -1 else 1) := by
    show t / (Nat.gcd t.natAbs b.natAbs : Nat) * (if b < 0 then -1 else 1) = _
    rw [e]
  have h3 : t / (g : Int) = x ∨ t / (g : Int) = -(x : Int) := by
    rcases ht with q | q
    · left
      rw [q]
      exact Int.mul_ediv_cancel_left _ (by omega)
    · right
      rw [q, ← Int.mul_neg]
      exact Int.mul_ediv_cancel_left _ (by omega)
  have h4 : (g : Int) * (t / (g : Int)) = t := dvd_mul (by
    rcases ht with q | q
    · exact ⟨x, q⟩
    · exact ⟨-x, by rw [q, Int.mul_neg]⟩)
  refine ⟨⟨by rw [h2]; omega, ?_⟩, ?_⟩
  · rw [h2, h1]
    have q : ((t / (g : Int)) * (if b < 0 then -1 else 1)).natAbs = x := by
      split <;> rcases h3 with z | z <;> rw [z] <;> omega
    rw [q]
    exact hc
  · rw [h2, h1]
    by_cases c : b < 0
    · rw [if_pos c]
      have q : b = -((g : Int) * y) := by omega
      grind
    · rw [if_neg c]
      have q : b = (g : Int) * y := by omega
      grind
theorem low_pos (t b : Int) (hb : b ≠ 0) : 0 < (low t b).2 := (low_facts t b hb).1.pos
/-- two fractions in lowest terms that are alike across are one -/
theorem isLow_uniq {x y u v : Int} (h : IsLow x y) (k : IsLow u v) (e : x * v = u * y) : x = u ∧ y = v := by
  have h1 := h.pos
  have k1 := k.pos
  have e1 : x.natAbs * v.natAbs = u.natAbs * y.natAbs := by rw [← Int.natAbs_mul, ← Int.natAbs_mul, e]
  have d1 : y.natAbs ∣ v.natAbs := (Nat.Coprime.symm h.cop).dvd_of_dvd_mul_left (by rw [e1]; exact Nat.dvd_mul_left _ _)
  have d2 : v.natAbs ∣ y.natAbs := (Nat.Coprime.symm k.cop).dvd_of_dvd_mul_left (by rw [← e1]; exact Nat.dvd_mul_left _ _)
  have e2 : y.natAbs = v.natAbs := Nat.dvd_antisymm d1 d2
  have e3 : y = v := by omega
  subst e3
  exact ⟨Int.eq_of_mul_eq_mul_right (by omega) e, rfl⟩
theorem low_eq {t b x y : Int} (hb : b ≠ 0) (h : IsLow x y) (e : t * y = x * b) : low t b = (x, y) := by
  obtain ⟨h1, h2⟩ := low_facts t b hb
  have q : (low t b).1 * y = x * (low t b).2 := by
    have z : b * ((low t b).1 * y) = b * (x * (low t b).2) := by grind
    exact Int.eq_of_mul_eq_mul_left hb z
  obtain ⟨a1, a2⟩ := isLow_uniq h1 h q
  exact Prod.ext a1 a2
theorem low_id {t b : Int} (h : IsLow t b) : low t b = (t, b) := low_eq (by have := h.pos; omega) h rfl
theorem low_le (t b : Int) : (low t b).1.natAbs ≤ t.natAbs ∧ (low t b).2.natAbs ≤ b.natAbs := by
  generalize e : Nat.gcd t.natAbs b.natAbs = g
  have h1 : (low t b).1 = (t / (g : Int)) * (if b < 0 then -1 else 1) := by
    show t / (Nat.gcd t.natAbs b.natAbs : Nat) * (if b < 0 then -1 else 1) = _
    rw [e]
  have h2 : (low t b).2 = (b.natAbs : Int) / (g : Int) := by
    show (b.natAbs : Int) / (Nat.gcd t.natAbs b.natAbs : Nat) = _
    rw [e]
  have d1 : (g : Int) ∣ t := e ▸ Int.ofNat_dvd_left.mpr (Nat.gcd_dvd_left _ _)
  constructor
  · rw [h1]
    have q : (t / (g : Int) * (if b < 0 then -1 else 1)).natAbs = (t / (g : Int)).natAbs := by
      split <;> omega
    rw [q]
    obtain ⟨z, rfl⟩ := d1
    by_cases c : (g : Int) = 0
    · rw [c, Int.zero_mul, Int.zero_ediv]
      omega
    · rw [Int.mul_ediv_cancel_left _ c, Int.natAbs_mul]
      exact Nat.le_mul_of_pos_left _ (by omega)
  · rw [h2, ← Int.natCast_ediv, Int.natAbs_natCast]
    exact Nat.div_le_self _ _
theorem low_lt {t b : Int} {n : Nat} (h1 : t.natAbs < 2 ^ n) (h2 : b.natAbs < 2 ^ n) : (low t b).1.natAbs < 2 ^ n ∧ (low t b).2.natAbs < 2 ^ n :=
  ⟨Nat.lt_of_le_of_lt (low_le t b).1 h1, Nat.lt_of_le_of_lt (low_le t b).2 h2⟩
/-- a fraction in lowest terms, of fewer than sixty figures -/
structure FrAt (H : Hp) (x : Addr) (a b : Int) : Prop where
  at_ : H x = some (.tup [.int a, .int b])
  low : IsLow a b
  ta : a.natAbs < 2 ^ 200
  tb : b.natAbs < 2 ^ 200
theorem FrAt.same {H H' : Hp} {x : Addr} {a b : Int} (h : FrAt H x a b) (s : Same H H') : FrAt H' x a b := ⟨s _ _ h.at_, h.low, h.ta, h.tb⟩
theorem FrAt.fr {H H' : Hp} {x p : Addr} {a b : Int} {n : Nat} (h : FrAt H x a b) (B : BoxAt H p n) (f : Fr p H H') : FrAt H' x a b := ⟨f.tup B h.at_, h.low, h.ta, h.tb⟩
/-- a new pair of two numbers' lowest terms -/
def sp_low : Sp := fun vs H Q _ => ∃ t b : Int, vs = [.int t, .int b] ∧ b ≠ 0 ∧ t.natAbs < 2 ^ 2000 ∧ b.natAbs < 2 ^ 2000 ∧ ∀ p H', Same H H' → H p = none → H' p = some (.tup [.int (low t b).1, .int (low t b).2]) → Q (.ref p) H'
/-- two pairs in, low of what f and g say of them out -/
def sp_two (K : PySem.W.Frag) (f g : Int → Int → Int → Int → Int) : Sp := fun vs H Q _ => ∃ (x y : Addr) (a b c d : Int), vs = [.ref x, .ref y] ∧ SqT K H x [.int a, .int b] ∧ SqT K H y [.int c, .int d] ∧ g a b c d ≠ 0 ∧ a.natAbs < 2 ^ 900 ∧ b.natAbs < 2 ^ 900 ∧ c.natAbs < 2 ^ 900 ∧ d.natAbs < 2 ^ 900 ∧
  ∀ p H', Same H H' → H p = none → H' p = some (.tup [.int (low (f a b c d) (g a b c d)).1, .int (low (f a b c d) (g a b c d)).2]) → Q (.ref p) H'
/-- by a divisor turned about -/
theorem fdiv_neg {t g : Int} (h : g ∣ t) : t.fdiv (-g) = t / g * -1 := by
  obtain ⟨z, rfl⟩ := h
  by_cases c : g = 0
  · subst c
    simp
  · rw [Int.mul_ediv_cancel_left _ c, show g * z = (-g) * (-z) by grind, Int.mul_fdiv_cancel_left _ (by omega)]
    omega

/-! data of the law's own making, n deep -/
theorem Same.put {H0 H : Hp} {D : Addr} {o : HO} (s : Same H0 H) (h : H0 D = none) : Same H0 (upd H D o) := fun b u e => by
  rw [upd_ne (ne_of_none e h)]
  exact s b u e
inductive Dt (H : Hp) : Nat → V → PyData → Prop
  | non (n : Nat) : Dt H (n + 1) .non .none
  | bl (n : Nat) (b : Bool) : Dt H (n + 1) (.bl b) (.bool b)
  | int (n : Nat) (i : Int) : Dt H (n + 1) (.int i) (.int i)
  | str (n : Nat) (x : Str) (ok : PyData.canLay0 (.str x) = true) : Dt H (n + 1) (.str x) (.str x)
  | lst {n : Nat} {a : Addr} {xs : List V} {ds : List PyData} : H a = some (.lst xs) → xs.length = ds.length → xs.length ≤ 100000 → (∀ (i : Nat) (x : V) (d : PyData), xs[i]? = some x → ds[i]? = some d → Dt H n x d) → Dt H (n + 1) (.ref a) (.list ds)
  | tup {n : Nat} {a : Addr} {xs : List V} {ds : List PyData} : H a = some (.tup xs) → xs.length = ds.length → xs.length ≤ 100000 → (∀ (i : Nat) (x : V) (d : PyData), xs[i]? = some x → ds[i]? = some d → Dt H n x d) → Dt H (n + 1) (.ref a) (.tuple ds)
theorem Dt.same {H H' : Hp} (s : Same H H') : ∀ {n : Nat} {v : V} {d : PyData}, Dt H n v d → Dt H' n v d := by
  intro n v d h
  induction h with
  | non n => exact .non n
  | bl n b => exact .bl n b
  | int n i => exact .int n i
  | str n x ok => exact .str n x ok
  | lst h1 h2 h3 _ ih => exact .lst (s _ _ h1) h2 h3 ih
  | tup h1 h2 h3 _ ih => exact .tup (s _ _ h1) h2 h3 ih
theorem Dt.up {H : Hp} {n m : Nat} {v : V} {d : PyData} (h : Dt H n v d) : n ≤ m → Dt H m v d := by
  intro le
  induction h generalizing m with
  | non n => obtain ⟨k, rfl⟩ : ∃ k, m = k + 1 := ⟨m - 1, by omega⟩; exact .non k
  | bl n b => obtain ⟨k, rfl⟩ : ∃ k, m = k + 1 := ⟨m - 1, by omega⟩; exact .bl k b
  | int n i => obtain ⟨k, rfl⟩ : ∃ k, m = k + 1 := ⟨m - 1, by omega⟩; exact .int k i
  | str n x ok => obtain ⟨k, rfl⟩ : ∃ k, m = k + 1 := ⟨m - 1, by omega⟩; exact .str k x ok
  | lst h1 h2 h3 _ ih => obtain ⟨k, rfl⟩ : ∃ k, m = k + 1 := ⟨m - 1, by omega⟩; exact .lst h1 h2 h3 fun i x d a b => ih i x d a b (by omega)
  | tup h1 h2 h3 _ ih => obtain ⟨k, rfl⟩ : ∃ k, m = k + 1 := ⟨m - 1, by omega⟩; exact .tup h1 h2 h3 fun i x d a b => ih i x d a b (by omega)
theorem Dt.tup2 {H : Hp} {n : Nat} {a : Addr} {x y : V} {d e : PyData} (h : H a = some (.tup [x, y])) (h1 : Dt H n x d) (h2 : Dt H n y e) : Dt H (n + 1) (.ref a) (.tuple [d, e]) :=
  .tup h rfl (by show 2 ≤ 100000; decide) fun i u v hu hv => match i, hu, hv with
    | 0, hu, hv => by cases hu; cases hv; exact h1
    | 1, hu, hv => by cases hu; cases hv; exact h2
    | i + 2, hu, _ => by simp at hu
theorem Dt.pair {H : Hp} {a : Addr} {t b : Int} (h : H a = some (.tup [.int t, .int b])) : Dt H 2 (.ref a) (.tuple [.int t, .int b]) := .tup2 h (.int 0 t) (.int 0 b)
theorem Dt.lst2 {H : Hp} {n : Nat} {a : Addr} {x y : V} {d e : PyData} (h : H a = some (.lst [x, y])) (h1 : Dt H n x d) (h2 : Dt H n y e) : Dt H (n + 1) (.ref a) (.list [d, e]) :=
  .lst h rfl (by show 2 ≤ 100000; decide) fun i u v hu hv => match i, hu, hv with
    | 0, hu, hv => by cases hu; cases hv; exact h1
    | 1, hu, hv => by cases hu; cases hv; exact h2
    | i + 2, hu, _ => by simp at hu
theorem Dt.lst3 {H : Hp} {n : Nat} {a : Addr} {x y z : V} {d e f : PyData} (h : H a = some (.lst [x, y, z])) (h1 : Dt H n x d) (h2 : Dt H n y e) (h3 : Dt H n z f) : Dt H (n + 1) (.ref a) (.list [d, e, f]) :=
  .lst h rfl (by show 3 ≤ 100000; decide) fun i u v hu hv => match i, hu, hv with
    | 0, hu, hv => by cases hu; cases hv; exact h1
    | 1, hu, hv => by cases hu; cases hv; exact h2
    | 2, hu, hv => by cases hu; cases hv; exact h3
    | i + 3, hu, _ => by simp at hu
/-- a comprehension over pairs: J hands out a new tuple of px i and py i at each of n turns, while St stands -/
theorem lc_pair {J : It} {n : Nat} {St : Hp → Prop} {px py : Nat → V} (hgo : ∀ i H, i < n → St H → J.go i H) (hst : ∀ H, St H → J.stop n H)
    (hy : ∀ i H v H', i < n → St H → J.yld i H v H' → ∃ T, v = .ref T ∧ H T = none ∧ H' = upd H T (.tup [px i, py i]))
    {g : TG} {tt : TT} {te : TE} {vs : List Nat} {σ : L2.St} {H1 : Hp} {D : Addr} {Qd : Hp → Prop} (Pv : Nat → Hp → Prop) (h0 : Pv 0 (upd H1 D (.lst []))) (hq : ∀ i H, i ≤ n → Pv i H → St H)
    (hs : ∀ i T H, i < n → Pv i H → H T = none → g (.ref T) (wipe σ vs) (upd H T (.tup [px i, py i])) fun σ2 H2 => wipe σ2 vs = wipe σ vs ∧ tt σ2 H2 fun b H3 =>
      if b = true then te σ2 H3 fun y H4 => ∃ acc, H4 D = some (.lst acc) ∧ acc.length < sizeLine ∧ Pv (i + 1) (upd H4 D (.lst (acc ++ [y]))) else Pv (i + 1) H3) (hd : ∀ H, Pv n H → Qd H) :
    ∃ W : Nat → Nat → Hp → Prop, (∃ m, W 0 m (upd H1 D (.lst []))) ∧ ∀ i m H, W i m H →
      (J.stop i H ∧ Qd H) ∨ (J.go i H ∧ ∃ Nx : Hp → Prop, (∀ H', Nx H' → ∃ m', m' < m ∧ W (i + 1) m' H') ∧ ∀ x H', J.yld i H x H' → g x (wipe σ vs) H' fun σ2 H2 => wipe σ2 vs = wipe σ vs ∧ tt σ2 H2 fun b H3 =>
        if b = true then te σ2 H3 fun y H4 => ∃ acc, H4 D = some (.lst acc) ∧ acc.length < sizeLine ∧ Nx (upd H4 D (.lst (acc ++ [y]))) else Nx H3) := by
  refine ⟨fun i m H => i + m = n ∧ Pv i H, ⟨n, by omega, h0⟩, fun i m H w => ?_⟩
  obtain ⟨e, p⟩ := w
  have q := hq i H (by omega) p
  rcases Nat.lt_or_ge i n with lt | ge
  · refine Or.inr ⟨hgo i H lt q, Pv (i + 1), fun H' p' => ⟨m - 1, by omega, by omega, p'⟩, fun x H' y => ?_⟩
    obtain ⟨T, rfl, nT, rfl⟩ := hy i H x H' lt q y
    exact hs i T H lt p nT
  · obtain rfl : i = n := by omega
    exact Or.inl ⟨hst H q, hd H p⟩
theorem zipL_go {K : PySem.W.Frag} {a b : Addr} {xs ys : List V} {n : Nat} (h1 : xs.length = n) (h2 : ys.length = n) {i : Nat} {H : Hp} (lt : i < n) (q : SqL K H a xs ∧ SqL K H b ys) : (Itz K a b).go i H :=
  ⟨xs, ys, _, _, q.1, q.2, List.getElem?_eq_getElem (by omega), List.getElem?_eq_getElem (by omega)⟩
theorem zipL_stop {K : PySem.W.Frag} {a b : Addr} {xs ys : List V} {n : Nat} (h1 : xs.length = n) {H : Hp} (q : SqL K H a xs ∧ SqL K H b ys) : (Itz K a b).stop n H := ⟨xs, ys, q.1, q.2, .inl (by omega)⟩
theorem zipL_yld {K : PySem.W.Frag} {a b : Addr} {xs ys : List V} {n : Nat} (h1 : xs.length = n) (h2 : ys.length = n) {i : Nat} {H H' : Hp} {v : V} (lt : i < n) (q : SqL K H a xs ∧ SqL K H b ys) (y : (Itz K a b).yld i H v H') :
    ∃ T, v = .ref T ∧ H T = none ∧ H' = upd H T (.tup [xs.getD i .non, ys.getD i .non]) := by
  obtain ⟨T, x, y, rfl, nT, rfl, f1, f2⟩ := y
  refine ⟨T, rfl, nT, ?_⟩
  rw [List.getD_eq_getElem?_getD, List.getD_eq_getElem?_getD, f1 _ q.1, f2 _ q.2] <;> rfl
theorem zipT_go {K : PySem.W.Frag} {a b : Addr} {xs ys : List V} {n : Nat} (h1 : xs.length = n) (h2 : ys.length = n) {i : Nat} {H : Hp} (lt : i < n) (q : SqT K H a xs ∧ SqT K H b ys) : (RZ.ItzT K a b).go i H :=
  ⟨xs, ys, _, _, q.1, q.2, List.getElem?_eq_getElem (by omega), List.getElem?_eq_getElem (by omega)⟩
theorem zipT_stop {K : PySem.W.Frag} {a b : Addr} {xs ys : List V} {n : Nat} (h1 : xs.length = n) {H : Hp} (q : SqT K H a xs ∧ SqT K H b ys) : (RZ.ItzT K a b).stop n H := ⟨xs, ys, q.1, q.2, .inl (by omega)⟩
theorem zipT_yld {K : PySem.W.Frag} {a b : Addr} {xs ys : List V} {n : Nat} (h1 : xs.length = n) (h2 : ys.length = n) {i : Nat} {H H' : Hp} {v : V} (lt : i < n) (q : SqT K H a xs ∧ SqT K H b ys) (y : (RZ.ItzT K a b).yld i H v H') :
    ∃ T, v = .ref T ∧ H T = none ∧ H' = upd H T (.tup [xs.getD i .non, ys.getD i .non]) := by
  obtain ⟨T, x, y, rfl, nT, rfl, f1, f2⟩ := y
  refine ⟨T, rfl, nT, ?_⟩
  rw [List.getD_eq_getElem?_getD, List.getD_eq_getElem?_getD, f1 _ q.1, f2 _ q.2] <;> rfl
theorem getD_of {xs : List V} {i : Nat} (h : i < xs.length) : xs[i]? = some (xs.getD i .non) := by
  rw [List.getD_eq_getElem?_getD, List.getElem?_eq_getElem h] <;> rfl
theorem yesT {σ : L2.St} {H : Hp} {A B : Hp → Prop} (h : A H) : tYes σ H fun b H3 => if b = true then A H3 else B H3 := iteT (A := A H) (B := B H) h
/-- True so often -/
theorem all_true (n : Nat) : (List.replicate n true).map V.bl = List.replicate n (V.bl true) ∧ (List.replicate n true).all id = true := by
  refine ⟨List.map_replicate, ?_⟩
  induction n with
  | zero => rfl
  | succ n ih => rw [List.replicate_succ, List.all_cons, ih] <;> rfl

/-- a def of the text, where it stands and how it is called -/
structure Def (K : PySem.W.Frag) (mg : Str → Option Value) (name : Str) (st : Stmt) (f : Addr) (fd : FuncData) (ps : List Str) : Prop where
  fn : Fun K name name st f fd
  mg : mg name = some (.ref f)
  b : Binds K fd ps []
/-! rules whose written part is a letter -/
section
variable {X : Cx} {K : PySem.W.Frag}
theorem ixL (h : X.K = K) : IxR X (rIxL K) := h ▸ ix_list
theorem ixT (h : X.K = K) : IxR X (rIxT K) := h ▸ ix_tup
theorem ixQ (h : X.K = K) : IxR X (rIx K) := h ▸ ix_seq
def rLenQ (K : PySem.W.Frag) : List V → Hp → VK → Prop := fun xs H Q => ∃ p ys, xs = [.ref p] ∧ (SqL K H p ys ∨ SqT K H p ys) ∧ Q (.int (ys.length : Nat)) H
theorem lenQ (h : X.K = K) : CallR X (.builtin "len") (rLenQ K) := h ▸ call_len_seq
def rLenA (K : PySem.W.Frag) : List V → Hp → VK → Prop := fun xs H Q => ∃ x n, xs = [x] ∧ LenV K x H n ∧ Q (.int (n : Nat)) H
theorem lenA (h : X.K = K) : CallR X (.builtin "len") (rLenA K) := h ▸ call_len
theorem isiK (h : X.K = K) : CallR X (.builtin "isinstance") (rIsi K) := h ▸ call_isi
theorem isiTK (h : X.K = K) : CallR X (.builtin "isinstance") (rIsiT K) := h ▸ call_isiT
theorem allK (h : X.K = K) (hc : X.calm = true) : CallR X (.builtin "all") (rAll K) := h ▸ cr_all hc
theorem anyK (h : X.K = K) (hc : X.calm = true) : CallR X (.builtin "any") (rAny K) := h ▸ cr_any hc
theorem sumK (h : X.K = K) (hc : X.calm = true) : CallR X (.builtin "sum") (rSum K) := h ▸ cr_sum hc
theorem eqDK (h : X.K = K) (hu : X.A.units + 64 < cLine) : OpR X (compareOp .Eq) (rEqD K) := h ▸ op_eqD hu
theorem neDK (h : X.K = K) (hu : X.A.units + 64 < cLine) : OpR X (compareOp .NotEq) (rNeD K) := h ▸ op_neD hu
theorem inQ (h : X.K = K) : OpR X (compareOp .In) (rIn K false) := h ▸ op_in_seq
theorem notInQ (h : X.K = K) : OpR X (compareOp .NotIn) (rIn K true) := h ▸ op_notIn_seq
theorem pi_listK {tg l : Expr} {tl : TE} (h : X.K = K) (hl : PE X l tl) : PI X tg l (iList K tl) := h ▸ pi_list hl
theorem pi_tupK {tg l : Expr} {tl : TE} (h : X.K = K) (hl : PE X l tl) : PI X tg l (iTup K tl) := h ▸ pi_tup hl
theorem pi_zipK {e e2 : Expr} {ta : TA} {p pos tpos : Pos} {elts : List Expr} {kk : Nat} (h : X.K = K) (hg : Gl X "zip") (hm : X.mg "zip" = none) (ha : PA X [e, e2] ta)
    (hs : starEach [e, e2] X.env = (false, eval e X.env) :: starEach [e2] X.env := by rfl) (hpl : (backTo pos (starEach [e2] X.env)).any (·.1) = false := by rfl) :
    PI X (.Tuple elts kk tpos) (.Call (.Name "zip" p) [e, e2] [] pos) (RZ.iZipA K ta) := h ▸ RZ.pi_zipA hg hm ha hs hpl
theorem pi_enumK {e : Expr} {ta : TA} {p pos tpos : Pos} {elts : List Expr} {kk : Nat} (h : X.K = K) (hg : Gl X "enumerate") (hm : X.mg "enumerate" = none) (ha : PA X [e] ta) (hs : starEach [e] X.env = [(false, eval e X.env)] := by rfl) :
    PI X (.Tuple elts kk tpos) (.Call (.Name "enumerate" p) [e] [] pos) (iEnum K ta) := h ▸ pi_enum hg hm ha hs
theorem pg_tupK {es : List Expr} {k : Nat} {pos : Pos} {t : TGs} {n : Nat} (h : X.K = K) (hc : X.calm = true) (ht : PGs X es t) (hn : (assignEach es X.env).length = n := by rfl) (hst : (assignEach es X.env).findIdx? (·.1) = none := by rfl) :
    PG X (.Tuple es k pos) (gTup K n t) := h ▸ pg_tup hc ht hn hst
/-- a new slice, a new list of what a thing holds -/
def rSlLI (K : PySem.W.Frag) : V → Option Int → Option Int → Hp → VK → Prop := fun x lo hi H Q => ∃ a xs, x = .ref a ∧ SqL K H a xs ∧ ∀ p H', Same H H' → H p = none → H' p = some (.lst (cutV xs lo hi)) → Q (.ref p) H'
theorem slL (h : X.K = K) : SlR X (rSlLI K) := fun pins s σ H x v vl vu lo hi sl Q I rx hs pl pu ⟨a, xs, e, q, k⟩ =>
  sl_list pins s σ H x v vl vu lo hi sl Q I rx hs pl pu ⟨a, xs, e, h ▸ q, fun p hp => k p _ (same_new hp) hp upd_same⟩
def rListI (K : PySem.W.Frag) : List V → Hp → VK → Prop := fun xs H Q => ∃ p ys, xs = [.ref p] ∧ (SqL K H p ys ∨ SqT K H p ys) ∧ ∀ l H', Same H H' → H l = none → H' l = some (.lst ys) → Q (.ref l) H'
theorem listI (h : X.K = K) : CallR X (.type "list") (rListI K) := fun pins s σ H xs us Q I r ⟨p, ys, e, q, k⟩ =>
  call_list_of pins s σ H xs us Q I r ⟨p, ys, e, h ▸ q, fun l hl => k l _ (same_new hl) hl upd_same⟩
end
/-! lists of fractions: addresses, tops, bottoms -/
abbrev Fq := Addr × Int × Int
def refs (l : List Fq) : List V := l.map fun z => V.ref z.1
def dat (z : Fq) : PyData := .tuple [.int z.2.1, .int z.2.2]
structure FqAt (H : Hp) (n : Nat) (z : Fq) : Prop where
  at_ : H z.1 = some (.tup [.int z.2.1, .int z.2.2])
  low : IsLow z.2.1 z.2.2
  ta : z.2.1.natAbs ≤ 10 ^ 41 + n
  tb : z.2.2.natAbs ≤ 10 ^ 41 + n
def FrL (H : Hp) (n : Nat) (l : List Fq) : Prop := ∀ z ∈ l, FqAt H n z
theorem FqAt.fr {H H' : Hp} {p : Addr} {n m k : Nat} {z : Fq} (h : FqAt H n z) (B : BoxAt H p m) (f : Fr p H H') (le : n ≤ k) : FqAt H' k z := ⟨f.tup B h.at_, h.low, by have := h.ta; omega, by have := h.tb; omega⟩
theorem FqAt.same {H H' : Hp} {n : Nat} {z : Fq} (h : FqAt H n z) (s : Same H H') : FqAt H' n z := ⟨s _ _ h.at_, h.low, h.ta, h.tb⟩
theorem FrL.fr {H H' : Hp} {p : Addr} {n m k : Nat} {l : List Fq} (h : FrL H n l) (B : BoxAt H p m) (f : Fr p H H') (le : n ≤ k) : FrL H' k l := fun z hz => (h z hz).fr B f le
theorem FrL.same {H H' : Hp} {n : Nat} {l : List Fq} (h : FrL H n l) (s : Same H H') : FrL H' n l := fun z hz => (h z hz).same s
theorem FqAt.wide {H : Hp} {n : Nat} {z : Fq} (h : FqAt H n z) (le : n ≤ 1000) : z.2.1.natAbs < 2 ^ 200 ∧ z.2.2.natAbs < 2 ^ 200 := by
  have h1 := h.ta
  have h2 := h.tb
  have e : 10 ^ 41 + 1000 < 2 ^ 200 := by decide
  omega
theorem refs_len (l : List Fq) : (refs l).length = l.length := List.length_map _
theorem refs_get {l : List Fq} {i : Nat} {z : Fq} (h : l[i]? = some z) : (refs l)[i]? = some (.ref z.1) := by
  unfold refs
  rw [List.getElem?_map, h] <;> rfl
theorem refs_of {l : List Fq} {i : Nat} {x : V} (h : (refs l)[i]? = some x) : ∃ z, l[i]? = some z ∧ x = .ref z.1 := by
  unfold refs at h
  rw [List.getElem?_map] at h
  cases e : l[i]? with
  | none =>
    rw [e] at h
    cases h
  | some z =>
    rw [e] at h
    exact ⟨z, rfl, (Option.some.inj h).symm⟩
theorem dp_pair {K : PySem.W.Frag} {H : Hp} {a : Addr} {t b : Int} (h : H a = some (.tup [.int t, .int b])) : Dp K H (.ref a) (.tuple [.int t, .int b]) := .tup (SqT.of h) (.cons (.int _) (.cons (.int _) .nil))
theorem FrL.dps {K : PySem.W.Frag} {H : Hp} {n : Nat} : ∀ {l : List Fq}, FrL H n l → DpAll K H (refs l) (l.map dat)
  | [], _ => .nil
  | z :: r, h => .cons (dp_pair (h z List.mem_cons_self).at_) (FrL.dps fun y hy => h y (List.mem_cons_of_mem _ hy))
theorem dats_lay (l : List Fq) : PyData.canLayAll0 (l.map dat) = true ∧ PyData.depthAll (l.map dat) ≤ 1 := by
  induction l with
  | nil => exact ⟨rfl, by decide⟩
  | cons z r ih =>
    refine ⟨?_, ?_⟩
    · show (PyData.canLay0 (dat z) && PyData.canLayAll0 (r.map dat)) = true
      rw [ih.1]
      rfl
    · show max (PyData.depth (dat z)) (PyData.depthAll (r.map dat)) ≤ 1
      have e : PyData.depth (dat z) = 1 := rfl
      omega
theorem dats_shaped (l : List Fq) : SeqAt.shaped (.list (l.map dat)) = true := by
  obtain ⟨h1, h2⟩ := dats_lay l
  show (PyData.canLayAll0 (l.map dat) && decide (PyData.depthAll (l.map dat) + 1 ≤ 64)) = true
  rw [h1, decide_eq_true (by omega)] <;> rfl
theorem dats_nil (l : List Fq) : PyData.eqv (.list (l.map dat)) (.list []) = l.isEmpty := by
  cases l <;> rfl
theorem eqv_pair {a b c d : Int} : PyData.eqv (.tuple [.int a, .int b]) (.tuple [.int c, .int d]) = decide (a = c ∧ b = d) := by
  show ((a == c) && ((b == d) && true)) = decide (a = c ∧ b = d)
  rw [Bool.and_true, Bool.decide_and]
  rfl
/-! data of any make beside the box p -/
inductive Da (p : Addr) (H : Hp) : Nat → V → PyData → Prop
  | non (n : Nat) : Da p H (n + 1) .non .none
  | bl (n : Nat) (b : Bool) : Da p H (n + 1) (.bl b) (.bool b)
  | int (n : Nat) (i : Int) : Da p H (n + 1) (.int i) (.int i)
  | str (n : Nat) (x : Str) : Da p H (n + 1) (.str x) (.str x)
  | lst {n : Nat} {a : Addr} {xs : List V} {ds : List PyData} : a ≠ p → H a = some (.lst xs) → xs.length = ds.length → xs.length ≤ 100000 → (∀ (i : Nat) (x : V) (d : PyData), xs[i]? = some x → ds[i]? = some d → Da p H n x d) → Da p H (n + 1) (.ref a) (.list ds)
  | tup {n : Nat} {a : Addr} {xs : List V} {ds : List PyData} : a ≠ p → H a = some (.tup xs) → xs.length = ds.length → xs.length ≤ 100000 → (∀ (i : Nat) (x : V) (d : PyData), xs[i]? = some x → ds[i]? = some d → Da p H n x d) → Da p H (n + 1) (.ref a) (.tuple ds)
theorem Da.fr {p : Addr} {H H' : Hp} (s : Fr p H H') : ∀ {n : Nat} {v : V} {d : PyData}, Da p H n v d → Da p H' n v d := by
  intro n v d h
  induction h with
  | non n => exact .non n
  | bl n b => exact .bl n b
  | int n i => exact .int n i
  | str n x => exact .str n x
  | lst h0 h1 h2 h3 _ ih => exact .lst h0 (s _ _ h0 h1) h2 h3 ih
  | tup h0 h1 h2 h3 _ ih => exact .tup h0 (s _ _ h0 h1) h2 h3 ih
theorem Da.up {p : Addr} {H : Hp} {n m : Nat} {v : V} {d : PyData} (h : Da p H n v d) : n ≤ m → Da p H m v d := by
  intro le
  induction h generalizing m with
  | non n => obtain ⟨k, rfl⟩ : ∃ k, m = k + 1 := ⟨m - 1, by omega⟩; exact .non k
  | bl n b => obtain ⟨k, rfl⟩ : ∃ k, m = k + 1 := ⟨m - 1, by omega⟩; exact .bl k b
  | int n i => obtain ⟨k, rfl⟩ : ∃ k, m = k + 1 := ⟨m - 1, by omega⟩; exact .int k i
  | str n x => obtain ⟨k, rfl⟩ : ∃ k, m = k + 1 := ⟨m - 1, by omega⟩; exact .str k x
  | lst h0 h1 h2 h3 _ ih => obtain ⟨k, rfl⟩ : ∃ k, m = k + 1 := ⟨m - 1, by omega⟩; exact .lst h0 h1 h2 h3 fun i x d a b => ih i x d a b (by omega)
  | tup h0 h1 h2 h3 _ ih => obtain ⟨k, rfl⟩ : ∃ k, m = k + 1 := ⟨m - 1, by omega⟩; exact .tup h0 h1 h2 h3 fun i x d a b => ih i x d a b (by omega)
/-- each of a row is such data -/
def AllDa (p : Addr) (H : Hp) (n : Nat) (xs : List V) : Prop := ∀ x ∈ xs, ∃ d, Da p H n x d
theorem AllDa.fr {p : Addr} {H H' : Hp} {n : Nat} {xs : List V} (h : AllDa p H n xs) (s : Fr p H H') : AllDa p H' n xs := fun x hx => (h x hx).elim fun d q => ⟨d, q.fr s⟩
theorem AllDa.up {p : Addr} {H : Hp} {n m : Nat} {xs : List V} (h : AllDa p H n xs) (le : n ≤ m) : AllDa p H m xs := fun x hx => (h x hx).elim fun d q => ⟨d, q.up le⟩
theorem AllDa.nil {p : Addr} {H : Hp} {n : Nat} : AllDa p H n [] := fun x hx => absurd hx List.not_mem_nil
theorem AllDa.cons {p : Addr} {H : Hp} {n : Nat} {x : V} {xs : List V} (h : ∃ d, Da p H n x d) (t : AllDa p H n xs) : AllDa p H n (x :: xs) := fun y hy => by
  rcases List.mem_cons.mp hy with e | e
  · rw [e]
    exact h
  · exact t y e
theorem AllDa.append {p : Addr} {H : Hp} {n : Nat} {xs ys : List V} (h : AllDa p H n xs) (t : AllDa p H n ys) : AllDa p H n (xs ++ ys) := fun y hy => by
  rcases List.mem_append.mp hy with e | e
  · exact h y e
  · exact t y e
/-- what the datas of a row are -/
theorem AllDa.pick {p : Addr} {H : Hp} {n : Nat} : ∀ {xs : List V}, AllDa p H n xs → ∃ ds : List PyData, xs.length = ds.length ∧ ∀ (i : Nat) (x : V) (d : PyData), xs[i]? = some x → ds[i]? = some d → Da p H n x d
  | [], _ => ⟨[], rfl, fun i x d h => by simp at h⟩
  | x :: xs, h => by
    obtain ⟨d, q⟩ := h x List.mem_cons_self
    obtain ⟨ds, e, r⟩ := AllDa.pick (xs := xs) fun y hy => h y (List.mem_cons_of_mem _ hy)
    refine ⟨d :: ds, by rw [List.length_cons, List.length_cons, e], fun i y c h1 h2 => ?_⟩
    match i, h1, h2 with
    | 0, h1, h2 => cases h1; cases h2; exact q
    | i + 1, h1, h2 => exact r i y c h1 h2
theorem AllDa.tup {p : Addr} {H : Hp} {n : Nat} {xs : List V} {a : Addr} (h : AllDa p H n xs) (ne : a ≠ p) (e : H a = some (.tup xs)) (z : Nat.ble xs.length 100000 = true := by rfl) : ∃ d, Da p H (n + 1) (.ref a) d := by
  obtain ⟨ds, l, r⟩ := h.pick
  exact ⟨_, .tup ne e l (Nat.le_of_ble_eq_true z) r⟩
theorem AllDa.lst {p : Addr} {H : Hp} {n : Nat} {xs : List V} {a : Addr} (h : AllDa p H n xs) (ne : a ≠ p) (e : H a = some (.lst xs)) (z : Nat.ble xs.length 100000 = true := by rfl) : ∃ d, Da p H (n + 1) (.ref a) d := by
  obtain ⟨ds, l, r⟩ := h.pick
  exact ⟨_, .lst ne e l (Nat.le_of_ble_eq_true z) r⟩
theorem daI {p : Addr} {H : Hp} {n : Nat} (i : Int) : ∃ d, Da p H (n + 1) (.int i) d := ⟨_, .int n i⟩
theorem daB {p : Addr} {H : Hp} {n : Nat} (b : Bool) : ∃ d, Da p H (n + 1) (.bl b) d := ⟨_, .bl n b⟩
theorem daS {p : Addr} {H : Hp} {n : Nat} (x : Str) : ∃ d, Da p H (n + 1) (.str x) d := ⟨_, .str n x⟩
theorem daN {p : Addr} {H : Hp} {n : Nat} : ∃ d, Da p H (n + 1) .non d := ⟨_, .non n⟩
theorem AllDa.one {p : Addr} {H : Hp} {n m : Nat} {x : V} (h : ∃ d, Da p H n x d) (le : n ≤ m) : AllDa p H m [x] := .cons (h.elim fun d q => ⟨d, q.up le⟩) .nil
theorem AllDa.two {p : Addr} {H : Hp} {n : Nat} {x y : V} (h : ∃ d, Da p H n x d) (k : ∃ d, Da p H n y d) : AllDa p H n [x, y] := .cons h (.cons k .nil)
theorem da_fr {p : Addr} {H H' : Hp} {n : Nat} {v : V} (h : ∃ d, Da p H n v d) (s : Fr p H H') : ∃ d, Da p H' n v d := h.elim fun d q => ⟨d, q.fr s⟩
theorem da_up {p : Addr} {H : Hp} {n m : Nat} {v : V} (h : ∃ d, Da p H n v d) (le : n ≤ m) : ∃ d, Da p H m v d := h.elim fun d q => ⟨d, q.up le⟩
theorem BoxAt.new {H : Hp} {p a : Addr} {n : Nat} (h : BoxAt H p n) (e : H a = none) : a ≠ p := by
  obtain ⟨o, ho⟩ := h.some
  exact (ne_of_none ho e).symm
/-- an item at a place that is there -/
theorem at_some {xs : List V} {z : Int} (h0 : 0 ≤ z) (h1 : z < (xs.length : Int)) : ∃ v, atI xs z = some v ∧ v ∈ xs := by
  have g : xs[z.toNat]? = some xs[z.toNat] := List.getElem?_eq_getElem (by omega)
  exact ⟨_, at_of (j := z.toNat) (by omega) g, List.getElem_mem _⟩
/-- which kinds of built-in classes a data is of -/
def isTupD : PyData → Bool
  | .tuple _ => true
  | _ => false
def isIntD : PyData → Bool
  | .int _ => true
  | .bool _ => true
  | _ => false
def isBoolD : PyData → Bool
  | .bool _ => true
  | _ => false
def isListD : PyData → Bool
  | .list _ => true
  | _ => false
def isStrD : PyData → Bool
  | .str _ => true
  | _ => false
structure Kinds (K : PySem.W.Frag) (H : Hp) (v : V) (d : PyData) (t : String) : Prop where
  ty : TyX K H v (.type t)
  tup : kitB t "tuple" = some (isTupD d)
  lst : kitB t "list" = some (isListD d)
  int : kitB t "int" = some (isIntD d)
  bool : kitB t "bool" = some (isBoolD d)
  str : kitB t "str" = some (isStrD d)
theorem Da.kinds {K : PySem.W.Frag} {p : Addr} {H : Hp} {n : Nat} {v : V} {d : PyData} (h : Da p H n v d) : ∃ t, Kinds K H v d t := by
  cases h with
  | non => exact ⟨"NoneType", .base .non, by decide +kernel, by decide +kernel, by decide +kernel, by decide +kernel, by decide +kernel⟩
  | bl _ b => exact ⟨"bool", .base (.bl b), by show _ = some false; decide +kernel, by show _ = some false; decide +kernel, by show _ = some true; decide +kernel, by show _ = some true; decide +kernel, by show _ = some false; decide +kernel⟩
  | int _ i => exact ⟨"int", .base (.int i), by show _ = some false; decide +kernel, by show _ = some false; decide +kernel, by show _ = some true; decide +kernel, by show _ = some false; decide +kernel, by show _ = some false; decide +kernel⟩
  | str _ x => exact ⟨"str", .base (.str x), by show _ = some false; decide +kernel, by show _ = some false; decide +kernel, by show _ = some false; decide +kernel, by show _ = some false; decide +kernel, by show _ = some true; decide +kernel⟩
  | lst _ a1 => exact ⟨"list", .base (.lst a1), by show _ = some false; decide +kernel, by show _ = some true; decide +kernel, by show _ = some false; decide +kernel, by show _ = some false; decide +kernel, by show _ = some false; decide +kernel⟩
  | tup _ a1 => exact ⟨"tuple", .base (.tup a1), by show _ = some true; decide +kernel, by show _ = some false; decide +kernel, by show _ = some false; decide +kernel, by show _ = some false; decide +kernel, by show _ = some false; decide +kernel⟩
/-- repr of a truth -/
theorem cr_reprB {X : Cx} : CallR X (.builtin "repr") (fun xs H Q => ∃ b : Bool, xs = [.bl b] ∧ Q (.str (if b = true then "True" else "False")) H) := by
  intro pins s σ H xs us Q I r h
  obtain ⟨b, rfl, q⟩ := h
  cases r with
  | cons r1 r2 =>
    cases r2
    cases r1
    exact PySem.P.repr_of_bool ⟨.str _, H, I.tok _, ⟨_, rfl⟩, q⟩
/-- xs + ys, a new list -/
def rCatI : R2 := fun x y H Q => ∃ l b xs zs, x = .ref l ∧ y = .ref b ∧ H l = some (.lst xs) ∧ H b = some (.lst zs) ∧ xs.length + zs.length ≤ sizeLine ∧ ∀ p H', Same H H' → H p = none → H' p = some (.lst (xs ++ zs)) → Q (.ref p) H'
theorem op_catI {X : Cx} : OpR X (binaryOp .Add) rCatI := fun pins s σ H x y v u Q I rx ry ⟨l, b, xs, zs, e1, e2, h1, h2, z, k⟩ =>
  op_cat pins s σ H x y v u Q I rx ry ⟨l, b, xs, zs, e1, e2, h1, h2, z, fun p hp => k p _ (same_new hp) hp upd_same⟩
/-- a number; a fraction -/
def isNumD (d : PyData) : Bool := isIntD d && !isBoolD d
def isFracD : PyData → Bool
  | .tuple [.int t, .int b] => decide (0 < b) && decide (Nat.gcd t.natAbs b.natAbs = 1)
  | _ => false
theorem frac_no {d e : PyData} (h : isNumD d = false ∨ isNumD e = false) : isFracD (.tuple [d, e]) = false := by
  cases d <;> cases e <;> first | rfl | (rcases h with h | h <;> cases h)
theorem frac_len {ds : List PyData} (h : ds.length ≠ 2) : isFracD (.tuple ds) = false := by
  match ds, h with
  | [], _ => rfl
  | [d], _ => cases d <;> rfl
  | [_, _], h => exact absurd rfl h
  | d :: e :: _ :: _, _ => cases d <;> cases e <;> rfl
theorem num_int {p : Addr} {H : Hp} {n : Nat} {v : V} {d : PyData} (h : Da p H n v d) (k : isNumD d = true) : ∃ i, d = .int i ∧ v = .int i := by
  cases h with
  | int _ i => exact ⟨i, rfl, rfl⟩
  | non => cases k
  | bl => cases k
  | str => cases k
  | lst => cases k
  | tup => cases k
/-- rows of truths as data -/
theorem dps_bools {K : PySem.W.Frag} {H : Hp} : ∀ bs : List Bool, DpAll K H (bs.map V.bl) (bs.map PyData.bool)
  | [] => .nil
  | b :: r => .cons (.bl b) (dps_bools r)
theorem bools_shaped (bs : List Bool) : SeqAt.shaped (.list (bs.map PyData.bool)) = true := by
  have h : PyData.canLayAll0 (bs.map PyData.bool) = true ∧ PyData.depthAll (bs.map PyData.bool) = 0 := by
    induction bs with
    | nil => exact ⟨rfl, rfl⟩
    | cons b r ih =>
      refine ⟨?_, ?_⟩
      · show (PyData.canLay0 (.bool b) && PyData.canLayAll0 (r.map PyData.bool)) = true
        rw [ih.1] <;> rfl
      · show max (PyData.depth (.bool b)) (PyData.depthAll (r.map PyData.bool)) = 0
        rw [ih.2] <;> rfl
  show (PyData.canLayAll0 (bs.map PyData.bool) && decide (PyData.depthAll (bs.map PyData.bool) + 1 ≤ 64)) = true
  rw [h.1, h.2] <;> rfl
theorem take_one {α : Type} {l : List α} {i : Nat} {x : α} (h : l[i]? = some x) : l.take (i + 1) = l.take i ++ [x] := by
  rw [List.take_add_one, h] <;> rfl
end KR
/-! ### texts -/
namespace KR
open PySem PySem.Spec PyProof.Rows L2
theorem strs_of : ∀ {ys : List Str} {us : List Value}, Vals (ys.map V.str) us → StrsAre us ys
  | [], _, .nil => .nil
  | y :: r, _, .cons h t => by
    obtain ⟨k, rfl⟩ := h
    exact .cons y k (strs_of t)
section
variable {X : Cx} {K : PySem.W.Frag}
/-- sep.join(it), it a list walked from its end -/
theorem join_rev {prog : Program} {w : World} {A : Around} {E : Value → Shared → Prop} {s : Shared} {x : Str} {t : Tok} {it l : Addr} {items : Array Value} {ys : List Str} {Q : Value → Shared → Prop} (hh : A.handled = none)
    (hit : s.heap.IsRevIter it l ((items.size : Int) - 1)) (hl : s.heap.IsList l items) (hne : l ≠ it) (hn : items.size ≤ sizeLine)
    (hP : ∀ acc : Array Value, ItemsOf (fun i v => items[items.size - 1 - i]? = some v) acc items.size → StrsAre acc.toList ys) (hok : (ys.map (·.length)).sum + ys.length * x.length ≤ 16777216)
    (hq : ∀ (h' : Heap) (t' k : Nat), (∀ b o, b ≠ it → s.heap.get? b = some o → h'.get? b = some o) → Q (.str (Txt.join x ys) t') { s with heap := h', toks := k }) :
    wpAny (model prog w) A (call (.builtin "str.join") [.str x t, .ref it]) Q E s := by
  apply wpAny_call
  refine codeAny_call_builtin F.slot_str_join.plain F.entry_str_join (F.slot_str_join.check _ _ _ _ _ _ _ _ (typeIs_str _ _ _) (F.args_str_join_2 _ _) ?_)
  rw [join_tree_other]
  refine wpAny_bind (wpAny_typeOf hit.typeIs ?_)
  show wpAny _ A.in1 ((pyIter (.ref it)).tryCatch _ >>= fun j => collect j >>= fun vs => joinTail x vs) _ _ s
  refine wpAny_bind (wpAny_tryCatch (wpAny_pyIter_revIter hit (wpAny_bind (RT.collect_rev (A := A.in1) hh hit hl hne hn fun h' tk acc hk hacc => ?_))))
  obtain ⟨ps, e1, e2⟩ := strsAre_values (hP acc hacc)
  subst e2
  rw [e1]
  have fits := joinOk_of hok
  unfold JoinOk at fits
  rw [Bool.not_eq_true'] at fits
  have g : Gives (joinTail x (strValues ps)) (joinMade x ps) := by
    have g0 := gives_joinTail x ps fits
    rcases ps with _ | ⟨a, _ | ⟨b, r⟩⟩ <;> exact g0
  exact g prog w A (wants Q E) { s with heap := h', toks := tk } (post_join ps ⟨joinFit_length fits, fun t' k => hq h' t' k hk⟩)
/-- sep.join(reversed(xs)), xs a list of texts -/
def tJoinRev (K : PySem.W.Frag) (to te : TE) : TE := fun σ H Q => to σ H fun x H1 => (∃ a, x = .str a) ∧ te σ H1 fun v H2 => ∃ (a : Str) (q : Addr) (ys : List Str), x = .str a ∧ v = .ref q ∧ SqL K H2 q (ys.map V.str) ∧ (ys.map (·.length)).sum + ys.length * a.length ≤ 16777216 ∧ Q (.str (Txt.join a ys.reverse)) H2
theorem sum_rev (l : List Nat) : l.reverse.sum = l.sum := by
  induction l with
  | nil => rfl
  | cons a r ih =>
    rw [List.reverse_cons, List.sum_append, ih, List.sum_cons, List.sum_cons, List.sum_nil]
    omega
theorem pe_joinRev {o e : Expr} {to te : TE} {apos pos p pos2 : Pos} (hK : X.K = K) (hc : X.calm = true) (hg : Gl X "reversed") (hm : X.mg "reversed" = none) (ho : PE X o to) (he : PE X e te)
    (hs1 : starEach [.Call (.Name "reversed" p) [e] [] pos2] X.env = [(false, eval (.Call (.Name "reversed" p) [e] [] pos2) X.env)] := by rfl) (hs : starEach [e] X.env = (false, eval e X.env) :: starEach [] X.env := by rfl)
    (hbase : attributeBase o "join" X.env (eval o X.env) = eval o X.env := by rfl) (hline : (apos.endLine == pos.line) = true := by rfl) :
    PE X (.Call (.Attribute o "join" apos) [.Call (.Name "reversed" p) [e] [] pos2] [] pos) (tJoinRev K to te) := by
  subst hK
  constructor
  intro pins s σ H Q I want
  refine PySem.Call_method1 hbase hs1 hline (thn (ho.run pins s σ H _ I want) ?_)
  rintro v s1 ⟨x, H1, I1, r1, ⟨a, rfl⟩, q1⟩
  obtain ⟨t, rfl⟩ : ∃ t, v = Value.str a t := r1
  refine ⟨"str", "str.join", F.plainAttrs_str, F.slot_str_join, F.type_str_join, typeIs_str _ _ _, nofun, Calls.callWith_builtin rfl (Calls.evalArgs_plain (Calls.spliced_cons ?_))⟩
  refine Call_ (ld_blt I1 hg hm PyProof.Rows.boot_reversed (PyProof.Rows.callWith_type1 (args_cons (thn (he.run pins s1 σ H1 _ I1 q1) ?_) hs) hs rfl))
  rintro u s2 ⟨y, H2, I2, r2, a', q, ys, ea, rfl, hq, hz, k⟩
  cases ea
  cases r2
  obtain ⟨its, rv, pl, hsz⟩ := I2.list hq
  refine args_nil (call_reversed_list pl.isList (Calls.spliced_nil ?_))
  have old : ∀ b o, s2.heap.get? b = some o → (s2.heap.push (revObj q ((its.toArray.size : Int) - 1))).get? b = some o := fun b o g => Heap.get?_push_of_some _ g
  obtain ⟨oq, hoq, _⟩ := id pl.isList
  have neq : q ≠ s2.heap.objs.size := Nat.ne_of_lt (Heap.lt_size hoq)
  have len : its.toArray.size ≤ sizeLine := by rw [List.size_toArray, ← rv.length]; exact hsz
  refine join_rev (s := { s2 with heap := s2.heap.push (revObj q ((its.toArray.size : Int) - 1)) }) (ys := ys.reverse) (I2.ok.hd hc) ⟨_, Heap.get?_push_size _ rfl, rfl, rfl⟩ (pl.isList.push _) neq len (fun acc hacc => strs_of ?_) ?_ fun h' t' k' keep => ?_
  · rw [List.map_reverse]
    exact RT.vals_rev rv hacc
  · rw [List.map_reverse, sum_rev, List.length_reverse]
    exact hz
  · exact ⟨.str _, H2, I2.kept (t' := k') (fun b o g => keep b o (Nat.ne_of_lt (Heap.lt_size g)) (old b o g)), ⟨t', rfl⟩, k⟩
end
/-! texts as rows of codes -/
abbrev S (l : List Nat) : Str := ⟨l.toArray⟩
theorem tl_S (l : List Nat) : TL.tl (S l) = l := rfl
theorem S_tl (x : Str) : S (TL.tl x) = x := TL.mk_tl x
theorem S_len (l : List Nat) : (S l).length = l.length := by rw [TL.len_tl]
theorem S_app (l m : List Nat) : S l ++ S m = S (l ++ m) := TL.ext_tl (by rw [TL.tl_append])
theorem S_inj {l m : List Nat} (h : S l = S m) : l = m := congrArg TL.tl h
theorem lit_minus : ("-" : Str) = S [45] := by decide +kernel
theorem lit_stroke : ("/" : Str) = S [47] := by decide +kernel
theorem lit_one : ("1" : Str) = S [49] := by decide +kernel
theorem lit_zero : ("0" : Str) = S [48] := by decide +kernel
theorem lit_none : ("" : Str) = S [] := by decide +kernel
theorem lit_empty : Str.empty = S [] := by decide +kernel
theorem lit_digits : ("0123456789" : Str) = S [48, 49, 50, 51, 52, 53, 54, 55, 56, 57] := by decide +kernel
theorem num_S (n : Nat) : Str.ofString (toString ((n : Nat) : Int)) = S (TL.numL n) := TL.ext_tl (TL.tl_num n)
theorem numL_cut (n : Nat) : TL.numL n = (if n / 10 = 0 then [] else TL.numL (n / 10)) ++ [48 + n % 10] := by
  by_cases h : n < 10
  · rw [TL.numL_lt h, if_pos (by omega), show n % 10 = n by omega] <;> rfl
  · rw [TL.numL_step (by omega), if_neg (by omega)]
theorem dig_at {k : Int} (h0 : 0 ≤ k) (h1 : k < 10) : atI ("0123456789" : Str).cps.toList k = some (48 + k.toNat) := by
  rw [lit_digits]
  have ks : k = 0 ∨ k = 1 ∨ k = 2 ∨ k = 3 ∨ k = 4 ∨ k = 5 ∨ k = 6 ∨ k = 7 ∨ k = 8 ∨ k = 9 := by omega
  rcases ks with e | e | e | e | e | e | e | e | e | e <;> subst e <;> rfl
theorem lit_len : ("0123456789" : Str).length ≤ sizeLine := by decide +kernel
/-- text times a number from 0 -/
theorem op_mul_str {X : Cx} : OpR X (binaryOp .Mult) (fun x y H Q => ∃ (a : Str) (n : Nat), x = .str a ∧ y = .int (n : Int) ∧ a.length * n ≤ 100000 ∧ n ≤ 100000 ∧ Q (.str (Txt.mul a n)) H) := by
  intro pins s σ H x y v u Q I rx ry h
  obtain ⟨a, n, rfl, rfl, hz, hn, q⟩ := h
  obtain ⟨t, rfl⟩ := rx
  obtain ⟨t', rfl⟩ := ry
  refine SB.mul ⟨?_, fun h1 h2 => ?_, fun h1 h2 => ?_⟩ fun t2 k => ⟨.str _, H, I.tok _, ⟨_, rfl⟩, q⟩
  · rw [decide_eq_false (by omega), decide_eq_false (by omega)] <;> rfl
  · have n1 : (1 : Int) ≤ (n : Int) := by omega
    intro bad
    have b2 : ((2 ^ 63 - 1 : Int)) / (n : Int) ≥ (2 ^ 63 - 1 : Int) / 100000 := by
      refine Int.le_ediv_of_mul_le (by omega) ?_
      have e : (2 ^ 63 - 1 : Int) / 100000 * (n : Int) ≤ (2 ^ 63 - 1 : Int) / 100000 * 100000 := Int.mul_le_mul_of_nonneg_left (by omega) (by decide)
      exact Int.le_trans e (by decide)
    have a9 : a.length ≤ 100000 := by
      have : a.length * 1 ≤ a.length * n := Nat.mul_le_mul_left _ (by omega)
      omega
    have e3 : (2 ^ 63 - 1 : Int) / 100000 = 92233720368547 := by decide
    omega
  · rw [Int.toNat_natCast]
    exact decide_eq_false (by have := small hz; omega)
theorem mul_zero (a : Str) : Txt.mul a ((0 : Nat) : Int) = S [] := by
  unfold Txt.mul
  rw [if_pos (by decide), lit_empty]
theorem mul_one (a : Str) : Txt.mul a ((1 : Nat) : Int) = a := by
  unfold Txt.mul
  rw [if_neg (by decide), if_pos (by rfl)]
/-- a minus ahead, cut off -/
theorem sub_minus (l : List Nat) : Builtin.Str.subAt (S l) (S [45]) 0 = (l.head? == some 45) := by
  unfold Builtin.Str.subAt
  rcases l with _ | ⟨c, r⟩
  · rfl
  · have e : ((S (c :: r)).cps.extract 0 (0 + (S [45]).length)) = #[c] := by
      apply Array.toList_inj.mp
      rw [Array.toList_extract]
      rfl
    rw [e]
    show (#[c] == #[45]) = (some c == some 45)
    by_cases h : c = 45
    · subst h
      rfl
    · have e2 : (some c == some 45) = false := by
        rw [beq_eq_false_iff_ne]
        exact fun z => h (Option.some.inj z)
      rw [e2, beq_eq_false_iff_ne]
      intro z
      exact h (by have := congrArg (fun a => a[0]?) z; simpa using this)
theorem prefix_minus (l : List Nat) : Txt.removeprefix (S l) (S [45]) = S (if l.head? = some 45 then l.tail else l) := by
  unfold Txt.removeprefix
  rw [sub_minus]
  by_cases h : l.head? = some 45
  · rw [if_pos h, if_pos (by rw [h] <;> rfl)]
    rcases l with _ | ⟨c, r⟩
    · cases h
    · show (if ((S (c :: r)).length - (S [45]).length == (S (c :: r)).length) = true then S (c :: r) else Builtin.Str.strSub (S (c :: r)) (S [45]).length (S (c :: r)).length) = S r
      have e1 : (S (c :: r)).length = r.length + 1 := by rw [S_len] <;> rfl
      have e2 : (S [45]).length = 1 := rfl
      rw [if_neg (by rw [e1, e2, beq_iff_eq]; omega)]
      apply TL.ext_tl
      show ((S (c :: r)).cps.extract (S [45]).length (S (c :: r)).length).toList = r
      rw [Array.toList_extract, e1, e2]
      show List.take (r.length + 1 - 1) (List.drop 1 (c :: r)) = r
      rw [Nat.add_sub_cancel]
      exact List.take_length
  · rw [if_neg h, if_neg (by rw [beq_iff_eq]; exact h)]
    rfl
theorem starts_minus (l : List Nat) : Txt.startswith (S l) (S [45]) = (l.head? == some 45) := by
  unfold Txt.startswith
  rw [sub_minus]
  rcases l with _ | ⟨c, r⟩
  · rfl
  · rw [decide_eq_true (show 0 + (S [45]).length ≤ (S (c :: r)).length by rw [S_len, S_len]; show 0 + 1 ≤ r.length + 1; omega), Bool.true_and]
/-- one to so many figures -/
def figs (l : List Nat) : Bool := !l.isEmpty && l.all fun c => decide (48 ≤ c) && decide (c ≤ 57)
theorem ascii_S (l : List Nat) : Txt.isascii (S l) = l.all (· < 128) := by
  unfold Txt.isascii
  rw [← Array.all_toList]
theorem dig_code : ∀ c, c < 128 → Unicode.isDigit c = (decide (48 ≤ c) && decide (c ≤ 57)) := by decide +kernel
theorem digit_S {l : List Nat} (h : l.all (· < 128) = true) : Txt.isdigit (S l) = figs l := by
  unfold Txt.isdigit figs
  rw [← Array.all_toList, S_len]
  have e1 : decide (l.length > 0) = !l.isEmpty := by
    cases l <;> rfl
  have e2 : l.all Unicode.isDigit = l.all fun c => decide (48 ≤ c) && decide (c ≤ 57) := by
    rw [List.all_eq_true] at h
    clear e1
    induction l with
    | nil => rfl
    | cons c r ih =>
      rw [List.all_cons, List.all_cons, ih fun x hx => h x (List.mem_cons_of_mem _ hx), dig_code c (of_decide_eq_true (h c List.mem_cons_self))]
  rw [e1]
  exact congrArg _ e2
theorem figs_ascii {l : List Nat} (h : figs l = true) : l.all (· < 128) = true := by
  unfold figs at h
  rw [Bool.and_eq_true] at h
  have h3 := List.all_eq_true.mp h.2
  rw [List.all_eq_true]
  intro c hc
  have := h3 c hc
  rw [Bool.and_eq_true] at this
  have h2 := of_decide_eq_true this.2
  exact decide_eq_true (by omega)
theorem figs_num (n : Nat) : figs (TL.numL n) = true := by
  unfold figs
  rw [Bool.and_eq_true]
  refine ⟨?_, ?_⟩
  · have := TL.numL_ne n
    cases e : TL.numL n with
    | nil => exact absurd e this
    | cons _ _ => rfl
  · rw [List.all_eq_true]
    intro c hc
    have := TL.numL_digits n c hc
    rw [decide_eq_true this.1, decide_eq_true this.2] <;> rfl
theorem figs_int {l : List Nat} (h : figs l = true) (z : l.length ≤ 600) : PySem.intText? (S l) = some ((NumText.digitsVal l : Nat) : Int) := by
  unfold figs at h
  rw [Bool.and_eq_true] at h
  have d : NumText.AllDigits l := fun c hc => by
    have := List.all_eq_true.mp h.2 c hc
    rw [Bool.and_eq_true] at this
    exact ⟨of_decide_eq_true this.1, of_decide_eq_true this.2⟩
  have ne : l ≠ [] := by
    intro e
    rw [e] at h
    exact Bool.noConfusion h.1
  exact PySem.intText_digits (x := S l) d ne (by rw [S_len]; omega)
/-- a fraction's text -/
def fracL (t b : Int) : List Nat := (if t < 0 then [45] else []) ++ (TL.numL t.natAbs ++ (if b = 1 then [] else 47 :: TL.numL b.natAbs))
/-- ahead of the first stroke, whether there is one, behind it -/
def cutL : List Nat → List Nat × Bool × List Nat
  | [] => ([], false, [])
  | c :: r => if c = 47 then ([], true, r) else (c :: (cutL r).1, (cutL r).2)
theorem cut_app {a b : List Nat} (h : 47 ∉ a) : cutL (a ++ 47 :: b) = (a, true, b) := by
  induction a with
  | nil => rfl
  | cons c r ih =>
    have hc : c ≠ 47 := fun e => h (by rw [e]; exact List.mem_cons_self)
    have ih' := ih fun m => h (List.mem_cons_of_mem _ m)
    show (if c = 47 then _ else (c :: (cutL (r ++ 47 :: b)).1, (cutL (r ++ 47 :: b)).2)) = _
    rw [if_neg hc, ih']
theorem cut_none {a : List Nat} (h : 47 ∉ a) : cutL a = (a, false, []) := by
  induction a with
  | nil => rfl
  | cons c r ih =>
    have hc : c ≠ 47 := fun e => h (by rw [e]; exact List.mem_cons_self)
    have ih' := ih fun m => h (List.mem_cons_of_mem _ m)
    show (if c = 47 then _ else (c :: (cutL r).1, (cutL r).2)) = _
    rw [if_neg hc, ih']
/-- either no stroke, or the first one -/
theorem cut_ways (l : List Nat) : (47 ∉ l ∧ cutL l = (l, false, [])) ∨ ∃ a b, l = a ++ 47 :: b ∧ 47 ∉ a ∧ cutL l = (a, true, b) := by
  by_cases h : 47 ∈ l
  · obtain ⟨a, b, e, n⟩ := List.eq_append_cons_of_mem h
    exact .inr ⟨a, b, e, n, by rw [e]; exact cut_app n⟩
  · exact .inl ⟨h, cut_none h⟩
end KR
/-! ### defs that ask repr: no repr is under way around them -/
namespace KR
open PySem PySem.Spec PyProof.Rows L2
section
variable {P : Program} {w : World} {K : PySem.W.Frag} {mg : Str → Option Value} {base : Heap}
structure FnG (P : Program) (w : World) (K : PySem.W.Frag) (mg : Str → Option Value) (base : Heap) (k : Nat) (f : Addr) (fd : FuncData) (ps : List Str) (sp : Sp) : Prop where
  many : ∀ vs H Q E, sp vs H Q E → vs.length = ps.length
  does : ∀ (A : Around) (outer : List Env) (s : Shared) (H : Hp) (args : Args) (us : List Value) (vs : List V) (Q : VK) (E : XK), Room k A → A.guards = some [] → Env0 P w K mg base A outer s H → BindsTo s fd args (ps.zip us) → Vals vs us →
    sp vs H Q E → codeAny (model P w) A (.call (.ref f) args) (CR CX0 outer P w H s Q E) s
/-- the end of a def's body is the end of its call -/
theorem body_end {N : List Str} {qual : Str} {sc : Scope} {f : Addr} {cdv : Value} {A : Around} {outer : List Env} {s s' : Shared} {H : Hp} {Q : VK} {E : XK} {fl : Flow}
    (h : SP (cxOf CX0 P w K mg base N qual sc f cdv A outer s H E) [] { nx := fun _ H' => Q .non H', rt := Q } fl s') : CR CX0 outer P w H s Q E (.ok (.ret (match fl with | .ret u => u | _ => .none))) s' ∧ (∀ u, fl = .ret u ∨ fl = .next ∨ fl = .brk ∨ fl = .cont → True) ∧ fl ≠ .brk ∧ fl ≠ .cont := by
  cases fl <;> simp only [SP] at h
  case next => obtain ⟨_, H', J, q⟩ := h; exact ⟨⟨V.non, H', J.os, J.bare, J.base, J.hok, rfl, q⟩, fun _ _ => trivial, nofun, nofun⟩
  case ret u => obtain ⟨v, _, H', J, rv, q⟩ := h; exact ⟨⟨v, H', J.os, J.bare, J.base, J.hok, rv, q⟩, fun _ _ => trivial, nofun, nofun⟩
  case brk => exact absurd h.choose_spec.choose_spec.2 id
  case cont => exact absurd h.choose_spec.choose_spec.2 id
theorem okG {x qual : Str} {st : Stmt} {f : Addr} {fd : FuncData} {N ps : List Str} {k : Nat} {sp : Sp} (F : Fun K x qual st f fd) (S : FnScope N ps (defScope st)) (many : ∀ vs H Q E, sp vs H Q E → vs.length = ps.length)
    (body : ∀ (cdv : Value) (A : Around) (outer : List Env) (s : Shared) (H : Hp) (vs : List V) (Q : VK) (E : XK), Room k (A.deeper (envOfC qual (defScope st) s.heap.objs.size f cdv)) → A.guards = some [] → sp vs H Q E →
      ∃ t, PSs (cxOf CX0 P w K mg base N qual (defScope st) f cdv A outer s H E).nox (defBody st) t ∧ t { nx := fun _ H' => Q .non H', rt := Q } (start N vs) H) : FnG P w K mg base (k + 1) f fd ps sp := by
  obtain ⟨_, _, _, _, _, _, cdv, _, _, rfl, lk, hcd⟩ := F.ex
  refine ⟨many, ?_⟩
  intro A outer s H args us vs Q E hr hg e0 hb rv hsp
  obtain ⟨t, ht, hq⟩ := body cdv A outer s H vs Q E (hr.deeper _) hg hsp
  have inK : K.In s.heap := e0.mod.kin.keeps fun b o q => (e0.bs b o q).1
  apply codeAny_call_function hr.depth (inK _ _ lk) rfl S.co S.gen rfl (PySem.W.codeRec_of inK hcd)
  refine hb _ _ _ _ (wpAny_newFunctionEnv_cells S.kind ?_ ?_)
  · rintro ⟨n, v⟩ hy
    exact (S.par n (List.of_mem_zip hy).1).imp id fun q => ⟨q, PySem.W.cellsFrom_some _ _ _ (Or.inl q)⟩
  · rintro env rfl s1 made
    refine ⟨(e0.mod.nolimit.keeps fun b o q => (e0.bs b o q).1).keeps made.toInCall.keep, codeAny_func ?_⟩
    have I := inv_start (CX := CX0) (E := E) S hr.hd e0 (many _ _ _ _ hsp) rv made
    refine wpAny_mono (ht.nox.run [] s1 (start N vs) H _ I hq) (fun fl s' hs => ?_) fun _ _ z => z
    obtain ⟨r, _, n1, n2⟩ := body_end hs
    cases fl with
    | next => exact r
    | ret u => exact r
    | brk => exact absurd rfl n1
    | cont => exact absurd rfl n2
end
section
variable {X : Cx} {k : Nat} {f : Addr} {fd : FuncData} {ps : List Str} {sp : Sp} {ds : List Value} {dvs : List V} {E : XK} {x : Str} {p pos : Pos} {e : Expr} {es : List Expr} {t : TA}
/-- a call of such a def, where no repr is under way -/
theorem pe_callG (F : FnG X.prog X.w X.K X.mg X.base k f fd ps sp) (room : Room k X.A) (calm : X.A.guards = some []) (glob : Gl X x) (at_ : X.mg x = some (.ref f)) (keep : PySem.W.keepIn X.K (.ref f) = true) (binds : Binds X.K fd ps ds) (dflt : Vals dvs ds) (pass : Passes CX0 X E)
    (args : PA X (e :: es) t) (nd : (x == ("__debug__" : Str)) = false := by decide) (he : starEach (e :: es) X.env = (false, eval e X.env) :: starEach es X.env := by rfl) (hpl : (backTo pos (starEach es X.env)).any (·.1) = false := by rfl) :
    PE X (.Call (.Name x p) (e :: es) [] pos) (tCall sp dvs E t) := by
  constructor
  intro pins s σ H Q I want
  refine wpAny_Call_Name_kw (ld_glob I glob at_ (PySem.W.callWith_K (h₀ := X.base) I.ok.mod.kin keep (thn (args.run pos pins s σ H _ I want) ?_) he hpl) nd)
  rintro us s1 ⟨vs, H1, I1, r, q⟩
  have many := F.many _ _ _ _ q
  have both : Vals (vs ++ dvs) (us ++ ds) := r.append dflt
  refine ⟨I1.kIn, wpAny_call (codeAny_mono (F.does X.A X.stack s1 H1 ⟨us, []⟩ _ _ Q E room calm I1.env0 (binds s1 us I1.kIn (both.length ▸ many)) both q) ?_)⟩
  intro r s' post
  match r, post with
  | .error e, post => exact pass pins σ H1 s1 e s' I1 post
  | .ok (.ret u), post => exact I1.after post
  | .ok .next, post => exact post.elim
  | .ok .brk, post => exact post.elim
  | .ok .cont, post => exact post.elim
end
/-- a def that asks no repr is one -/
theorem FnG.of {P : Program} {w : World} {K : PySem.W.Frag} {mg : Str → Option Value} {base : Heap} {k : Nat} {f : Addr} {fd : FuncData} {ps : List Str} {sp : Sp} (F : FnOk P w K mg base CX0 k f fd ps sp) : FnG P w K mg base k f fd ps sp :=
  ⟨F.len, fun A outer s H args us vs Q E hr _ => F.run A outer s H args us vs Q E hr⟩
/-- repr of data that is no text -/
def rReprD (K : PySem.W.Frag) : List V → Hp → VK → Prop := fun xs H Q => ∃ (a : Addr) (d : PyData), xs = [.ref a] ∧ Dp K H (.ref a) d ∧ d.showable = true ∧ d.hasDict = false ∧ d.depth ≤ 60 ∧ d.shown.length ≤ sizeLine ∧ Q (.str d.shown) H
theorem cr_reprD {X : Cx} (hg : X.A.guards = some []) (hu : X.A.units + 64 < cLine) : CallR X (.builtin "repr") (rReprD X.K) := by
  intro pins s σ H xs us Q I r h
  obtain ⟨a, d, rfl, dp, sh, nd, dd, sz, q⟩ := h
  cases r with
  | cons r1 r2 =>
    cases r2
    cases r1
    obtain ⟨as, rd⟩ := Dp.reads I d _ _ dp rfl
    exact repr_of_reads' rd sh (PyData.noDict_hsm nd) hg (by omega) (fun _ _ e => e) (fun h' u tk hk => ⟨.str _, H, I.kept (fun b o e => hk b o e), ⟨_, rfl⟩, q⟩) sz
theorem cr_reprDK {X : Cx} {K : PySem.W.Frag} (h : X.K = K) (hg : X.A.guards = some []) (hu : X.A.units + 64 < cLine) : CallR X (.builtin "repr") (rReprD K) := h ▸ cr_reprD hg hu
section
variable {P : Program} {w : World} {K : PySem.W.Frag} {mg mb : Str → Option Value} {k : Nat} {fa a : Addr} {fd : FuncData} {x : Str} {sp : Sp} {s₁ : Shared} {vs : List Value} {ns : List Int}
/-- what is tracked when the law is called: the script, unless the module itself made it -/
def scr (K : PySem.W.Frag) (a : Addr) (ob : Obj) (ns : List Int) : Hp := fun b => if b = a ∧ K.lookup a = none then some (.frz ob (.lst (ns.map V.int))) else none
theorem scr_some {ob : Obj} {b : Addr} {u : HO} (h : scr K a ob ns b = some u) : b = a ∧ K.lookup a = none ∧ u = .frz ob (.lst (ns.map V.int)) := by
  unfold scr at h
  split at h
  · rename_i c
    exact ⟨c.1, c.2, (Option.some.inj h).symm⟩
  · cases h
theorem call_law (inK : K.In s₁.heap) (gl : s₁.heap.Ns mainGlobals mg) (bl : s₁.heap.Ns builtinsNs mb) (boot : ∀ x : Str, x ≠ "__name__" → mb x = bootBuiltins x) (lim : s₁.heap.NoLimit) (quiet : s₁.gens = #[])
    (there : s₁.heap.get? a = some { cls := .type "list", data := .seq vs.toArray }) (areInts : IntsAre vs ns) (len : ns.length ≤ sizeLine) (room : Room k callerA)
    (F : ∀ base : Heap, K.In base → base.Ns mainGlobals mg → FnG P w K mg base k fa fd [x] sp) (binds : ∀ (s : Shared) (u : Value), BindsTo s fd ⟨[u], []⟩ [(x, u)])
    (asked : ∀ H : Hp, Only H → SqL K H a (ns.map V.int) → sp [.ref a] H (fun v _ => v = .bl true) fun _ _ _ => False) :
    codeAny (model P w) callerA (.call (.ref fa) ⟨[.ref a], []⟩) (fun r s' => r = .ok (.ret (.bool true)) ∧ OldK s₁.heap s'.heap ∧ s'.os = s₁.os ∧ AllBare s'.gens) s₁ := by
  let ob : Obj := { cls := .type "list", data := .seq vs.toArray }
  let H := scr K a ob ns
  have at_ : ∀ {b u}, H b = some u → b = a ∧ K.lookup a = none ∧ u = .frz ob (.lst (ns.map V.int)) := scr_some
  have no : ∀ b o, s₁.heap.get? b = some o → (∀ q, o ≠ { cls := .type "list", data := .seq q }) → H b = none := fun b o e d => by
    cases c : H b with
    | none => rfl
    | some u =>
      obtain ⟨rfl, _⟩ := at_ c
      exact absurd (Option.some.inj (e.symm.trans there)) (d _)
  have keepNs : ∀ {b : Addr} {m : Str → Option Value}, s₁.heap.Ns b m → (hidT s₁.heap H).Ns b m := fun {b m} ⟨o, es, ep, e, d, r⟩ =>
    ⟨o, es, ep, hidT_get e (no b o e fun q z => by rw [z] at d; cases d), d, r⟩
  have keepK : K.In (hidT s₁.heap H) := fun b o e => hidT_get (inK b o e) (by
    cases c : H b with
    | none => rfl
    | some u =>
      obtain ⟨rfl, n, _⟩ := at_ c
      rw [n] at e
      cases e)
  have rel := vals_ints areInts
  have holds : HOk P w H s₁.heap := fun b u c => by
    obtain ⟨rfl, _, rfl⟩ := at_ c
    exact ⟨there, by rw [List.length_map]; exact len, vs, _, rel, there⟩
  have only : Only H := fun b => by
    cases c : H b with
    | none => exact Or.inl rfl
    | some u => exact Or.inr ⟨ob, _, by rw [(at_ c).2.2]⟩
  have script : SqL K H a (ns.map V.int) := by
    cases c : K.lookup a with
    | none => exact Or.inl (Or.inr ⟨ob, if_pos ⟨rfl, c⟩⟩)
    | some o =>
      have e := Option.some.inj ((inK a o c).symm.trans there)
      subst e
      exact Or.inr ⟨_, vs.toArray, _, c, rfl, rfl, rfl, by rw [List.size_toArray, areInts.length]; exact len, by simpa using rel⟩
  have modul : Mod K mg (hidT s₁.heap H) := ⟨keepK, keepNs gl, ⟨mb, keepNs bl, boot⟩, lim.elim fun mc z => ⟨mc, keepNs z.1, z.2⟩⟩
  have start0 : Env0 P w K mg (hidT s₁.heap H) callerA [] s₁ H := ⟨rfl, modul, fun b o e => of_hidT e, Nat.le_of_eq (hidT_size _ _), trivial, fun b hb => (List.not_mem_nil hb).elim, holds, .of_eq quiet⟩
  refine codeAny_mono ((F _ keepK (keepNs gl)).does callerA [] s₁ H _ [.ref a] [.ref a] _ _ room rfl start0 (binds s₁ (.ref a)) (.cons rfl .nil) (asked H only script)) ?_
  intro r s' post
  match r, post with
  | .error e, post => exact False.elim post
  | .ok .next, post => exact post.elim
  | .ok .brk, post => exact post.elim
  | .ok .cont, post => exact post.elim
  | .ok (.ret u), ⟨v, H', os, bare, un, held, rv, e⟩ =>
    cases (show v = V.bl true from e)
    cases (show u = Value.bool true from rv)
    refine ⟨rfl, OldK.of_keep fun b o g => ?_, os, bare⟩
    cases c : H b with
    | none => exact un.keep b o g c (fun z => (List.not_mem_nil z).elim) (fun z => (List.not_mem_nil z).elim)
    | some u =>
      obtain ⟨rfl, _, rfl⟩ := at_ c
      rw [Option.some.inj (g.symm.trans there)]
      exact (held b _ (un.frzs b ob _ c)).1
end
/-- the goal that is left of a law whose defs ask repr -/
theorem walk_ofG {l : PySem.W.OpenLaw} {n k : Nat} {q : Program} {loose : List Str} {XP : (Str → Option Value) → Heap → Prop} {YP : World → Heap → Prop} {d : DefRec} {K : Params → PySem.W.Frag} {sp : World → Sp} {x : Str}
    (most : l.most = some n) (n9 : n ≤ sizeLine) (nodf : d.params.defaults = []) (room : Room k callerA) (inK : ∀ (w : World) (h : Heap), YP w h → (K w.params).In h)
    (F : ∀ (w : World) (mg : Str → Option Value) (fa : Addr) (h : Heap), (K w.params).In h → h.Ns mainGlobals mg → mg d.name = some (.ref fa) →
      ∃ fd : FuncData, (∀ (s : Shared) (u : Value), BindsTo s fd ⟨[u], []⟩ [(x, u)]) ∧ ∀ base : Heap, (K w.params).In base → base.Ns mainGlobals mg → FnG l.prog w (K w.params) mg base k fa fd [x] (sp w))
    (asked : ∀ (w : World) (H : Hp) (a : Addr) (ns : List Int), ns.length ≤ n → Only H → SqL (K w.params) H a (ns.map V.int) → sp w [.ref a] H (fun v _ => v = .bl true) fun _ _ _ => False) :
    PySem.W.WalkO q loose XP YP l.row.toRowW d [] (fun f vs => PySem.call f vs) :=
  Att.attach_call most nodf fun w s₀ s₁ mg mb fa o pm cd doc a vs ns G Y ho hd hcd hmg hobj hints hlen hg => by
    obtain ⟨fd, b, f⟩ := F w mg fa _ (inK w _ Y) G.T.g hmg
    exact call_law (inK w _ Y) G.T.g G.T.b G.T.builtins G.T.nolimit hg hobj hints (Nat.le_trans hlen n9) room f b fun H only sc => asked w H a ns hlen only sc
end KR
/-! ### fractions as numbers of the field -/
namespace KR
open PySem PySem.Spec PyProof.Rows L2
theorem Same.tup {K : PySem.W.Frag} {H H' : Hp} {a : Addr} {xs : List V} (e : Same H H') (h : SqT K H a xs) : SqT K H' a xs :=
  h.elim (fun h => .inl (h.elim (fun h => .inl (e _ _ h)) fun ⟨o, h⟩ => .inr ⟨o, e _ _ h⟩)) fun h => .inr h
theorem sqT_ty {K : PySem.W.Frag} {H : Hp} {a : Addr} {xs : List V} (h : SqT K H a xs) : TyX K H (.ref a) (.type "tuple") := by
  rcases h with (h | ⟨o, h⟩) | ⟨o, its, n, h1, h2, _⟩
  · exact .base (.tup h)
  · exact .fTuple h
  · exact .kTuple h1 h2
theorem sqT_frL {K : PySem.W.Frag} {H H' : Hp} {a p : Addr} {xs ys : List V} (h : SqT K H a xs) (hp : H p = some (.lst ys)) (f : Fr p H H') : SqT K H' a xs := by
  rcases h with (h | ⟨o, h⟩) | h
  · exact .inl (.inl (f _ _ (ne_of h hp (by intro z; cases z)) h))
  · exact .inl (.inr ⟨o, f _ _ (ne_of h hp (by intro z; cases z)) h⟩)
  · exact .inr h
theorem sqT_fr {K : PySem.W.Frag} {H H' : Hp} {a p : Addr} {n : Nat} {xs : List V} (h : SqT K H a xs) (B : BoxAt H p n) (f : Fr p H H') : SqT K H' a xs := by
  obtain ⟨i, j, k, hp, _⟩ := B
  exact sqT_frL h hp f
theorem fr_upd {p : Addr} {H : Hp} {o : HO} : Fr p H (upd H p o) := Fr.put Fr.refl
theorem BoxAt.upd {H : Hp} {p D : Addr} {n : Nat} {o : HO} (h : BoxAt H p n) (ne : D ≠ p) : BoxAt (L2.upd H D o) p n := by
  obtain ⟨a, b, c, h1, h2⟩ := h
  exact ⟨a, b, c, by rw [upd_ne ne.symm]; exact h1, h2⟩
def rq (t b : Int) : Rat := (t : Rat) / (b : Rat)
theorem rat_nd (q : Rat) : (q.num : Rat) / ((q.den : Int) : Rat) = q := by rw [← Rat.divInt_eq_div, Rat.num_divInt_den]
theorem den_ne (q : Rat) : ((q.den : Int) : Rat) ≠ 0 := by
  intro h
  have k := q.den_pos
  have h2 : ((q.den : Int) : Rat) = ((0 : Int) : Rat) := h
  have e := Rat.intCast_inj.mp h2
  omega
theorem den_ne' (q : Rat) : (q.den : Int) ≠ 0 := by
  have k := q.den_pos
  omega
theorem int_ne {b : Int} (h : b ≠ 0) : (b : Rat) ≠ 0 := fun z => h (Rat.intCast_inj.mp (z.trans (by rfl : (0 : Rat) = ((0 : Int) : Rat))))
theorem rat_low (q : Rat) : IsLow q.num q.den := ⟨by have k := q.den_pos; omega, by rw [Int.natAbs_natCast]; exact q.reduced⟩
theorem rq_cross {t b : Int} (hb : b ≠ 0) : t * ((rq t b).den : Int) = (rq t b).num * b := by
  have e := rat_nd (rq t b)
  have h1 := den_ne (rq t b)
  have h2 := int_ne hb
  refine Rat.intCast_inj.mp ?_
  rw [Rat.intCast_mul, Rat.intCast_mul]
  generalize ((rq t b).den : Int) = d at *
  generalize (rq t b).num = n at *
  unfold rq at e
  grind
theorem rq_low {t b : Int} (hb : b ≠ 0) : low t b = ((rq t b).num, ((rq t b).den : Int)) := low_eq hb (rat_low _) (rq_cross hb)
theorem cast_pos {b : Int} (h : 0 < b) : (0 : Rat) < (b : Rat) := (Rat.intCast_lt_intCast (a := 0)).mpr h
theorem cast_nn {b : Int} (h : 0 ≤ b) : (0 : Rat) ≤ (b : Rat) := (Rat.intCast_le_intCast (a := 0)).mpr h
theorem le_div {a b c : Rat} (h : 0 < c) (k : a * c ≤ b) : a ≤ b / c := Rat.not_lt.mp fun z => absurd ((Rat.div_lt_iff h).mp z) (Rat.not_lt.mpr k)
theorem div_le {a b c : Rat} (h : 0 < c) (k : b ≤ a * c) : b / c ≤ a := Rat.not_lt.mp fun z => absurd ((Rat.lt_div_iff h).mp z) (Rat.not_lt.mpr k)
theorem rq_nn {t b : Int} (ht : 0 ≤ t) (hb : 0 < b) : 0 ≤ rq t b := by
  have h1 := cast_nn ht
  have h2 := cast_pos hb
  unfold rq
  generalize (t : Rat) = x at *
  generalize (b : Rat) = y at *
  exact le_div h2 (by grind)
theorem rq_pos {t b : Int} (ht : 0 < t) (hb : 0 < b) : 0 < rq t b := by
  have h1 := cast_pos ht
  have h2 := cast_pos hb
  unfold rq
  generalize (t : Rat) = x at *
  generalize (b : Rat) = y at *
  exact (Rat.lt_div_iff h2).mpr (by grind)
theorem rq_lt_one {t b : Int} (ht : t < b) (hb : 0 < b) : rq t b < 1 := by
  have h1 := Rat.intCast_lt_intCast.mpr ht
  have h2 := cast_pos hb
  unfold rq
  generalize (t : Rat) = x at *
  generalize (b : Rat) = y at *
  exact (Rat.div_lt_iff h2).mpr (by grind)
theorem rq_le_one {t b : Int} (ht : t ≤ b) (hb : 0 < b) : rq t b ≤ 1 := by
  have h1 := Rat.intCast_le_intCast.mpr ht
  have h2 := cast_pos hb
  unfold rq
  generalize (t : Rat) = x at *
  generalize (b : Rat) = y at *
  exact div_le h2 (by grind)
theorem rq_add (p q : Rat) : rq (p.num * q.den + q.num * p.den) (p.den * q.den) = p + q := by
  have e1 := rat_nd p
  have e2 := rat_nd q
  have h1 := den_ne p
  have h2 := den_ne q
  unfold rq
  rw [Rat.intCast_add, Rat.intCast_mul, Rat.intCast_mul, Rat.intCast_mul]
  generalize ((p.den : Int) : Rat) = d at *
  generalize (p.num : Rat) = n at *
  generalize ((q.den : Int) : Rat) = d2 at *
  generalize (q.num : Rat) = n2 at *
  grind
theorem rq_sub (p q : Rat) : rq (p.num * q.den - q.num * p.den) (p.den * q.den) = p - q := by
  have e1 := rat_nd p
  have e2 := rat_nd q
  have h1 := den_ne p
  have h2 := den_ne q
  unfold rq
  rw [Rat.intCast_sub, Rat.intCast_mul, Rat.intCast_mul, Rat.intCast_mul]
  generalize ((p.den : Int) : Rat) = d at *
  generalize (p.num : Rat) = n at *
  generalize ((q.den : Int) : Rat) = d2 at *
  generalize (q.num : Rat) = n2 at *
  grind
theorem rq_mul (p q : Rat) : rq (p.num * q.num) (p.den * q.den) = p * q := by
  have e1 := rat_nd p
  have e2 := rat_nd q
  have h1 := den_ne p
  have h2 := den_ne q
  unfold rq
  rw [Rat.intCast_mul, Rat.intCast_mul]
  generalize ((p.den : Int) : Rat) = d at *
  generalize (p.num : Rat) = n at *
  generalize ((q.den : Int) : Rat) = d2 at *
  generalize (q.num : Rat) = n2 at *
  grind
theorem rq_div (p q : Rat) : rq (p.num * q.den) (p.den * q.num) = p / q := by
  have e1 := rat_nd p
  have e2 := rat_nd q
  have h1 := den_ne p
  have h2 := den_ne q
  unfold rq
  rw [Rat.intCast_mul, Rat.intCast_mul]
  generalize ((p.den : Int) : Rat) = d at *
  generalize (p.num : Rat) = n at *
  generalize ((q.den : Int) : Rat) = d2 at *
  generalize (q.num : Rat) = n2 at *
  grind
theorem rq_self (q : Rat) : rq q.num q.den = q := rat_nd q
theorem num_ne {q : Rat} (h : q ≠ 0) : q.num ≠ 0 := fun z => h (by
  have e := rat_nd q
  rw [z] at e
  rw [← e]
  grind)
theorem num_zero {q : Rat} : q.num = 0 ↔ q = 0 := ⟨fun z => Classical.byContradiction fun y => num_ne y z, fun z => by rw [z] <;> rfl⟩
theorem num_pos {q : Rat} : 0 < q.num ↔ 0 < q := by
  have k := Rat.lt_iff 0 q
  simp at k
  exact k.symm
theorem num_nn {q : Rat} : 0 ≤ q.num ↔ 0 ≤ q := Rat.num_nonneg
theorem lt_cross (p q : Rat) : (p.num * q.den < q.num * p.den) ↔ p < q := (Rat.lt_iff p q).symm
/-- top and bottom fit so many bits -/
def Sz (n : Nat) (q : Rat) : Prop := q.num.natAbs < 2 ^ n ∧ (q.den : Int).natAbs < 2 ^ n
theorem Sz.up {n m : Nat} {q : Rat} (h : Sz n q) (le : n ≤ m) : Sz m q := ⟨lt_up h.1 le, lt_up h.2 le⟩
theorem sz_rq {t b : Int} {n : Nat} (hb : b ≠ 0) (h1 : t.natAbs < 2 ^ n) (h2 : b.natAbs < 2 ^ n) : Sz n (rq t b) := by
  have k := low_lt h1 h2
  rw [rq_low hb] at k
  exact k
theorem Sz.int {z : Int} {n : Nat} (h : z.natAbs < 2 ^ n) (h0 : 0 < n) : Sz n (z : Rat) := ⟨h, Nat.lt_of_lt_of_le (by decide : (1 : Nat) < 2 ^ 1) (Nat.pow_le_pow_right (by decide) h0)⟩
theorem Sz.neg {n : Nat} {q : Rat} (h : Sz n q) : Sz n (-q) := ⟨by
  show (-q.num).natAbs < 2 ^ n
  rw [Int.natAbs_neg]
  exact h.1, h.2⟩
/-- a fraction that is read -/
def FrQ (K : PySem.W.Frag) (H : Hp) (x : Addr) (q : Rat) : Prop := SqT K H x [.int q.num, .int (q.den : Int)]
theorem FrQ.same {K : PySem.W.Frag} {H H' : Hp} {x : Addr} {q : Rat} (h : FrQ K H x q) (s : Same H H') : FrQ K H' x q := Same.tup s h
theorem FrQ.fr {K : PySem.W.Frag} {H H' : Hp} {x p : Addr} {n : Nat} {q : Rat} (h : FrQ K H x q) (B : BoxAt H p n) (f : Fr p H H') : FrQ K H' x q := sqT_fr h B f
theorem FrQ.of {K : PySem.W.Frag} {H : Hp} {x : Addr} {q : Rat} (h : H x = some (.tup [.int q.num, .int (q.den : Int)])) : FrQ K H x q := SqT.of h
theorem FrQ.int {K : PySem.W.Frag} {H : Hp} {x : Addr} {z : Int} (h : H x = some (.tup [.int z, .int 1])) : FrQ K H x (z : Rat) := SqT.of h
/-- a juice that is read -/
def JuQ (K : PySem.W.Frag) (H : Hp) (x : Addr) (s w : Rat) : Prop := ∃ a b, SqT K H x [.ref a, .ref b] ∧ FrQ K H a s ∧ FrQ K H b w
theorem JuQ.same {K : PySem.W.Frag} {H H' : Hp} {x : Addr} {s w : Rat} (h : JuQ K H x s w) (e : Same H H') : JuQ K H' x s w := by
  obtain ⟨a, b, h1, h2, h3⟩ := h
  exact ⟨a, b, Same.tup e h1, h2.same e, h3.same e⟩
theorem JuQ.fr {K : PySem.W.Frag} {H H' : Hp} {x p : Addr} {n : Nat} {s w : Rat} (h : JuQ K H x s w) (B : BoxAt H p n) (f : Fr p H H') : JuQ K H' x s w := by
  obtain ⟨a, b, h1, h2, h3⟩ := h
  exact ⟨a, b, sqT_fr h1 B f, h2.fr B f, h3.fr B f⟩
theorem JuQ.new {K : PySem.W.Frag} {H : Hp} {x a b : Addr} {s w : Rat} (h : H x = some (.tup [.ref a, .ref b])) (ha : FrQ K H a s) (hb : FrQ K H b w) : JuQ K H x s w := ⟨a, b, SqT.of h, ha, hb⟩
/-- a new pair of two numbers' lowest terms -/
def sp_lowQ (K : PySem.W.Frag) : Sp := fun vs H Q _ => ∃ (t b : Int) (n : Nat), vs = [.int t, .int b] ∧ b ≠ 0 ∧ t.natAbs < 2 ^ n ∧ b.natAbs < 2 ^ n ∧ n ≤ 2000 ∧ ∀ p H', Same H H' → H p = none → FrQ K H' p (rq t b) → Sz n (rq t b) → Q (.ref p) H'
theorem lowQ {K : PySem.W.Frag} {vs : List V} {H : Hp} {Q : VK} {E : XK} (h : sp_lowQ K vs H Q E) : sp_low vs H Q E := by
  obtain ⟨t, b, n, e, hb, h1, h2, hn, q⟩ := h
  refine ⟨t, b, e, hb, lt_up h1 hn, lt_up h2 hn, fun p H' s hp h' => q p H' s hp ?_ (sz_rq hb h1 h2)⟩
  rw [rq_low hb] at h'
  exact .of h'
/-- two fractions in, one out -/
def sp_q2 (K : PySem.W.Frag) (f : Rat → Rat → Rat) (ok : Rat → Rat → Prop) : Sp := fun vs H Q _ => ∃ (x y : Addr) (p q : Rat) (m n : Nat), vs = [.ref x, .ref y] ∧ FrQ K H x p ∧ FrQ K H y q ∧ Sz m p ∧ Sz n q ∧ m + n ≤ 1900 ∧ ok p q ∧
  ∀ z H', Same H H' → H z = none → FrQ K H' z (f p q) → Sz (m + n + 1) (f p q) → Q (.ref z) H'
def sp_less (K : PySem.W.Frag) : Sp := fun vs H Q _ => ∃ (x y : Addr) (p q : Rat), vs = [.ref x, .ref y] ∧ FrQ K H x p ∧ FrQ K H y q ∧ Sz 1900 p ∧ Sz 1900 q ∧ Q (.bl (decide (p < q))) H
theorem mulZ {i j : Int} {a b : Nat} (ha : i.natAbs < 2 ^ a) (hb : j.natAbs < 2 ^ b) (h : a + b ≤ 100000) : IntMulOk i j :=
  mulW (lt_up ha (by omega : a ≤ a + 1)) (lt_up hb (by omega : b ≤ b + 1)) (by omega) (by omega) (by omega)
/-! data of the law's own making, tuples of the written part among them -/
inductive Dk (K : PySem.W.Frag) (H : Hp) : Nat → V → PyData → Prop
  | non (n : Nat) : Dk K H (n + 1) .non .none
  | bl (n : Nat) (b : Bool) : Dk K H (n + 1) (.bl b) (.bool b)
  | int (n : Nat) (i : Int) : Dk K H (n + 1) (.int i) (.int i)
  | str (n : Nat) (x : Str) (ok : PyData.canLay0 (.str x) = true) : Dk K H (n + 1) (.str x) (.str x)
  | lst {n : Nat} {a : Addr} {xs : List V} {ds : List PyData} : H a = some (.lst xs) → xs.length = ds.length → xs.length ≤ 100000 → (∀ (i : Nat) (x : V) (d : PyData), xs[i]? = some x → ds[i]? = some d → Dk K H n x d) → Dk K H (n + 1) (.ref a) (.list ds)
  | tup {n : Nat} {a : Addr} {xs : List V} {ds : List PyData} : SqT K H a xs → xs.length = ds.length → xs.length ≤ 100000 → (∀ (i : Nat) (x : V) (d : PyData), xs[i]? = some x → ds[i]? = some d → Dk K H n x d) → Dk K H (n + 1) (.ref a) (.tuple ds)
theorem Dk.same {K : PySem.W.Frag} {H H' : Hp} (s : Same H H') : ∀ {n : Nat} {v : V} {d : PyData}, Dk K H n v d → Dk K H' n v d := by
  intro n v d h
  induction h with
  | non n => exact .non n
  | bl n b => exact .bl n b
  | int n i => exact .int n i
  | str n x ok => exact .str n x ok
  | lst h1 h2 h3 _ ih => exact .lst (s _ _ h1) h2 h3 ih
  | tup h1 h2 h3 _ ih => exact .tup (Same.tup s h1) h2 h3 ih
theorem Dk.up {K : PySem.W.Frag} {H : Hp} {n m : Nat} {v : V} {d : PyData} (h : Dk K H n v d) : n ≤ m → Dk K H m v d := by
  intro le
  induction h generalizing m with
  | non n => obtain ⟨k, rfl⟩ : ∃ k, m = k + 1 := ⟨m - 1, by omega⟩; exact .non k
  | bl n b => obtain ⟨k, rfl⟩ : ∃ k, m = k + 1 := ⟨m - 1, by omega⟩; exact .bl k b
  | int n i => obtain ⟨k, rfl⟩ : ∃ k, m = k + 1 := ⟨m - 1, by omega⟩; exact .int k i
  | str n x ok => obtain ⟨k, rfl⟩ : ∃ k, m = k + 1 := ⟨m - 1, by omega⟩; exact .str k x ok
  | lst h1 h2 h3 _ ih => obtain ⟨k, rfl⟩ : ∃ k, m = k + 1 := ⟨m - 1, by omega⟩; exact .lst h1 h2 h3 fun i x d a b => ih i x d a b (by omega)
  | tup h1 h2 h3 _ ih => obtain ⟨k, rfl⟩ : ∃ k, m = k + 1 := ⟨m - 1, by omega⟩; exact .tup h1 h2 h3 fun i x d a b => ih i x d a b (by omega)
/-- rows of data beside their values -/
def DkAll (K : PySem.W.Frag) (H : Hp) (n : Nat) (xs : List V) (ds : List PyData) : Prop := xs.length = ds.length ∧ ∀ (i : Nat) (x : V) (d : PyData), xs[i]? = some x → ds[i]? = some d → Dk K H n x d
theorem DkAll.nil {K : PySem.W.Frag} {H : Hp} {n : Nat} : DkAll K H n [] [] := ⟨rfl, fun i x d h => by simp at h⟩
theorem DkAll.cons {K : PySem.W.Frag} {H : Hp} {n : Nat} {x : V} {d : PyData} {xs : List V} {ds : List PyData} (h : Dk K H n x d) (t : DkAll K H n xs ds) : DkAll K H n (x :: xs) (d :: ds) :=
  ⟨by rw [List.length_cons, List.length_cons, t.1], fun i u v hu hv => match i, hu, hv with
    | 0, hu, hv => by cases hu; cases hv; exact h
    | i + 1, hu, hv => t.2 i u v hu hv⟩
theorem DkAll.tup {K : PySem.W.Frag} {H : Hp} {n : Nat} {xs : List V} {ds : List PyData} {a : Addr} (t : DkAll K H n xs ds) (h : SqT K H a xs) (z : Nat.ble xs.length 100000 = true := by rfl) : Dk K H (n + 1) (.ref a) (.tuple ds) := .tup h t.1 (Nat.le_of_ble_eq_true z) t.2
theorem DkAll.lst {K : PySem.W.Frag} {H : Hp} {n : Nat} {xs : List V} {ds : List PyData} {a : Addr} (t : DkAll K H n xs ds) (h : H a = some (.lst xs)) (z : Nat.ble xs.length 100000 = true := by rfl) : Dk K H (n + 1) (.ref a) (.list ds) := .lst h t.1 (Nat.le_of_ble_eq_true z) t.2
/-- the data of a fraction, of a juice -/
def dq (q : Rat) : PyData := .tuple [.int q.num, .int (q.den : Int)]
def dj (s w : Rat) : PyData := .tuple [dq s, dq w]
theorem FrQ.dk {K : PySem.W.Frag} {H : Hp} {x : Addr} {q : Rat} (h : FrQ K H x q) (n : Nat := 0) : Dk K H (n + 2) (.ref x) (dq q) := DkAll.tup (.cons (.int _ _) (.cons (.int _ _) .nil)) h
theorem JuQ.dk {K : PySem.W.Frag} {H : Hp} {x : Addr} {s w : Rat} (h : JuQ K H x s w) (n : Nat := 0) : Dk K H (n + 3) (.ref x) (dj s w) := by
  obtain ⟨a, b, h1, h2, h3⟩ := h
  exact DkAll.tup (.cons (h2.dk n) (.cons (h3.dk n) .nil)) h1
/-- forty figures -/
theorem b133 {n : Nat} (h : n < 10 ^ 40) : n < 2 ^ 133 := Nat.lt_trans h (by decide)
/-- a fraction or None -/
def OQ (K : PySem.W.Frag) (H : Hp) (v : V) : Option Rat → Prop
  | none => v = .non
  | some q => ∃ x, v = .ref x ∧ FrQ K H x q
theorem OQ.same {K : PySem.W.Frag} {H H' : Hp} {v : V} {o : Option Rat} (h : OQ K H v o) (e : Same H H') : OQ K H' v o := by
  cases o with
  | none => exact h
  | some q =>
    obtain ⟨x, e1, h1⟩ := h
    exact ⟨x, e1, h1.same e⟩
def oq : Option Rat → PyData
  | none => .none
  | some q => dq q
theorem OQ.dk {K : PySem.W.Frag} {H : Hp} {v : V} {o : Option Rat} (h : OQ K H v o) (n : Nat := 0) : Dk K H (n + 2) v (oq o) := by
  cases o with
  | none => rw [show v = .non from h]; exact .non _
  | some q =>
    obtain ⟨x, e1, h1⟩ := h
    rw [e1]
    exact h1.dk n
/-- the strength of a juice -/
def stren (s w : Rat) : Option Rat := if s + w = 0 then none else some (s / (s + w))
theorem stren_part {s w t : Rat} (h : t ≠ 0) : stren (s * t) (w * t) = stren s w := by
  unfold stren
  by_cases c : s + w = 0
  · rw [if_pos c, if_pos (by grind)]
  · rw [if_neg c, if_neg (by grind)]
    congr 1
    grind
theorem stren_more {s w t : Rat} (h : 0 ≤ t) : stren (s + s * t) (w + w * t) = stren s w := by
  have e1 : s + s * t = s * (1 + t) := by grind
  have e2 : w + w * t = w * (1 + t) := by grind
  rw [e1, e2]
  exact stren_part (by grind)
theorem strength_between {s w x y : Rat} (hs : 0 ≤ s) (hw : 0 ≤ w) (hx : 0 ≤ x) (hy : 0 ≤ y) (h1 : s + w ≠ 0) (h2 : x + y ≠ 0) (le : s / (s + w) ≤ x / (x + y)) :
    s / (s + w) ≤ (s + x) / (s + x + (w + y)) ∧ (s + x) / (s + x + (w + y)) ≤ x / (x + y) := by
  have p1 : 0 < s + w := by grind
  have p2 : 0 < x + y := by grind
  have p3 : 0 < s + x + (w + y) := by grind
  generalize ea : s / (s + w) = a at *
  generalize eb : x / (x + y) = b at *
  have sa : s = a * (s + w) := by grind
  have xb : x = b * (x + y) := by grind
  have d : 0 ≤ b - a := by grind
  constructor
  · refine le_div p3 ?_
    have k := Rat.mul_nonneg d (Rat.le_of_lt p2)
    grind
  · refine div_le p3 ?_
    have k := Rat.mul_nonneg d (Rat.le_of_lt p1)
    grind
theorem is_zero {q : Rat} : decide (q.num = 0 ∧ (q.den : Int) = 1) = decide (q = 0) := by
  rw [decide_eq_decide]
  constructor
  · rintro ⟨h, _⟩
    exact num_zero.mp h
  · rintro rfl
    exact ⟨rfl, rfl⟩
/-- boiling -/
def wat (s u : Rat) : Rat := s / u - s
def boil (s w : Rat) (f : Int) (u h : Rat) : Rat := if wat s u < w then (if w - f * h < wat s u then wat s u else w - f * h) else w
theorem rq_wat (s u : Rat) (hu : u ≠ 0) : rq (s.num * ((u.den : Int) - u.num)) (s.den * u.num) = wat s u := by
  have e1 := rat_nd s
  have e2 := rat_nd u
  have h1 := den_ne s
  have h2 := den_ne u
  have h3 := int_ne (num_ne hu)
  unfold rq wat
  rw [Rat.intCast_mul, Rat.intCast_mul, Rat.intCast_sub]
  generalize ((s.den : Int) : Rat) = d at *
  generalize (s.num : Rat) = n at *
  generalize ((u.den : Int) : Rat) = d2 at *
  generalize (u.num : Rat) = n2 at *
  rw [← e1, ← e2]
  grind
theorem Sz.add {m n : Nat} {p q : Rat} (h : Sz m p) (k : Sz n q) : Sz (m + n + 1) (p + q) := by
  rw [← rq_add]
  exact sz_rq (Int.mul_ne_zero (den_ne' p) (den_ne' q)) (lt_up (add_lt (wide_lt h.1 k.2) (lt_up (wide_lt k.1 h.2) (by omega : n + m ≤ m + n))) (by omega)) (lt_up (wide_lt h.2 k.2) (by omega))
theorem Sz.sub {m n : Nat} {p q : Rat} (h : Sz m p) (k : Sz n q) : Sz (m + n + 1) (p - q) := by
  rw [← rq_sub]
  exact sz_rq (Int.mul_ne_zero (den_ne' p) (den_ne' q)) (lt_up (sub_lt (wide_lt h.1 k.2) (lt_up (wide_lt k.1 h.2) (by omega : n + m ≤ m + n))) (by omega)) (lt_up (wide_lt h.2 k.2) (by omega))
theorem Sz.mul {m n : Nat} {p q : Rat} (h : Sz m p) (k : Sz n q) : Sz (m + n) (p * q) := by
  rw [← rq_mul]
  exact sz_rq (Int.mul_ne_zero (den_ne' p) (den_ne' q)) (wide_lt h.1 k.1) (wide_lt h.2 k.2)
theorem Sz.wat {m n : Nat} {s u : Rat} (h : Sz m s) (k : Sz n u) (hu : u ≠ 0) : Sz (m + n + 1) (wat s u) := by
  rw [← rq_wat s u hu]
  exact sz_rq (Int.mul_ne_zero (den_ne' s) (num_ne hu)) (lt_up (wide_lt h.1 (sub_lt k.2 k.1)) (by omega)) (lt_up (wide_lt h.2 k.1) (by omega))
theorem Sz.boil {a b c n N : Nat} {s w u h : Rat} {f : Int} (zs : Sz a s) (zu : Sz n u) (hu : u ≠ 0) (zw : Sz b w) (zh : Sz c h) (hf : f.natAbs < 2 ^ 14) (h1 : a + n + 1 ≤ N) (h2 : b + (14 + c) + 1 ≤ N) : Sz N (KR.boil s w f u h) := by
  unfold KR.boil
  split
  · split
    · exact (Sz.wat zs zu hu).up h1
    · exact (Sz.sub zw (Sz.mul (Sz.int hf (by decide)) zh)).up h2
  · exact zw.up (by omega)
theorem boil_zero {s w u : Rat} {f : Int} : boil s w f u 0 = w := by
  unfold boil
  rw [Rat.mul_zero]
  split <;> grind
theorem boil_boil {s w u h k : Rat} {f : Int} (hf : 0 ≤ f) (hh : 0 ≤ h) (hk : 0 ≤ k) : boil s (boil s w f u h) f u k = boil s w f u (h + k) := by
  have f0 := cast_nn hf
  have a0 := Rat.mul_nonneg f0 hh
  have b0 := Rat.mul_nonneg f0 hk
  unfold boil
  rw [Rat.mul_add]
  generalize (f : Rat) * h = a at *
  generalize (f : Rat) * k = b at *
  generalize wat s u = L
  grind
theorem boil_fire {s w u h : Rat} {f g : Int} (hf : f ≤ g) (hh : 0 ≤ h) : boil s w g u h ≤ boil s w f u h := by
  have k := Rat.mul_nonneg (cast_nn (show 0 ≤ g - f by omega)) hh
  rw [Rat.intCast_sub] at k
  unfold boil
  generalize wat s u = L
  have e : ((g : Rat) - (f : Rat)) * h = (g : Rat) * h - (f : Rat) * h := by grind
  rw [e] at k
  generalize (f : Rat) * h = a at *
  generalize (g : Rat) * h = b at *
  grind
theorem boil_two {s w u h : Rat} {f : Int} : boil (s + s) (w + w) (2 * f) u h = boil s w f u h + boil s w f u h := by
  unfold boil
  have e : wat (s + s) u = wat s u + wat s u := by
    unfold wat
    grind
  rw [e, Rat.intCast_mul]
  have e2 : ((2 : Int) : Rat) * (f : Rat) * h = (f : Rat) * h + (f : Rat) * h := by
    have e3 : ((2 : Int) : Rat) = 2 := rfl
    rw [e3]
    grind
  rw [e2]
  generalize (f : Rat) * h = a at *
  generalize wat s u = L at *
  grind
theorem Sz.div {m n : Nat} {p q : Rat} (h : Sz m p) (k : Sz n q) (hq : q ≠ 0) : Sz (m + n) (p / q) := by
  rw [← rq_div]
  exact sz_rq (Int.mul_ne_zero (den_ne' p) (num_ne hq)) (wide_lt h.1 k.2) (wide_lt h.2 k.1)
theorem rq_divi (r : Rat) (f : Int) : rq r.num (r.den * f) = r / (f : Rat) := by
  have e := rq_div r (f : Rat)
  rw [← e]
  show rq r.num (r.den * f) = rq (r.num * 1) (r.den * f)
  rw [Int.mul_one]
theorem FrQ.dp {K : PySem.W.Frag} {H : Hp} {x : Addr} {q : Rat} (h : FrQ K H x q) : Dp K H (.ref x) (dq q) := .tup h (.cons (.int _) (.cons (.int _) .nil))
theorem JuQ.dp {K : PySem.W.Frag} {H : Hp} {x : Addr} {s w : Rat} (h : JuQ K H x s w) : Dp K H (.ref x) (dj s w) := by
  obtain ⟨a, b, h1, h2, h3⟩ := h
  exact .tup h1 (.cons h2.dp (.cons h3.dp .nil))
theorem eqv_dq (a b : Rat) : PyData.eqv (dq a) (dq b) = decide (a = b) := by
  refine eqv_pair.trans ?_
  rw [decide_eq_decide]
  constructor
  · rintro ⟨h1, h2⟩
    exact Rat.ext h1 (by omega)
  · rintro rfl
    exact ⟨rfl, rfl⟩
theorem OQ.dp {K : PySem.W.Frag} {H : Hp} {v : V} {o : Option Rat} (h : OQ K H v o) : Dp K H v (oq o) := by
  cases o with
  | none => rw [show v = .non from h]; exact .non
  | some q =>
    obtain ⟨x, e1, h1⟩ := h
    rw [e1]
    exact h1.dp
theorem oq_fit (o : Option Rat) : PyData.canLay0 (oq o) = true ∧ PyData.depth (oq o) ≤ 60 := by
  cases o with
  | none => exact ⟨rfl, by decide⟩
  | some q => exact ⟨rfl, by show 1 ≤ 60; decide⟩
/-- when a juice is ready -/
def ready (s w : Rat) (f : Int) (u : Rat) : Option Rat := if s = 0 then none else if wat s u < w then (if f = 0 then none else some ((w - wat s u) / (f : Rat))) else some 0
theorem wat_nn {s u : Rat} (hs : 0 ≤ s) (u0 : 0 < u) (u1 : u < 1) : 0 ≤ wat s u := by
  have k := Rat.mul_nonneg hs (show 0 ≤ 1 - u by grind)
  have h : s ≤ s / u := le_div u0 (by grind)
  unfold wat
  grind
theorem on_way {s w u : Rat} {f : Int} (hs : 0 < s) (u0 : 0 < u) (u1 : u < 1) (hf : 0 < f) (lt : wat s u < w) {t : Rat} (et : t = (w - wat s u) / (f : Rat)) :
    boil s w f u t = wat s u ∧ stren s (wat s u) = some u ∧ 0 < t ∧ ∀ h : Rat, 0 < h → (boil s w f u (t + h) = wat s u ∧ (h ≤ 1 → ∃ q, stren s (boil s w f u (t * h)) = some q ∧ (q = u ↔ h = 1) ∧ ready s (boil s w f u (t * h)) f u = some (t - t * h))) := by
  have f0 := cast_pos hf
  have fne : (f : Rat) ≠ 0 := by grind
  have ft : (f : Rat) * t = w - wat s u := by rw [et]; grind
  have wn := wat_nn (Rat.le_of_lt hs) u0 u1
  have tp : 0 < t := by
    rw [et]
    exact (Rat.lt_div_iff f0).mpr (by grind)
  refine ⟨?_, ?_, tp, fun h hh => ⟨?_, fun h1 => ?_⟩⟩
  · unfold boil
    rw [ft]
    grind
  · have e : s + wat s u = s / u := by
      unfold wat
      grind
    have ne : s / u ≠ 0 := by grind
    unfold stren
    rw [e, if_neg ne]
    congr 1
    grind
  · have k := Rat.mul_pos f0 hh
    unfold boil
    rw [Rat.mul_add, ft]
    grind
  · have d : 0 < w - wat s u := by grind
    have k := Rat.mul_nonneg (Rat.le_of_lt d) (show 0 ≤ 1 - h by grind)
    have e : (f : Rat) * (t * h) = (w - wat s u) * h := by rw [← ft]; grind
    have eb : boil s w f u (t * h) = w - (w - wat s u) * h := by
      unfold boil
      rw [e]
      grind
    have xge : wat s u ≤ w - (w - wat s u) * h := by grind
    have sx : s + (w - (w - wat s u) * h) ≠ 0 := by grind
    rw [eb]
    refine ⟨s / (s + (w - (w - wat s u) * h)), if_neg sx, ⟨fun q => ?_, fun q => ?_⟩, ?_⟩
    · have q2 : s = u * (s + (w - (w - wat s u) * h)) := by grind
      have q3 : wat s u = w - (w - wat s u) * h := by
        unfold wat at *
        grind
      have q4 : (w - wat s u) * (1 - h) = 0 := by grind
      have q5 : 1 - h = 0 := by
        rcases Rat.mul_eq_zero.mp q4 with z | z
        · grind
        · exact z
      grind
    · rw [q]
      have e2 : s + (w - (w - wat s u) * 1) = s / u := by
        unfold wat
        grind
      rw [e2]
      grind
    · unfold ready
      rw [if_neg (by grind)]
      by_cases c : wat s u < w - (w - wat s u) * h
      · rw [if_pos c, if_neg (by omega)]
        congr 1
        rw [et]
        grind
      · rw [if_neg c]
        have q4 : (w - wat s u) * (1 - h) = 0 := by grind
        have q5 : 1 - h = 0 := by
          rcases Rat.mul_eq_zero.mp q4 with z | z
          · grind
          · exact z
        have q6 : h = 1 := by grind
        rw [q6]
        congr 1
        grind
/-- a thing is not among those of a tuple -/
def rNoTup (K : PySem.W.Frag) : R2 := fun x y H Q => ∃ d ds, Dp K H x d ∧ Dp K H y (.tuple ds) ∧ PyData.canLay0 d = true ∧ PyData.canLayAll0 ds = true ∧ PyData.depth d ≤ 60 ∧ Q (.bl (!ds.any fun z => PyData.eqv z d)) H
theorem notTup {X : Cx} {K : PySem.W.Frag} (hK : X.K = K) (room : X.A.units + 64 < cLine) : OpR X (compareOp .NotIn) (rNoTup K) := by
  subst hK
  intro pn s0 σ H x y v1 v2 Q I a1 a2 h
  obtain ⟨d, ds, h1, h2, h3, h4, h5, q⟩ := h
  obtain ⟨as1, r1⟩ := Dp.reads I d x v1 h1 a1
  obtain ⟨as2, r2⟩ := Dp.reads I (.tuple ds) y v2 h2 a2
  exact SeqAt.notIn_tuple_reads r2 r1 h4 h3 (by omega) ⟨.bl _, H, I, rfl, q⟩
/-- a juice in, a juice and a share in, two juices in -/
def sp_j2 (K : PySem.W.Frag) : Sp := fun vs H Q _ => ∃ (x y : Addr) (s w s' w' : Rat) (m n : Nat), vs = [.ref x, .ref y] ∧ JuQ K H x s w ∧ JuQ K H y s' w' ∧ Sz m s ∧ Sz m w ∧ Sz n s' ∧ Sz n w' ∧ m + n ≤ 1900 ∧
  ∀ z H', Same H H' → JuQ K H' z (s + s') (w + w') → Sz (m + n + 1) (s + s') → Sz (m + n + 1) (w + w') → Q (.ref z) H'
def sp_jt (K : PySem.W.Frag) (f : Rat → Rat) : Sp := fun vs H Q _ => ∃ (x y : Addr) (s w t : Rat) (m n : Nat), vs = [.ref x, .ref y] ∧ JuQ K H x s w ∧ FrQ K H y t ∧ Sz m s ∧ Sz m w ∧ Sz n t ∧ m + n ≤ 900 ∧ n ≤ 400 ∧
  ∀ z H', Same H H' → JuQ K H' z (s * f t) (w * f t) → Sz (m + n + 10) (s * f t) → Sz (m + n + 10) (w * f t) → Q (.ref z) H'
def sp_vol (K : PySem.W.Frag) : Sp := fun vs H Q _ => ∃ (x : Addr) (s w : Rat) (m : Nat), vs = [.ref x] ∧ JuQ K H x s w ∧ Sz m s ∧ Sz m w ∧ m ≤ 900 ∧ ∀ z H', Same H H' → FrQ K H' z (s + w) → Sz (m + m + 1) (s + w) → Q (.ref z) H'
def sp_str (K : PySem.W.Frag) : Sp := fun vs H Q _ => ∃ (x : Addr) (s w : Rat) (m : Nat), vs = [.ref x] ∧ JuQ K H x s w ∧ Sz m s ∧ Sz m w ∧ m ≤ 600 ∧ ∀ v H', Same H H' → OQ K H' v (stren s w) → (∀ q, stren s w = some q → Sz (3 * m + 2) q) → Q v H'
end KR
/-! ### walks over things that may be lists or tuples: for, enumerate, zip -/
namespace KR
open PySem PySem.Spec PyProof.Rows L2
/-- a list, or a tuple -/
def SqB (K : PySem.W.Frag) (H : Hp) (a : Addr) (xs : List V) : Bool → Prop
  | true => SqL K H a xs
  | false => SqT K H a xs
def ItB (h : Heap) (it a : Addr) (i : Nat) : Bool → Prop
  | true => h.IsListIter it a i
  | false => h.IsTupleIter it a i
def IsB (h : Heap) (a : Addr) (items : Array Value) : Bool → Prop
  | true => h.IsList a items
  | false => h.IsTuple a items
def objB (a : Addr) : Bool → Obj
  | true => { cls := .type "list_iterator", data := .fields #[.ref a, .int 0 0] }
  | false => { cls := .type "tuple_iterator", data := .fields #[.ref a, .int 0 0] }
theorem SqB.same {K : PySem.W.Frag} {H H' : Hp} {a : Addr} {xs : List V} {b : Bool} (h : SqB K H a xs b) (s : Same H H') : SqB K H' a xs b := by
  cases b with
  | true => exact s.seq h
  | false => exact Same.tup s h
theorem draws_b {prog : Program} {w : World} {A : Around} (hh : A.handled = none) (it a : Addr) (ne : a ≠ it) (items : Array Value) (b : Bool) :
    Draws prog w A it [it, a] items.size (fun i v => items[i]? = some v) (fun i h => ItB h it a i b ∧ IsB h a items b) := by
  cases b with
  | true => exact Draws.list hh it a ne items
  | false => exact Draws.tuple hh it a ne items
theorem begins_b (a : Addr) (items : Array Value) (b : Bool) : Begins (.ref a) (objB a b) fun h => IsB h a items b := by
  cases b with
  | true => exact begins_list a items
  | false => exact begins_tuple a items
theorem first_b {h : Heap} {it a : Addr} {b : Bool} (e : h.get? it = some (objB a b)) : ItB h it a 0 b := by
  cases b with
  | true => exact ⟨_, e, rfl, rfl⟩
  | false => exact ⟨_, e, rfl, rfl⟩
theorem ItB.obj {h : Heap} {it a : Addr} {i : Nat} {b : Bool} (t : ItB h it a i b) : ∃ o, h.get? it = some o ∧ ∀ v, o.data ≠ .cell v := by
  cases b with
  | true =>
    obtain ⟨o, e, _, d⟩ := t
    exact ⟨o, e, fun v q => by rw [d] at q; cases q⟩
  | false =>
    obtain ⟨o, e, _, d⟩ := t
    exact ⟨o, e, fun v q => by rw [d] at q; cases q⟩
theorem ItB.keep {h h' : Heap} {it a : Addr} {i : Nat} {b : Bool} (t : ItB h it a i b) (k : ∀ o, h.get? it = some o → h'.get? it = some o) : ItB h' it a i b := by
  cases b with
  | true =>
    obtain ⟨o, e, r⟩ := t
    exact ⟨o, k _ e, r⟩
  | false =>
    obtain ⟨o, e, r⟩ := t
    exact ⟨o, k _ e, r⟩
section
variable {X : Cx} {pins : List (Addr × Obj)} {σ : L2.St} {H : Hp} {s : Shared} {a : Addr} {xs ys : List V} {b : Bool}
theorem inv_b (I : Inv X pins σ H s) (h : SqB X.K H a xs b) : ∃ its : List Value, Vals xs its ∧ IsB s.heap a its.toArray b ∧ a < s.heap.objs.size := by
  cases b with
  | true =>
    obtain ⟨its, rv, p, _⟩ := I.list h
    exact ⟨its, rv, p.isList, p.lt⟩
  | false =>
    obtain ⟨its, rv, p, _⟩ := I.tuple h
    obtain ⟨o, e, _⟩ := id p
    exact ⟨its, rv, p, Heap.lt_size e⟩
theorem inj_b (I : Inv X pins σ H s) (h : SqB X.K H a xs b) (k : SqB X.K H a ys b) : xs = ys := by
  cases b with
  | true => exact I.list_inj h k
  | false => exact I.tuple_inj h k
end
/-- pairs of what two things hold -/
def ItzB (K : PySem.W.Frag) (a b : Addr) (p q : Bool) : It :=
  ⟨fun i H => ∃ (xs ys : List V) (x y : V), SqB K H a xs p ∧ SqB K H b ys q ∧ xs[i]? = some x ∧ ys[i]? = some y,
    fun i H v H' => ∃ T x y, v = .ref T ∧ H T = none ∧ H' = upd H T (.tup [x, y]) ∧ (∀ xs, SqB K H a xs p → xs[i]? = some x) ∧ ∀ ys, SqB K H b ys q → ys[i]? = some y,
    fun i H => ∃ xs ys : List V, SqB K H a xs p ∧ SqB K H b ys q ∧ xs.length = i ∧ ys.length = i⟩
theorem turn_zipB {P : Program} {w : World} {K : PySem.W.Frag} {elts : List Expr} {kk : Nat} {tpos : Pos} {a b : Addr} {p q : Bool} {N : Nat} (la : a < N) (lb : b < N) :
    Turn P w K (.Tuple elts kk tpos) (ItzB K a b p q) [N + 4, N + 2, N + 3, N, N + 1] (N + 4) (fun i h => IsZip h (N + 4) (N + 2) (N + 3) .none ∧ IsTupOf2 h (N + 2) (.ref N) (.ref (N + 1)) ∧ (∃ x y, IsTupOf2 h (N + 3) x y) ∧ ItB h N a i p ∧ ItB h (N + 1) b i q) where
  mem := List.mem_cons_self
  obj := fun i h st c hc => by
    obtain ⟨st1, st2, ⟨x, y, st3⟩, st4, st5⟩ := st
    have cs : c = N + 4 ∨ c = N + 2 ∨ c = N + 3 ∨ c = N ∨ c = N + 1 := by simpa using hc
    rcases cs with rfl | rfl | rfl | rfl | rfl
    · exact ⟨_, st1, nofun⟩
    · exact ⟨_, st2, nofun⟩
    · exact ⟨_, st3, nofun⟩
    · exact st4.obj
    · exact st5.obj
  keep := fun i h h' st k => by
    obtain ⟨st1, st2, ⟨x, y, st3⟩, st4, st5⟩ := st
    exact ⟨k _ (by simp) _ st1, k _ (by simp) _ st2, ⟨x, y, k _ (by simp) _ st3⟩, st4.keep (k _ (by simp)), st5.keep (k _ (by simp))⟩
  item := by
    intro X hP hw hK hc i pins s σ H E I hf st hg
    subst hP hw hK
    obtain ⟨st1, st2, ⟨x0, y0, st3⟩, st4, st5⟩ := st
    obtain ⟨xs, ys, x, y, sx, sy, gx, gy⟩ := hg
    obtain ⟨its, rv, ia, _⟩ := inv_b I sx
    obtain ⟨its2, rv2, ib, _⟩ := inv_b I sy
    obtain ⟨u, hu, ru⟩ := rv.get gx
    obtain ⟨u2, hu2, ru2⟩ := rv2.get gy
    have calm : X.A.in1.handled = none := I.ok.hd hc
    have S : ZipSep2 (N + 4) (N + 2) (N + 3) N (N + 1) [N, a] [N + 1, b] := zip_sep2 (fun c z => by rw [List.mem_singleton.mp z]; exact la) (fun c z => by rw [List.mem_singleton.mp z]; exact lb)
    have zlt : N + 4 < s.heap.objs.size := Heap.lt_size st1
    have i1 : i < its.toArray.size := by
      rw [List.size_toArray]
      exact (List.getElem?_eq_some_iff.mp hu).1
    have i2 : i < its2.toArray.size := by
      rw [List.size_toArray]
      exact (List.getElem?_eq_some_iff.mp hu2).1
    refine wpAny_pyNext_zipD2_item S (draws_b calm N a (Nat.ne_of_lt la) its.toArray p) (draws_b calm (N + 1) b (Nat.ne_of_lt (Nat.lt_succ_of_lt lb)) its2.toArray q) st1 st2 st3 ⟨st4, ia⟩ ⟨st5, ib⟩ i1 i2 fun v1 v2 h' tk p1 p2 z' TO' t1' t2' hT hsz hk => ?_
    have p1' : its.toArray[i]? = some v1 := p1
    have p2' : its2.toArray[i]? = some v2 := p2
    rw [List.getElem?_toArray, hu] at p1'
    rw [List.getElem?_toArray, hu2] at p2'
    obtain rfl := Option.some.inj p1'
    obtain rfl := Option.some.inj p2'
    refine ⟨_, rfl, wpAny_letOwnedTupleGo_zip (s := { s with heap := h', toks := tk }) z' fun h'' z'' sb => ?_⟩
    have hT2 : h''.get? s.heap.objs.size = some { cls := .type "tuple", data := .seq #[u, u2] } := (sb.2 _ (Nat.ne_of_gt zlt)).trans hT
    have new : ObjOk X.prog X.w (upd H s.heap.objs.size (.tup [x, y])) h'' s.heap.objs.size (.tup [x, y]) :=
      ⟨small (by show 2 ≤ 100000; decide), [u, u2], .cons ru (.cons ru2 .nil), ⟨_, hT2, rfl, _, rfl⟩⟩
    have out : ∀ {c : Nat}, c ∉ [N + 4, N + 2, N + 3, N, N + 1] → c ≠ N + 4 ∧ c ≠ N + 3 ∧ c ≠ N ∧ c ≠ N + 1 := fun {c} n => ⟨fun q => n (by simp [q]), fun q => n (by simp [q]), fun q => n (by simp [q]), fun q => n (by simp [q])⟩
    have I1 : Inv X pins σ (upd H s.heap.objs.size (.tup [x, y])) { s with heap := h'', toks := tk } :=
      I.turnedNew (t' := tk) (ch := [N + 4, N + 2, N + 3, N, N + 1]) (fun c o hb q => by
        obtain ⟨n1, n2, n3, n4⟩ := out hb
        exact (sb.2 c n1).trans (hk c o n1 n2 n3 n4 q)) hf (Nat.le_refl _) new
    have d1 : (N + 2 : Nat) ≠ N + 4 := by omega
    have d2 : (N + 3 : Nat) ≠ N + 4 := by omega
    have d3 : (N : Nat) ≠ N + 4 := by omega
    have d4 : (N + 1 : Nat) ≠ N + 4 := by omega
    have d5 : (N + 2 : Nat) ≠ N + 3 ∧ (N + 2 : Nat) ≠ N ∧ (N + 2 : Nat) ≠ N + 1 := by omega
    refine ⟨.ref s.heap.objs.size, _, I1, rfl, ⟨_, x, y, rfl, I.hok.fresh (Nat.le_refl _), rfl, fun l hl => by rw [inj_b I hl sx]; exact gx, fun l hl => by rw [inj_b I hl sy]; exact gy⟩, ⟨z'', ?_, ⟨u, u2, ?_⟩, ?_, ?_⟩, fun c hcm => ?_⟩
    · exact (sb.2 _ d1).trans (hk _ _ d1 d5.1 d5.2.1 d5.2.2 st2)
    · exact (sb.2 _ d2).trans TO'
    · exact t1'.1.keep fun o e => (sb.2 _ d3).trans e
    · exact t2'.1.keep fun o e => (sb.2 _ d4).trans e
    · have hlt : c < s.heap.objs.size := by
        have cs : c = N + 4 ∨ c = N + 2 ∨ c = N + 3 ∨ c = N ∨ c = N + 1 := by simpa using hcm
        have : (c : Nat) ≤ N + 4 := by
          rcases cs with q | q | q | q | q <;> rw [q]
          · exact Nat.le_refl _
          · exact Nat.add_le_add_left (by decide : 2 ≤ 4) N
          · exact Nat.add_le_add_left (by decide : 3 ≤ 4) N
          · exact Nat.le_add_right _ _
          · exact Nat.add_le_add_left (by decide : 1 ≤ 4) N
        exact Nat.lt_of_le_of_lt this zlt
      rw [upd_ne (Nat.ne_of_lt hlt)]
      exact (hf c hcm).1
  done := by
    intro X hP hw hK hc i pins s σ H E I hf st hg
    subst hP hw hK
    obtain ⟨st1, st2, ⟨x0, y0, st3⟩, st4, st5⟩ := st
    obtain ⟨xs, ys, sx, sy, l1, l2⟩ := hg
    obtain ⟨its, rv, ia, _⟩ := inv_b I sx
    obtain ⟨its2, rv2, ib, _⟩ := inv_b I sy
    have k1 := rv.length
    have k2 := rv2.length
    have calm : X.A.in1.handled = none := I.ok.hd hc
    have S : ZipSep2 (N + 4) (N + 2) (N + 3) N (N + 1) [N, a] [N + 1, b] := zip_sep2 (fun c z => by rw [List.mem_singleton.mp z]; exact la) (fun c z => by rw [List.mem_singleton.mp z]; exact lb)
    have i1 : its.toArray.size = i := by rw [List.size_toArray]; omega
    have i2 : its2.toArray.size = i := by rw [List.size_toArray]; omega
    refine wpAny_pyNext_zipD2_end S (draws_b calm N a (Nat.ne_of_lt la) its.toArray p) (draws_b calm (N + 1) b (Nat.ne_of_lt (Nat.lt_succ_of_lt lb)) its2.toArray q) st1 st2 st3 ⟨st4, ia⟩ ⟨st5, ib⟩ (by omega) (by omega) (by omega) fun h' tk hk => ⟨rfl, ?_⟩
    exact I.turnedL (t' := tk) (ch := [N + 4, N + 2, N + 3, N, N + 1]) (fun c o hb q => hk c o (fun z => hb (by simp [z])) (fun z => hb (by simp [z])) (fun z => hb (by simp [z])) (fun z => hb (by simp [z])) q) hf
  self := fun A i s Q E st h => wpAny_pyIter_zip st.1 h
def iZipB (K : PySem.W.Frag) (ta : TA) : TI := fun σ H R => ta σ H fun vs H1 => ∃ (a b : Addr) (xs ys : List V) (p q : Bool), vs = [.ref a, .ref b] ∧ SqB K H1 a xs p ∧ SqB K H1 b ys q ∧ R (ItzB K a b p q) H1
theorem pi_zipB {X : Cx} {K : PySem.W.Frag} {e e2 : Expr} {ta : TA} {p pos tpos : Pos} {elts : List Expr} {kk : Nat} (hK : X.K = K) (glob : Gl X "zip") (free : X.mg "zip" = none) (args : PA X [e, e2] ta)
    (st : starEach [e, e2] X.env = (false, eval e X.env) :: starEach [e2] X.env := by rfl) (bk : (backTo pos (starEach [e2] X.env)).any (·.1) = false := by rfl) : PI X (.Tuple elts kk tpos) (.Call (.Name "zip" p) [e, e2] [] pos) (iZipB K ta) := by
  subst hK
  constructor
  intro pins s σ H R I ask
  refine Call_ (ld_blt I glob free PyProof.Rows.boot_zip (PyProof.Rows.callWith_type1 (thn (args.run pos pins s σ H _ I ask) ?_) st bk))
  rintro us s1 ⟨vs, H1, I1, rel, a, b, xs, ys, p, q, ev, sx, sy, k⟩
  subst ev
  cases rel with
  | cons r rr =>
    cases rr with
    | cons r' rr =>
      cases rr
      cases r
      cases r'
      have fresh5 : ∀ c, c ∈ [s1.heap.objs.size + 4, s1.heap.objs.size + 2, s1.heap.objs.size + 3, s1.heap.objs.size, s1.heap.objs.size + 1] → FpOk X pins H1 c := fun c hcm => by
        have cs : c = s1.heap.objs.size + 4 ∨ c = s1.heap.objs.size + 2 ∨ c = s1.heap.objs.size + 3 ∨ c = s1.heap.objs.size ∨ c = s1.heap.objs.size + 1 := by simpa using hcm
        have low : s1.heap.objs.size ≤ c := by rcases cs with q | q | q | q | q <;> rw [q] <;> first | exact Nat.le_refl _ | exact Nat.le_add_right _ _
        exact I1.fpOk low (I1.hok.fresh low)
      obtain ⟨its, _, ia, la⟩ := inv_b I1 sx
      obtain ⟨its2, _, ib, lb⟩ := inv_b I1 sy
      refine zip_begins2 (begins_b a its.toArray p) (begins_b b its2.toArray q) ia ib fun h' hz hTI hTO h1 h2 hsz hk => wpAny_pyIter_zip hz ?_
      have I2 : Inv X pins σ H1 { s1 with heap := h' } := I1.kept (t' := s1.toks) hk
      exact ⟨s1.heap.objs.size + 4, [s1.heap.objs.size + 4, s1.heap.objs.size + 2, s1.heap.objs.size + 3, s1.heap.objs.size, s1.heap.objs.size + 1], _, _, H1, rfl, I2, turn_zipB la lb, ⟨hz, hTI, ⟨_, _, hTO⟩, first_b h1, first_b h2⟩, fresh5, k⟩
theorem walk_zipB {K : PySem.W.Frag} {a b : Addr} {xs ys : List V} {p q : Bool} {n : Nat} (hx : xs.length = n) (hy : ys.length = n) :
    Walk (ItzB K a b p q) n (fun H => SqB K H a xs p ∧ SqB K H b ys q) (YPair (fun i => xs[i]?) (fun i => ys[i]?)) where
  goes := fun i H hi g => ⟨xs, ys, xs[i]'(by omega), ys[i]'(by omega), g.1, g.2, List.getElem?_eq_getElem _, List.getElem?_eq_getElem _⟩
  stops := fun H g => ⟨xs, ys, g.1, g.2, hx, hy⟩
  yields := fun i H v H' hi g y => by
    obtain ⟨T, x, y, rfl, hT, e, f1, f2⟩ := y
    exact ⟨T, x, y, rfl, hT, e, f1 _ g.1, f2 _ g.2⟩
/-- what a thing holds, counted -/
def IteB (K : PySem.W.Frag) (a : Addr) (p : Bool) : It :=
  ⟨fun i H => ∃ (xs : List V) (x : V), SqB K H a xs p ∧ xs[i]? = some x, fun i H v H' => ∃ T x, v = .ref T ∧ H T = none ∧ H' = upd H T (.tup [.int (i : Nat), x]) ∧ ∀ xs, SqB K H a xs p → xs[i]? = some x, fun i H => ∃ xs : List V, SqB K H a xs p ∧ xs.length = i⟩
theorem turn_enumB {P : Program} {w : World} {K : PySem.W.Frag} {elts : List Expr} {kk : Nat} {tpos : Pos} {a : Addr} {p : Bool} {N : Nat} (la : a < N) :
    Turn P w K (.Tuple elts kk tpos) (IteB K a p) [N + 1, N] (N + 1) (fun i h => (∃ old, IsEnum h (N + 1) N ((i : Nat) : Int) old) ∧ ItB h N a i p) where
  mem := List.mem_cons_self
  obj := fun i h st c hc => by
    obtain ⟨⟨old, st1⟩, st2⟩ := st
    have cs : c = N + 1 ∨ c = N := by simpa using hc
    rcases cs with rfl | rfl
    · exact ⟨_, st1, nofun⟩
    · exact st2.obj
  keep := fun i h h' st k => by
    obtain ⟨⟨old, st1⟩, st2⟩ := st
    exact ⟨⟨old, k _ (by simp) _ st1⟩, st2.keep (k _ (by simp))⟩
  item := by
    intro X hP hw hK hc i pins s σ H E I hf st hg
    subst hP hw hK
    obtain ⟨⟨old, st1⟩, st2⟩ := st
    obtain ⟨xs, x, sx, gx⟩ := hg
    obtain ⟨its, rv, ia, _⟩ := inv_b I sx
    obtain ⟨u, hu, ru⟩ := rv.get gx
    have calm : X.A.in1.handled = none := I.ok.hd hc
    have elt : N + 1 < s.heap.objs.size := Heap.lt_size st1
    have i1 : i < its.toArray.size := by
      rw [List.size_toArray]
      exact (List.getElem?_eq_some_iff.mp hu).1
    refine wpAny_pyNext_enum_itemC (draws_b calm N a (Nat.ne_of_lt la) its.toArray p) st1 ⟨st2, ia⟩ i1 (Nat.succ_ne_self N) (by
      intro z
      have cs : N + 1 = N ∨ N + 1 = a := by simpa using z
      have : ¬ (N + 1 = N) := Nat.succ_ne_self N
      rcases cs with q | q
      · exact this q
      · have la' : (a : Nat) < N := la
        rw [← q] at la'
        exact Nat.lt_irrefl N (Nat.lt_trans (Nat.lt_succ_self N) la')) fun v h' tk p1 out t1 hT hsz hk => ?_
    have p1' : its.toArray[i]? = some v := p1
    rw [List.getElem?_toArray, hu] at p1'
    obtain rfl := Option.some.inj p1'
    refine ⟨_, rfl, wpAny_letOwnedTupleGo_enum (s := { s with heap := h', toks := tk + 1 }) out fun h'' he' sb => ?_⟩
    have hT2 : h''.get? s.heap.objs.size = some { cls := .type "tuple", data := .seq #[.int i tk, u] } := (sb.2 _ (Nat.ne_of_gt elt)).trans hT
    have new : ObjOk X.prog X.w (upd H s.heap.objs.size (.tup [.int (i : Nat), x])) h'' s.heap.objs.size (.tup [.int (i : Nat), x]) :=
      ⟨small (by show 2 ≤ 100000; decide), [.int i tk, u], .cons ⟨_, rfl⟩ (.cons ru .nil), ⟨_, hT2, rfl, _, rfl⟩⟩
    have I1 : Inv X pins σ (upd H s.heap.objs.size (.tup [.int (i : Nat), x])) { s with heap := h'', toks := tk + 1 } :=
      I.turnedNew (t' := tk + 1) (ch := [N + 1, N]) (fun c o hb q => (sb.2 c (fun z => hb (by simp [z]))).trans (hk c o (fun z => hb (by simp [z])) (fun z => hb (by simp [z])) q)) hf (Nat.le_refl _) new
    refine ⟨.ref s.heap.objs.size, _, I1, rfl, ⟨_, x, rfl, I.hok.fresh (Nat.le_refl _), rfl, fun l hl => by rw [inj_b I hl sx]; exact gx⟩, ⟨⟨u, ?_⟩, ?_⟩, fun c hcm => ?_⟩
    · have e1 : ((i + 1 : Nat) : Int) = (i : Int) + 1 := by omega
      rw [e1]
      exact he'
    · exact t1.1.keep fun o e => (sb.2 _ (Nat.ne_of_lt (Nat.lt_succ_self N))).trans e
    · have hlt : c < s.heap.objs.size := by
        have cs : c = N + 1 ∨ c = N := by simpa using hcm
        rcases cs with q | q <;> rw [q]
        · exact elt
        · exact Nat.lt_trans (Nat.lt_succ_self N) elt
      rw [upd_ne (Nat.ne_of_lt hlt)]
      exact (hf c hcm).1
  done := by
    intro X hP hw hK hc i pins s σ H E I hf st hg
    subst hP hw hK
    obtain ⟨⟨old, st1⟩, st2⟩ := st
    obtain ⟨xs, sx, l1⟩ := hg
    obtain ⟨its, rv, ia, _⟩ := inv_b I sx
    have k1 := rv.length
    have calm : X.A.in1.handled = none := I.ok.hd hc
    have i1 : its.toArray.size = i := by rw [List.size_toArray]; omega
    refine wpAny_pyNext_enum_endD (draws_b calm N a (Nat.ne_of_lt la) its.toArray p) st1 (by rw [i1]; exact ⟨st2, ia⟩) fun h' hx => ⟨rfl, ?_⟩
    exact I.turnedL (t' := s.toks) (ch := [N + 1, N]) (fun c o hb q => hx c o (fun z => hb (by simp [z])) q) hf
  self := fun A i s Q E st h => by
    obtain ⟨⟨old, st1⟩, _⟩ := st
    exact wpAny_pyIter_enum st1 h
theorem enum1_meets {v : Value} {o : Obj} {G : Heap → Prop} (B : Begins v o G) :
    Meets (Builtin.«enumerate.__new__» ⟨[.type "enumerate", v], []⟩) (fun _ R s => G s.heap ∧ R (.ok (.ret (.ref (s.heap.push o).objs.size))) { s with heap := (s.heap.push o).push { cls := .type "enumerate", data := .fields #[.none, .bool false, .ref s.heap.objs.size, rawInt 0, .none, .none] } }) :=
  .of_wp fun prog w A R s ask => by
    obtain ⟨hp, g, d, tk, os⟩ := s; obtain ⟨g1, ask⟩ := ask
    have hsub := sub_enumerate
    have way : ∀ {A' : Around} {E : Value → Shared → Prop} {Q : Value → Shared → Prop}, Q (.ref hp.objs.size) ⟨hp.push o, g, d, tk, os⟩ → wpAny (model prog w) A' (pyIter v) Q E ⟨hp, g, d, tk, os⟩ := fun k => B.iter prog w _ _ ⟨hp, g, d, tk, os⟩ _ g1 k
    wp_walk using way
    refine wpAny_stack_any fun st => wpAny_pure ?_
    split
    · rename_i c _ _ _ _ _
      cases (c == Value.type "enumerate") <;> (wp_walk using way; exact ⟨_, rfl, ask⟩)
    · wp_walk using way
      exact ⟨_, rfl, ask⟩
theorem enum1_begins {prog : Program} {w : World} {A : Around} {E : Value → Shared → Prop} {s : Shared} {v : Value} {o : Obj} {G : Heap → Prop} {Q : Value → Shared → Prop} (B : Begins v o G) (g1 : G s.heap)
    (ask : ∀ h', IsEnum h' (s.heap.objs.size + 1) s.heap.objs.size 0 .none → h'.get? s.heap.objs.size = some o → h'.objs.size = s.heap.objs.size + 2 → (∀ b o, s.heap.get? b = some o → h'.get? b = some o) → Q (.ref (s.heap.objs.size + 1)) { s with heap := h' }) :
    wpAny (model prog w) A (call (.type "enumerate") [v]) Q E s := by
  refine callType_new F.called_enumerate (by decide) (F.typeCall_enumerate_1 _) (F.newCall_enumerate_1 _) (fun obj => F.args_object_init_2 obj _) F.entry_enumerate_new (enum1_meets B) ⟨g1, ?_⟩
  have sz : (s.heap.push o).objs.size = s.heap.objs.size + 1 := Heap.size_push ..
  show _ ∧ _
  rw [sz]
  have he : IsEnum ((s.heap.push o).push { cls := .type "enumerate", data := .fields #[.none, .bool false, .ref s.heap.objs.size, rawInt 0, .none, .none] }) (s.heap.objs.size + 1) s.heap.objs.size 0 .none := by
    have k := Heap.get?_push_size (s.heap.push o) (o := { cls := .type "enumerate", data := .fields #[.none, .bool false, .ref s.heap.objs.size, rawInt 0, .none, .none] }) rfl
    rw [sz] at k; exact k
  exact ⟨⟨_, he, rfl⟩, ask _ he (Heap.get?_push_of_some _ (Heap.get?_push_size _ B.free)) (by rw [Heap.size_push, sz]) fun b o x => Heap.get?_push_of_some _ (Heap.get?_push_of_some _ x)⟩
def iEnumB (K : PySem.W.Frag) (ta : TA) : TI := fun σ H R => ta σ H fun vs H1 => ∃ (a : Addr) (xs : List V) (p : Bool), vs = [.ref a] ∧ SqB K H1 a xs p ∧ R (IteB K a p) H1
theorem pi_enumB {X : Cx} {K : PySem.W.Frag} {e : Expr} {ta : TA} {p pos tpos : Pos} {elts : List Expr} {kk : Nat} (hK : X.K = K) (glob : Gl X "enumerate") (free : X.mg "enumerate" = none) (args : PA X [e] ta) (st : starEach [e] X.env = [(false, eval e X.env)] := by rfl) :
    PI X (.Tuple elts kk tpos) (.Call (.Name "enumerate" p) [e] [] pos) (iEnumB K ta) := by
  subst hK
  constructor
  intro pins s σ H R I ask
  refine Call_ (ld_blt I glob free boot_enumerate (PyProof.Rows.callWith_type1 (thn (args.run pos pins s σ H _ I ask) ?_) st rfl))
  rintro us s1 ⟨vs, H1, I1, rel, a, xs, p, ev, sx, k⟩
  subst ev
  cases rel with
  | cons r rr =>
    cases rr
    cases r
    obtain ⟨its, _, ia, la⟩ := inv_b I1 sx
    refine enum1_begins (begins_b a its.toArray p) ia fun h' he h1 hsz hk => wpAny_pyIter_enum he ?_
    have I2 : Inv X pins σ H1 { s1 with heap := h' } := I1.kept (t' := s1.toks) hk
    refine ⟨s1.heap.objs.size + 1, [s1.heap.objs.size + 1, s1.heap.objs.size], _, _, H1, rfl, I2, turn_enumB la, ⟨⟨.none, he⟩, first_b h1⟩, fun c hcm => ?_, k⟩
    have cs : c = s1.heap.objs.size + 1 ∨ c = s1.heap.objs.size := by simpa using hcm
    have low : s1.heap.objs.size ≤ c := by rcases cs with q | q <;> rw [q] <;> first | exact Nat.le_refl _ | exact Nat.le_add_right _ _
    exact I1.fpOk low (I1.hok.fresh low)
theorem walk_enumB {K : PySem.W.Frag} {a : Addr} {xs : List V} {p : Bool} : Walk (IteB K a p) xs.length (fun H => SqB K H a xs p) (YPair (fun i => some (.int (i : Nat))) (fun i => xs[i]?)) where
  goes := fun i H hi g => ⟨xs, xs[i]'(by omega), g, List.getElem?_eq_getElem _⟩
  stops := fun H g => ⟨xs, g, rfl⟩
  yields := fun i H v H' hi g y => by
    obtain ⟨T, x, rfl, hT, e, f⟩ := y
    exact ⟨T, _, x, rfl, hT, e, rfl, f _ g⟩
/-- for over a list or a tuple -/
def iSeqB (K : PySem.W.Frag) (tl : TE) : TI := fun σ H R => tl σ H fun x H1 => ∃ a, x = .ref a ∧ (((∃ xs, SqL K H1 a xs) ∧ R (Itl K a) H1) ∨ ((∃ xs, SqT K H1 a xs) ∧ R (Itt K a) H1))
theorem pi_seqB {X : Cx} {K : PySem.W.Frag} {tg l : Expr} {tl : TE} (hK : X.K = K) (hl : PE X l tl) : PI X tg l (iSeqB K tl) := by
  subst hK
  constructor
  intro pins s σ H R I ask
  refine thn (hl.run pins s σ H _ I ask) fun v s1 ⟨x, H1, I1, r1, a, e, q⟩ => ?_
  subst e
  have e1 : v = Value.ref a := r1
  subst e1
  rcases q with ⟨⟨xs, sx⟩, k⟩ | ⟨⟨xs, sx⟩, k⟩
  · obtain ⟨its, _, ia, _⟩ := I1.list sx
    refine wpAny_pyIter_list ia.isList ⟨s1.heap.objs.size, [s1.heap.objs.size], _, _, H1, rfl, I1.kept (t' := s1.toks) (fun b o e => Heap.get?_push_of_some _ e), turn_list a _, ⟨_, Heap.get?_push_size _ rfl, rfl, rfl⟩, fun c hc => ?_, k⟩
    rw [List.mem_singleton.mp hc]; exact I1.fpOk (Nat.le_refl _) (I1.hok.fresh (Nat.le_refl _))
  · obtain ⟨its, _, ia, _⟩ := I1.tuple sx
    refine wpAny_pyIter_tuple (show s1.heap.IsTuple a its.toArray from ia) ⟨s1.heap.objs.size, [s1.heap.objs.size], _, _, H1, rfl, I1.kept (t' := s1.toks) (fun b o e => Heap.get?_push_of_some _ e), turn_tuple a _, ⟨_, Heap.get?_push_size _ rfl, rfl, rfl⟩, fun c hc => ?_, k⟩
    rw [List.mem_singleton.mp hc]; exact I1.fpOk (Nat.le_refl _) (I1.hok.fresh (Nat.le_refl _))
/-- one rule for a list and a tuple -/
def ItsB (K : PySem.W.Frag) (a : Addr) : Bool → It
  | true => Itl K a
  | false => Itt K a
def iSeqU (K : PySem.W.Frag) (tl : TE) : TI := fun σ H R => tl σ H fun x H1 => ∃ (a : Addr) (xs : List V) (p : Bool), x = .ref a ∧ SqB K H1 a xs p ∧ R (ItsB K a p) H1
theorem pi_seqU {X : Cx} {K : PySem.W.Frag} {tg l : Expr} {tl : TE} (hK : X.K = K) (hl : PE X l tl) : PI X tg l (iSeqU K tl) := by
  subst hK
  constructor
  intro pins s σ H R I ask
  refine thn (hl.run pins s σ H _ I ask) fun v s1 ⟨x, H1, I1, r1, a, xs, p, e, sx, k⟩ => ?_
  subst e
  have e1 : v = Value.ref a := r1
  subst e1
  cases p with
  | true =>
    obtain ⟨its, _, ia, _⟩ := I1.list sx
    refine wpAny_pyIter_list ia.isList ⟨s1.heap.objs.size, [s1.heap.objs.size], _, _, H1, rfl, I1.kept (t' := s1.toks) (fun b o e => Heap.get?_push_of_some _ e), turn_list a _, ⟨_, Heap.get?_push_size _ rfl, rfl, rfl⟩, fun c hc => ?_, k⟩
    rw [List.mem_singleton.mp hc]; exact I1.fpOk (Nat.le_refl _) (I1.hok.fresh (Nat.le_refl _))
  | false =>
    obtain ⟨its, _, ia, _⟩ := I1.tuple sx
    refine wpAny_pyIter_tuple (show s1.heap.IsTuple a its.toArray from ia) ⟨s1.heap.objs.size, [s1.heap.objs.size], _, _, H1, rfl, I1.kept (t' := s1.toks) (fun b o e => Heap.get?_push_of_some _ e), turn_tuple a _, ⟨_, Heap.get?_push_size _ rfl, rfl, rfl⟩, fun c hc => ?_, k⟩
    rw [List.mem_singleton.mp hc]; exact I1.fpOk (Nat.le_refl _) (I1.hok.fresh (Nat.le_refl _))
theorem walk_seqU {K : PySem.W.Frag} {a : Addr} {xs : List V} {p : Bool} : Walk (ItsB K a p) xs.length (fun H => SqB K H a xs p) (YAt xs) := by
  cases p with
  | true => exact walk_list
  | false => exact walk_tup
end KR
/-! ### days: ladles hour by hour, what each place has taken -/
namespace KR
open PySem PySem.Spec PyProof.Rows L2
theorem minLK {X : Cx} {K : PySem.W.Frag} (hK : X.K = K) (hc : X.calm = true) : CallR X (.builtin "min") (rMin K) := hK ▸ cr_min hc
theorem maxLK {X : Cx} {K : PySem.W.Frag} (hK : X.K = K) (hc : X.calm = true) : CallR X (.builtin "max") (rMax K) := hK ▸ cr_max hc
theorem nuMin3_int (i j k : Int) : nuMin3 (.int i) (.int j) (.int k) = some (.int (min (min i j) k)) := by
  have two : ∀ a b : Int, nuMin2 (.int a) (.int b) = some (.int (min a b)) := fun a b => by
    show some (if decide (b < a) = true then V.int b else V.int a) = _
    by_cases h : b < a
    · rw [decide_eq_true h, if_pos rfl, Int.min_def, if_neg (by omega)]
    · rw [decide_eq_false h, if_neg Bool.false_ne_true, Int.min_def, if_pos (by omega)]
  show (nuMin2 (.int i) (.int j)).bind (fun m => nuMin2 m (.int k)) = _
  rw [two i j]
  exact two _ k
/-! the sum of a list or a tuple of numbers; a part of a list or a tuple -/
theorem sum_intTuple {prog : Program} {w : World} {A : Around} {E : Value → Shared → Prop} {s : Shared} {l : Addr} {xs : Array (Int × Tok)} {Q : Value → Shared → Prop} (hh : A.handled = none) (hl : s.heap.IsTuple l (intItems xs))
    (h : ∀ h' tk t', (∀ b o, s.heap.get? b = some o → h'.get? b = some o) → Q (.int (preSum (numAt xs) xs.size) t') { s with heap := h', toks := tk }) :
    wpAny (model prog w) A (call (.builtin "sum") [.ref l]) Q E s := by
  have hlt : l < s.heap.objs.size := by obtain ⟨_, e, _⟩ := id hl; exact Heap.lt_size e
  refine call_sum_walkG (wpAny_pyIter_tuple hl ?_)
  refine ⟨_, [_, l], [_], _, _, _, numAt xs, rfl, Walks.tuple (A := A.in1) hh s.heap.objs.size l (Nat.ne_of_lt hlt) (intItems xs), ⟨⟨_, Heap.get?_push_size _ rfl, rfl, rfl⟩, hl.push _⟩, fun c hc => ?_, (fun _ _ => intItems_at), fun h' tk t' hk => ?_⟩
  · show c < (s.heap.push _).objs.size
    rw [Heap.size_push]
    rcases List.mem_cons.mp hc with rfl | hc
    · exact Nat.lt_succ_self _
    · rcases List.mem_cons.mp hc with rfl | hc
      · exact Nat.lt_succ_of_lt hlt
      · cases hc
  · have := h h' tk t' fun b o e => hk b o (fun hm => by
      rcases List.mem_cons.mp hm with e1 | hm
      · exact absurd (e1 ▸ Heap.lt_size e) (Nat.lt_irrefl _)
      · cases hm) (Heap.get?_push_of_some _ e)
    simpa [intItems] using this
theorem sum_rawT {prog : Program} {w : World} {A : Around} {E : Value → Shared → Prop} {s : Shared} {l : Addr} {its : List Value} {ns : List Int} {Q : Value → Shared → Prop} (hh : A.handled = none) (hl : s.heap.IsTuple l its.toArray) (hi : IntsAre its ns)
    (h : ∀ h' tk t', (∀ b o, s.heap.get? b = some o → h'.get? b = some o) → Q (.int ns.sum t') { s with heap := h', toks := tk }) : wpAny (model prog w) A (call (.builtin "sum") [.ref l]) Q E s := by
  obtain ⟨xs, e⟩ := hi.allInts.items
  have hn : numsOf (intItems xs).toList = ns := by rw [← e]; exact hi.numsOf
  rw [nums_intItems] at hn
  rw [e] at hl
  refine sum_intTuple hh hl fun h' tk t' hk => ?_
  have := h h' tk t' hk
  rw [preSum_eq, List.take_of_length_le (by simp), hn]; exact this
def rSumB (K : PySem.W.Frag) : List V → Hp → VK → Prop := fun vs H Q => ∃ (a : Addr) (ns : List Int) (p : Bool), vs = [V.ref a] ∧ SqB K H a (ns.map V.int) p ∧ Q (.int ns.sum) H
theorem sumBK {X : Cx} {K : PySem.W.Frag} (hK : X.K = K) (hc : X.calm = true) : CallR X (.builtin "sum") (rSumB K) := by
  subst hK
  intro pins s σ H vs us Q I r h
  obtain ⟨a, ns, p, rfl, hs, q⟩ := h
  cases p with
  | true => exact cr_sum hc pins s σ H _ us Q I r ⟨a, ns, rfl, hs, q⟩
  | false =>
    obtain ⟨its, rv, hl, _⟩ := I.tuple hs
    rw [Vals.ref1 r]
    exact sum_rawT (I.ok.hd hc) hl rv.ints fun h' tk t' hk => ⟨.int _, H, I.kept hk, ⟨_, rfl⟩, q⟩
def rSlB (K : PySem.W.Frag) : V → Option Int → Option Int → Hp → VK → Prop := fun x lo hi H Q => ∃ (a : Addr) (xs : List V) (p : Bool), x = .ref a ∧ SqB K H a xs p ∧ ∀ (c : Addr) (H' : Hp), Same H H' → SqB K H' c (cutV xs lo hi) p → Q (.ref c) H'
theorem cut_whole {xs : List V} {lo hi : Option Int} (h : HT.sIx xs.length 0 lo = 0 ∧ HT.sIx xs.length xs.length hi = xs.length) : cutV xs lo hi = xs := by
  unfold cutV
  rw [h.1, h.2, List.drop_zero, Nat.sub_zero, List.take_length]
theorem slBK {X : Cx} {K : PySem.W.Frag} (hK : X.K = K) : SlR X (rSlB K) := by
  subst hK
  intro pins s σ H x v vl vu lo hi sl Q I rx hs pl pu h
  obtain ⟨a, xs, p, rfl, hx, q⟩ := h
  cases p with
  | true => exact sl_list pins s σ H _ v vl vu lo hi sl Q I rx hs pl pu ⟨a, xs, rfl, hx, fun c hc => q c _ (same_new hc) (SqL.of upd_same)⟩
  | false =>
    refine sl_tupA pins s σ H _ v vl vu lo hi sl Q I rx hs pl pu ⟨a, xs, rfl, hx, fun w => ?_, fun _ c hc => q c _ (same_new hc) (SqT.of upd_same)⟩
    refine q a H (.refl _) ?_
    rw [cut_whole w]
    exact hx
theorem cut_to' {xs : List V} {n : Nat} (h : n ≤ xs.length) : cutV xs none (some (n : Int)) = xs.take n := by
  unfold cutV
  rw [HT.sIx_none, HT.sIx_nat, Nat.min_eq_left h, Nat.sub_zero, List.drop_zero]
theorem same_none' {H H' : Hp} {a : Addr} (s : Same H H') (n : H' a = none) : H a = none := by
  cases e : H a with
  | none => rfl
  | some o =>
    have k := s _ _ e
    rw [n] at k
    cases k
theorem fr_new' {p c : Addr} {H H' : Hp} (F : Fr p H H') (n : H' c = none) (ne : c ≠ p) : H c = none := by
  cases e : H c with
  | none => rfl
  | some o =>
    have k := F _ _ ne e
    rw [n] at k
    cases k
/-! what a day tells -/
structure Dy where
  cs : List Int
  ks : List (Int × List Int)
  ss : List Int
structure DyOk (D : Dy) : Prop where
  h1 : 1 ≤ D.cs.length
  h2 : D.cs.length ≤ 48
  k1 : 1 ≤ D.ks.length
  k2 : D.ks.length ≤ 8
  ts : ∀ k ∈ D.ks, k.2.length = D.cs.length
  sl : D.ss.length = D.cs.length
def csum (D : Dy) (t : Nat) : Int := (D.cs.take t).sum
def kt (D : Dy) (p : Nat) : Int × List Int := D.ks.getD p (0, [])
def tkQ (D : Dy) (t : Nat) (prev : Nat → Int) : Nat → Int
  | 0 => min (prev (D.ks.length - 1)) (prev D.ks.length + D.ss.getD t 0)
  | q + 1 => min (min (if D.ks.length - (q + 1) = 0 then csum D (t + 1) else prev (D.ks.length - (q + 1) - 1)) (prev (D.ks.length - (q + 1)) + (kt D (D.ks.length - (q + 1))).2.getD t 0)) (tkQ D t prev q + (kt D (D.ks.length - (q + 1))).1)
/-- what a place has taken by so many hours -/
def tk (D : Dy) : Nat → Nat → Int
  | 0, _ => 0
  | t + 1, p => tkQ D t (tk D t) (D.ks.length - p)
theorem tk_zero (D : Dy) (p : Nat) : tk D 0 p = 0 := rfl
theorem tk_last (D : Dy) (t : Nat) : tk D (t + 1) D.ks.length = min (tk D t (D.ks.length - 1)) (tk D t D.ks.length + D.ss.getD t 0) := by
  show tkQ D t (tk D t) (D.ks.length - D.ks.length) = _
  rw [Nat.sub_self] <;> rfl
theorem tk_at {D : Dy} {t p : Nat} (h : p < D.ks.length) : tk D (t + 1) p = min (min (if p = 0 then csum D (t + 1) else tk D t (p - 1)) (tk D t p + (kt D p).2.getD t 0)) (tk D (t + 1) (p + 1) + (kt D p).1) := by
  show tkQ D t (tk D t) (D.ks.length - p) = min (min _ _) (tkQ D t (tk D t) (D.ks.length - (p + 1)) + _)
  obtain ⟨q, e⟩ : ∃ q, D.ks.length - p = q + 1 := ⟨D.ks.length - p - 1, by omega⟩
  have e1 : D.ks.length - (q + 1) = p := by omega
  have e2 : D.ks.length - (p + 1) = q := by omega
  rw [e, e2]
  show min (min (if D.ks.length - (q + 1) = 0 then _ else tk D t (D.ks.length - (q + 1) - 1)) (tk D t (D.ks.length - (q + 1)) + (kt D (D.ks.length - (q + 1))).2.getD t 0)) (tkQ D t (tk D t) q + (kt D (D.ks.length - (q + 1))).1) = _
  rw [e1]
/-- what each hour takes at a place -/
def rowI (D : Dy) (p : Nat) : List Int := (List.range D.cs.length).map fun t => tk D (t + 1) p - tk D t p
theorem row_len (D : Dy) (p : Nat) : (rowI D p).length = D.cs.length := by
  unfold rowI
  rw [List.length_map, List.length_range]
theorem row_get {D : Dy} {p t : Nat} (h : t < D.cs.length) : (rowI D p)[t]? = some (tk D (t + 1) p - tk D t p) := by
  unfold rowI
  rw [List.getElem?_map, List.getElem?_range h] <;> rfl
theorem row_sum (D : Dy) (p : Nat) : ∀ t, t ≤ D.cs.length → ((rowI D p).take t).sum = tk D t p := fun t => by
  induction t with
  | zero => intro _; rw [List.take_zero, tk_zero] <;> rfl
  | succ t ih =>
    intro h
    rw [take_one (row_get (by omega)), List.sum_append, ih (by omega), List.sum_cons, List.sum_nil]
    omega
/-! where a day stands -/
def IsB' (K : PySem.W.Frag) (H : Hp) (p a : Addr) (ns : List Int) (b : Bool) : Prop := SqB K H a (ns.map V.int) b ∧ a ≠ p
structure KtAt (K : PySem.W.Frag) (H : Hp) (p a : Addr) (k : Int × List Int) : Prop where
  ex : ∃ t b, SqT K H a [.int k.1, .ref t] ∧ IsB' K H p t k.2 b
structure DyP where
  c : Addr
  k : Addr
  s : Addr
  pc : Bool
  pk : Bool
  ps : Bool
  as : List Addr
structure DayAt (K : PySem.W.Frag) (H : Hp) (p a : Addr) (x : DyP) (D : Dy) : Prop where
  at_ : SqT K H a [.ref x.c, .ref x.k, .ref x.s]
  cs : IsB' K H p x.c D.cs x.pc
  ks : SqB K H x.k (x.as.map V.ref) x.pk
  kp : x.k ≠ p
  ss : IsB' K H p x.s D.ss x.ps
  len : x.as.length = D.ks.length
  kt : ∀ (j : Nat) (a : Addr) (k : Int × List Int), x.as[j]? = some a → D.ks[j]? = some k → KtAt K H p a k
theorem IsB'.same {K : PySem.W.Frag} {H H' : Hp} {p a : Addr} {ns : List Int} {b : Bool} (h : IsB' K H p a ns b) (s : Same H H') : IsB' K H' p a ns b := ⟨h.1.same s, h.2⟩
theorem SqB.fr {K : PySem.W.Frag} {H H' : Hp} {p a : Addr} {xs : List V} {b : Bool} {n : Nat} (h : SqB K H a xs b) (ne : a ≠ p) (B : BoxAt H p n) (f : Fr p H H') : SqB K H' a xs b := by
  cases b with
  | true =>
    rcases h with (h | ⟨o, h⟩) | h
    · exact .inl (.inl (f _ _ ne h))
    · exact .inl (.inr ⟨o, f _ _ ne h⟩)
    · exact .inr h
  | false => exact sqT_fr h B f
theorem IsB'.fr {K : PySem.W.Frag} {H H' : Hp} {p a : Addr} {ns : List Int} {b : Bool} {n : Nat} (h : IsB' K H p a ns b) (B : BoxAt H p n) (f : Fr p H H') : IsB' K H' p a ns b := ⟨SqB.fr h.1 h.2 B f, h.2⟩
theorem KtAt.same {K : PySem.W.Frag} {H H' : Hp} {p a : Addr} {k : Int × List Int} (h : KtAt K H p a k) (s : Same H H') : KtAt K H' p a k := by
  obtain ⟨t, b, h1, h2⟩ := h.ex
  exact ⟨t, b, Same.tup s h1, h2.same s⟩
theorem KtAt.fr {K : PySem.W.Frag} {H H' : Hp} {p a : Addr} {k : Int × List Int} {n : Nat} (h : KtAt K H p a k) (B : BoxAt H p n) (f : Fr p H H') : KtAt K H' p a k := by
  obtain ⟨t, b, h1, h2⟩ := h.ex
  exact ⟨t, b, sqT_fr h1 B f, h2.fr B f⟩
theorem DayAt.same {K : PySem.W.Frag} {H H' : Hp} {p a : Addr} {x : DyP} {D : Dy} (h : DayAt K H p a x D) (s : Same H H') : DayAt K H' p a x D :=
  ⟨Same.tup s h.at_, h.cs.same s, h.ks.same s, h.kp, h.ss.same s, h.len, fun j a k e1 e2 => (h.kt j a k e1 e2).same s⟩
theorem DayAt.fr {K : PySem.W.Frag} {H H' : Hp} {p a : Addr} {x : DyP} {D : Dy} {n : Nat} (h : DayAt K H p a x D) (B : BoxAt H p n) (f : Fr p H H') : DayAt K H' p a x D :=
  ⟨sqT_fr h.at_ B f, h.cs.fr B f, SqB.fr h.ks h.kp B f, h.kp, h.ss.fr B f, h.len, fun j a k e1 e2 => (h.kt j a k e1 e2).fr B f⟩
theorem DayAt.pot {K : PySem.W.Frag} {H : Hp} {p a : Addr} {x : DyP} {D : Dy} (h : DayAt K H p a x D) {j : Nat} (lt : j < D.ks.length) : ∃ ka t b, (x.as.map V.ref)[j]? = some (.ref ka) ∧ SqT K H ka [.int (KR.kt D j).1, .ref t] ∧ IsB' K H p t (KR.kt D j).2 b := by
  have e1 : x.as[j]? = some (x.as[j]'(by rw [h.len]; exact lt)) := List.getElem?_eq_getElem _
  have e2 : D.ks[j]? = some D.ks[j] := List.getElem?_eq_getElem lt
  obtain ⟨t, b, h1, h2⟩ := (h.kt j _ _ e1 e2).ex
  have e3 : KR.kt D j = D.ks[j] := by
    unfold KR.kt
    rw [List.getD_eq_getElem?_getD, e2] <;> rfl
  rw [e3]
  exact ⟨_, t, b, by rw [List.getElem?_map, e1] <;> rfl, h1, h2⟩
theorem ints_get {ns : List Int} {t : Nat} (h : t < ns.length) : (ns.map V.int)[t]? = some (.int (ns.getD t 0)) := by
  rw [List.getElem?_map, List.getD_eq_getElem?_getD, List.getElem?_eq_getElem h] <;> rfl
theorem kt_len {D : Dy} (O : DyOk D) {p : Nat} (h : p < D.ks.length) : (kt D p).2.length = D.cs.length := by
  refine O.ts _ ?_
  unfold kt
  rw [List.getD_eq_getElem?_getD, List.getElem?_eq_getElem h]
  exact List.getElem_mem h
theorem lenV_b {K : PySem.W.Frag} {H : Hp} {a : Addr} {xs : List V} {p : Bool} (h : SqB K H a xs p) : LenV K (.ref a) H xs.length := by
  cases p with
  | true => exact .inl ⟨xs, h, rfl⟩
  | false => exact .inr ⟨xs, h, rfl⟩
theorem ix_b {K : PySem.W.Frag} {H : Hp} {a : Addr} {xs : List V} {p : Bool} {i : Nat} {j : Int} {v : V} {Q : VK} (h : SqB K H a xs p) (e : j = (i : Int)) (g : xs[i]? = some v) (q : Q v H) : rIx K (.ref a) (.int j) H Q := by
  subst e
  cases p with
  | true => exact .inl ⟨a, xs, _, v, rfl, rfl, h, at_of rfl g, q⟩
  | false => exact .inr (.inl ⟨a, xs, _, v, rfl, rfl, h, at_of rfl g, q⟩)
/-! bounds -/
structure Bd where
  word : Str
  lead : Option (Int × Int)
  more : Int
def leadV (H : Hp) (l : V) : Option (Int × Int) → Prop
  | none => l = .non
  | some (p, h) => ∃ q, l = .ref q ∧ H q = some (.tup [.int p, .int h])
def BdAt (H : Hp) (kv : Key × V) (b : Bd) : Prop := kv.1 = .inr b.word ∧ ∃ t l, kv.2 = .ref t ∧ H t = some (.tup [l, .int b.more]) ∧ leadV H l b.lead
theorem leadV.same {H H' : Hp} {l : V} {o : Option (Int × Int)} (h : leadV H l o) (s : Same H H') : leadV H' l o := by
  cases o with
  | none => exact h
  | some x =>
    obtain ⟨q, e, h1⟩ := h
    exact ⟨q, e, s _ _ h1⟩
theorem BdAt.same {H H' : Hp} {kv : Key × V} {b : Bd} (h : BdAt H kv b) (s : Same H H') : BdAt H' kv b := by
  obtain ⟨h1, t, l, h2, h3, h4⟩ := h
  exact ⟨h1, t, l, h2, s _ _ h3, h4.same s⟩
/-- what bounds a place at an hour, that one behind so many hours -/
def firstB (D : Dy) (p t : Nat) : Bd := if p = 0 then ⟨"comes", none, csum D (t + 1)⟩ else ⟨"ahead", some ((p : Int) - 1, (t : Int) - 1), 0⟩
def bnds (D : Dy) (p : Nat) : Nat → List Bd
  | 0 => [⟨"begin", none, 0⟩]
  | t + 1 => if p = D.ks.length then [firstB D p t, ⟨"takes", some ((p : Int), (t : Int) - 1), D.ss.getD t 0⟩]
    else [firstB D p t, ⟨"takes", some ((p : Int), (t : Int) - 1), (kt D p).2.getD t 0⟩, ⟨"room", some ((p : Int) + 1, (t : Int)), (kt D p).1⟩]
def AllBd (H : Hp) (kvs : List (Key × V)) (bs : List Bd) : Prop := Paired (BdAt H) kvs bs
theorem AllBd.same {H H' : Hp} {kvs : List (Key × V)} {bs : List Bd} (h : AllBd H kvs bs) (s : Same H H') : AllBd H' kvs bs := by
  induction h with
  | nil => exact .nil
  | cons a _ ih => exact .cons (a.same s) ih
theorem AllBd.get {H : Hp} : ∀ {kvs : List (Key × V)} {bs : List Bd}, AllBd H kvs bs → ∀ {i : Nat} {kv : Key × V}, kvs[i]? = some kv → ∃ b, bs[i]? = some b ∧ BdAt H kv b
  | [], _, _, i, _, e => by simp at e
  | _ :: _, _, .cons a h, 0, _, e => by cases e; exact ⟨_, rfl, a⟩
  | _ :: _, _, .cons _ h, i + 1, _, e => AllBd.get h (i := i) e
theorem AllBd.len {H : Hp} {kvs : List (Key × V)} {bs : List Bd} (h : AllBd H kvs bs) : kvs.length = bs.length := Paired.length h
/-- a place and an hour as a key -/
def kk (p t : Nat) : List Key := [.inl (p : Int), .inl ((t : Int) - 1)]
theorem kk_inj {p t p' t' : Nat} (h : kk p t = kk p' t') : p = p' ∧ t = t' := by
  unfold kk at h
  injection h with h1 h2
  injection h2 with h3 h4
  injection h1 with h1
  injection h3 with h3
  omega
/-- what is told of places and hours -/
def Told (D : Dy) (kvs : List (List Key × V)) (d : Nat → Nat → Prop) : Prop := ∀ p t, d p t → valV kvs (kk p t) = some (.int (tk D t p))
theorem Told.put {D : Dy} {kvs : List (List Key × V)} {d d' : Nat → Nat → Prop} (h : Told D kvs d) (p t : Nat) (hd : ∀ p' t', d' p' t' → d p' t' ∨ (p' = p ∧ t' = t)) : Told D (putK kvs (kk p t) (.int (tk D t p))) d' := fun p' t' h' => by
  rw [valV_put]
  by_cases c : kk p' t' = kk p t
  · rw [if_pos c]
    obtain ⟨e1, e2⟩ := kk_inj c
    rw [e1, e2]
  · rw [if_neg c]
    rcases hd p' t' h' with g | ⟨e1, e2⟩
    · exact h p' t' g
    · exact absurd (by rw [e1, e2]) c
/-- what a bound comes to -/
def valB (D : Dy) (b : Bd) : Int := match b.lead with
  | none => b.more
  | some (p, h) => tk D (h + 1).toNat p.toNat + b.more
theorem min_mem {ns : List Int} {m a : Int} (h : m ∈ ns) (le : ∀ y ∈ ns, m ≤ y) (ha : a ∈ ns) (la : ∀ y ∈ ns, a ≤ y) : m = a := Int.le_antisymm (le a ha) (la m h)
/-- the least that the bounds come to is what has been taken -/
theorem bnds_min {D : Dy} {p t : Nat} (k1 : 1 ≤ D.ks.length) (hp : p ≤ D.ks.length) : tk D t p ∈ (bnds D p t).map (valB D) ∧ ∀ y ∈ (bnds D p t).map (valB D), tk D t p ≤ y := by
  cases t with
  | zero =>
    show (0 : Int) ∈ [(0 : Int)] ∧ ∀ y ∈ [(0 : Int)], 0 ≤ y
    exact ⟨List.mem_cons_self, fun y hy => by rw [List.mem_singleton.mp hy]; decide⟩
  | succ t =>
    have e1 : valB D (firstB D p t) = if p = 0 then csum D (t + 1) else tk D t (p - 1) := by
      unfold firstB
      by_cases c : p = 0
      · rw [if_pos c, if_pos c] <;> rfl
      · rw [if_neg c, if_neg c]
        show tk D ((t : Int) - 1 + 1).toNat ((p : Int) - 1).toNat + 0 = _
        rw [show ((t : Int) - 1 + 1).toNat = t by omega, show ((p : Int) - 1).toNat = p - 1 by omega, Int.add_zero]
    have e2 : ∀ m, valB D ⟨"takes", some ((p : Int), (t : Int) - 1), m⟩ = tk D t p + m := fun m => by
      show tk D ((t : Int) - 1 + 1).toNat ((p : Int)).toNat + m = _
      rw [show ((t : Int) - 1 + 1).toNat = t by omega, Int.toNat_natCast]
    have e3 : ∀ m, valB D ⟨"room", some ((p : Int) + 1, (t : Int)), m⟩ = tk D (t + 1) (p + 1) + m := fun m => by
      show tk D ((t : Int) + 1).toNat ((p : Int) + 1).toNat + m = _
      rw [show ((t : Int) + 1).toNat = t + 1 by omega, show ((p : Int) + 1).toNat = p + 1 by omega]
    by_cases c : p = D.ks.length
    · have eb : bnds D p (t + 1) = [firstB D p t, ⟨"takes", some ((p : Int), (t : Int) - 1), D.ss.getD t 0⟩] := if_pos c
      rw [eb, List.map_cons, List.map_cons, List.map_nil, e1, e2]
      have et := tk_last D t
      rw [← c] at et
      rw [et, if_neg (show ¬ p = 0 by omega)]
      refine ⟨?_, fun y hy => ?_⟩
      · simp only [List.mem_cons, List.not_mem_nil, or_false]
        omega
      · simp only [List.mem_cons, List.not_mem_nil, or_false] at hy
        omega
    · have eb : bnds D p (t + 1) = [firstB D p t, ⟨"takes", some ((p : Int), (t : Int) - 1), (kt D p).2.getD t 0⟩, ⟨"room", some ((p : Int) + 1, (t : Int)), (kt D p).1⟩] := if_neg c
      have et := tk_at (D := D) (t := t) (p := p) (by omega)
      rw [eb, List.map_cons, List.map_cons, List.map_cons, List.map_nil, e1, e2, e3]
      generalize (if p = 0 then csum D (t + 1) else tk D t (p - 1)) = fb at *
      refine ⟨?_, fun y hy => ?_⟩
      · simp only [List.mem_cons, List.not_mem_nil, or_false]
        omega
      · simp only [List.mem_cons, List.not_mem_nil, or_false] at hy
        omega
theorem same_frb {H0 H1 H2 : Hp} {b : Addr} (s : Same H0 H1) (n : H0 b = none) (f : Fr b H1 H2) : Same H0 H2 := fun c o e => f c o (ne_of_none e n) (s c o e)
/-- the lists of ints in a row, one upon another -/
def RowsAt (H : Hp) (rs : List Addr) (f : Nat → List Int) : Prop := ∀ (j : Nat) (r : Addr), rs[j]? = some r → H r = some (.lst ((f j).map V.int))
theorem leadV.frb {H H' : Hp} {b : Addr} {kb : List (Key × V)} {l : V} {o : Option (Int × Int)} (h : leadV H l o) (hb : H b = some (.dK kb)) (F : Fr b H H') : leadV H' l o := by
  cases o with
  | none => exact h
  | some y =>
    obtain ⟨q, e, h1⟩ := h
    exact ⟨q, e, F _ _ (ne_of h1 hb (by intro z; cases z)) h1⟩
theorem bnds_lead {D : Dy} {p t : Nat} {b : Bd} {p' h' : Int} (hp : p ≤ D.ks.length) (m : b ∈ bnds D p t) (e : b.lead = some (p', h')) : ∃ pn tn : Nat, p' = (pn : Int) ∧ h' = (tn : Int) - 1 ∧ pn ≤ D.ks.length ∧ (tn < t ∨ (tn = t ∧ p < pn)) := by
  cases t with
  | zero =>
    have e1 : b = ⟨"begin", none, 0⟩ := List.mem_singleton.mp m
    rw [e1] at e
    cases e
  | succ t =>
    have f1 : b = firstB D p t → ∃ pn tn : Nat, p' = (pn : Int) ∧ h' = (tn : Int) - 1 ∧ pn ≤ D.ks.length ∧ (tn < t + 1 ∨ (tn = t + 1 ∧ p < pn)) := fun z => by
      rw [z] at e
      unfold firstB at e
      by_cases c : p = 0
      · rw [if_pos c] at e
        cases e
      · rw [if_neg c] at e
        obtain ⟨rfl, rfl⟩ := Prod.mk.inj (Option.some.inj e)
        exact ⟨p - 1, t, by omega, rfl, by omega, .inl (by omega)⟩
    have f2 : ∀ x, b = ⟨"takes", some ((p : Int), (t : Int) - 1), x⟩ → ∃ pn tn : Nat, p' = (pn : Int) ∧ h' = (tn : Int) - 1 ∧ pn ≤ D.ks.length ∧ (tn < t + 1 ∨ (tn = t + 1 ∧ p < pn)) := fun x z => by
      rw [z] at e
      obtain ⟨rfl, rfl⟩ := Prod.mk.inj (Option.some.inj e)
      exact ⟨p, t, rfl, rfl, hp, .inl (by omega)⟩
    by_cases c : p = D.ks.length
    · rw [show bnds D p (t + 1) = [firstB D p t, ⟨"takes", some ((p : Int), (t : Int) - 1), D.ss.getD t 0⟩] from if_pos c] at m
      rcases List.mem_cons.mp m with z | z
      · exact f1 z
      · exact f2 _ (List.mem_singleton.mp z)
    · rw [show bnds D p (t + 1) = [firstB D p t, ⟨"takes", some ((p : Int), (t : Int) - 1), (kt D p).2.getD t 0⟩, ⟨"room", some ((p : Int) + 1, (t : Int)), (kt D p).1⟩] from if_neg c] at m
      rcases List.mem_cons.mp m with z | z
      · exact f1 z
      · rcases List.mem_cons.mp z with z | z
        · exact f2 _ z
        · rw [List.mem_singleton.mp z] at e
          obtain ⟨rfl, rfl⟩ := Prod.mk.inj (Option.some.inj e)
          exact ⟨p + 1, t + 1, by omega, by omega, by omega, .inr ⟨rfl, by omega⟩⟩
theorem bnds_len (D : Dy) (p t : Nat) : 0 < (bnds D p t).length := by
  cases t with
  | zero => exact Nat.zero_lt_succ _
  | succ t =>
    show 0 < (if p = D.ks.length then _ else _ : List Bd).length
    split <;> exact Nat.zero_lt_succ _
theorem bnds_len3 (D : Dy) (p t : Nat) : (bnds D p t).length ≤ 3 := by
  cases t with
  | zero => show 1 ≤ 3; decide
  | succ t =>
    show (if p = D.ks.length then _ else _ : List Bd).length ≤ 3
    split
    · show 2 ≤ 3
      decide
    · show 3 ≤ 3
      decide
/-- the first hour by which so many are struck -/
def FirstV (D : Dy) (m : Int) (v : V) : Prop := (∃ t : Nat, t < D.cs.length ∧ (∀ j, j < t → tk D (j + 1) D.ks.length < m) ∧ m ≤ tk D (t + 1) D.ks.length ∧ v = .int (t : Int)) ∨ ((∀ j, j < D.cs.length → tk D (j + 1) D.ks.length < m) ∧ v = .non)
/-- ladles that a day may have -/
def Ldl (ns : List Int) : Prop := ∀ z ∈ ns, 0 ≤ z ∧ z ≤ 1000000
structure DyNn (D : Dy) : Prop where
  cs : Ldl D.cs
  ks : ∀ k ∈ D.ks, 1 ≤ k.1 ∧ k.1 ≤ 1000000 ∧ Ldl k.2
  ss : Ldl D.ss
/-- kettles beside their lists -/
def KtF (K : PySem.W.Frag) (H : Hp) (p f : Addr) (a : Addr) (k : Int × List Int) : Prop := ∃ t, SqT K H a [.int k.1, .ref t] ∧ H t = some (.lst (k.2.map V.int)) ∧ t ≠ p ∧ t ≠ f
def PotsF (K : PySem.W.Frag) (H : Hp) (p f : Addr) (as : List Addr) (ks : List (Int × List Int)) : Prop := Paired (KtF K H p f) as ks
theorem KtF.same {K : PySem.W.Frag} {H H' : Hp} {p f a : Addr} {k : Int × List Int} (h : KtF K H p f a k) (s : Same H H') : KtF K H' p f a k := by
  obtain ⟨t, h1, h2, h3, h4⟩ := h
  exact ⟨t, Same.tup s h1, s _ _ h2, h3, h4⟩
theorem KtF.fr {K : PySem.W.Frag} {H H' : Hp} {p f a : Addr} {k : Int × List Int} {n : Nat} (h : KtF K H p f a k) (B : BoxAt H p n) (F : Fr p H H') : KtF K H' p f a k := by
  obtain ⟨t, h1, h2, h3, h4⟩ := h
  exact ⟨t, sqT_fr h1 B F, F _ _ h3 h2, h3, h4⟩
theorem KtF.put {K : PySem.W.Frag} {H : Hp} {p f a : Addr} {k : Int × List Int} {xs ys : List V} (h : KtF K H p f a k) (hf : H f = some (.lst xs)) : KtF K (upd H f (.lst ys)) p f a k := by
  obtain ⟨t, h1, h2, h3, h4⟩ := h
  exact ⟨t, sqT_frL h1 hf fr_upd, by rw [upd_ne h4]; exact h2, h3, h4⟩
theorem KtF.to {K : PySem.W.Frag} {H : Hp} {p f g a : Addr} {k : Int × List Int} (h : KtF K H p f a k) (n : H g = none) : KtF K H p g a k := by
  obtain ⟨t, h1, h2, h3, h4⟩ := h
  exact ⟨t, h1, h2, h3, ne_of_none h2 n⟩
theorem PotsF.map {K : PySem.W.Frag} {H H' : Hp} {p f g : Addr} {as : List Addr} {ks : List (Int × List Int)} (h : PotsF K H p f as ks) (m : ∀ a k, KtF K H p f a k → KtF K H' p g a k) : PotsF K H' p g as ks := by
  induction h with
  | nil => exact .nil
  | cons a _ ih => exact .cons (m _ _ a) ih
theorem PotsF.snoc {K : PySem.W.Frag} {H : Hp} {p f : Addr} {as : List Addr} {ks : List (Int × List Int)} {a : Addr} {k : Int × List Int} (h : PotsF K H p f as ks) (ha : KtF K H p f a k) : PotsF K H p f (as ++ [a]) (ks ++ [k]) := by
  induction h with
  | nil => exact .cons ha .nil
  | cons b _ ih => exact .cons b ih
theorem PotsF.get {K : PySem.W.Frag} {H : Hp} {p f : Addr} : ∀ {as : List Addr} {ks : List (Int × List Int)}, PotsF K H p f as ks → ∀ {j : Nat} {a : Addr}, as[j]? = some a → ∃ k, ks[j]? = some k ∧ KtF K H p f a k
  | [], _, _, j, _, e => by simp at e
  | _ :: _, _, .cons h _, 0, _, e => by cases e; exact ⟨_, rfl, h⟩
  | _ :: _, _, .cons _ h, j + 1, _, e => PotsF.get h (j := j) e
theorem PotsF.at_ {K : PySem.W.Frag} {H : Hp} {p f : Addr} {as : List Addr} {ks : List (Int × List Int)} (h : PotsF K H p f as ks) : ∀ (j : Nat) (a : Addr) (k : Int × List Int), as[j]? = some a → ks[j]? = some k → KtAt K H p a k := fun j a k e1 e2 => by
  obtain ⟨k', e3, t, h1, h2, h3, _⟩ := h.get e1
  rw [e2] at e3
  obtain rfl := Option.some.inj e3
  exact ⟨t, true, h1, SqL.of h2, h3⟩
theorem rep_ints (k : Nat) (z : Int) : (List.replicate ((k : Int)).toNat [V.int z]).flatten = (List.replicate k z).map V.int := by
  rw [Int.toNat_natCast, List.map_replicate]
  induction k with
  | zero => rfl
  | succ k ih => rw [List.replicate_succ, List.flatten_cons, ih, List.replicate_succ] <;> rfl
/-! tuple(x) of a list or a tuple -/
def rTupJ (K : PySem.W.Frag) : List V → Hp → VK → Prop := fun xs H Q => ∃ p ys, xs = [.ref p] ∧ ((SqL K H p ys ∧ ∀ l H', Same H H' → H l = none → H' l = some (.tup ys) → Q (.ref l) H') ∨ (SqT K H p ys ∧ Q (.ref p) H))
theorem tupJ {X : Cx} {K : PySem.W.Frag} (h : X.K = K) : CallR X (.type "tuple") (rTupJ K) := fun pins s σ H xs us Q I r ⟨p, ys, e, q⟩ =>
  call_tuple_of pins s σ H xs us Q I r ⟨p, ys, e, h ▸ q.imp (fun z => ⟨z.1, fun l hl => z.2 l _ (same_new hl) hl upd_same⟩) id⟩
/-! rows of numbers as data -/
theorem eqv_nums : ∀ (a b : List Int), PyData.eqvAll (a.map PyData.int) (b.map PyData.int) = decide (a = b)
  | [], [] => rfl
  | [], _ :: _ => rfl
  | _ :: _, [] => rfl
  | x :: a, y :: b => by
    show (PyData.eqv (.int x) (.int y) && PyData.eqvAll (a.map PyData.int) (b.map PyData.int)) = _
    rw [eqv_nums a b]
    show (decide (x = y) && _) = _
    by_cases c : x = y
    · subst c
      by_cases d : a = b
      · subst d
        simp
      · simp [d]
    · simp [c]
def din (ns : List Int) : PyData := .list (ns.map PyData.int)
theorem din_eqv (a b : List Int) : PyData.eqv (din a) (din b) = decide (a = b) := eqv_nums a b
theorem nums_dps {K : PySem.W.Frag} {H : Hp} : ∀ (ns : List Int), DpAll K H (ns.map V.int) (ns.map PyData.int)
  | [] => .nil
  | _ :: r => .cons (.int _) (nums_dps r)
theorem din_at {K : PySem.W.Frag} {H : Hp} {a : Addr} {ns : List Int} (h : H a = some (.lst (ns.map V.int))) : Dp K H (.ref a) (din ns) := .lst (SqL.of h) (nums_dps ns)
theorem nums_flat : ∀ (ns : List Int), PyData.canLayAll0 (ns.map PyData.int) = true ∧ PyData.depthAll (ns.map PyData.int) = 0
  | [] => ⟨rfl, rfl⟩
  | z :: r => by
    obtain ⟨h1, h2⟩ := nums_flat r
    refine ⟨?_, ?_⟩
    · show (PyData.canLay0 (.int z) && PyData.canLayAll0 (r.map PyData.int)) = true
      rw [h1] <;> rfl
    · show max (PyData.depth (.int z)) (PyData.depthAll (r.map PyData.int)) = 0
      rw [h2] <;> rfl
theorem din_shaped (ns : List Int) : SeqAt.shaped (din ns) = true := by
  obtain ⟨h1, h2⟩ := nums_flat ns
  show (PyData.canLayAll0 (ns.map PyData.int) && decide (PyData.depthAll (ns.map PyData.int) + 1 ≤ 64)) = true
  rw [h1, h2] <;> rfl
/-! the hours by which so many are struck -/
theorem filter_head {P : Nat → Bool} : ∀ (n t : Nat), t < n → P t = true → (∀ j, j < t → P j = false) → ∃ r, (List.range n).filter P = t :: r := fun n t lt pt no => by
  induction n with
  | zero => omega
  | succ n ih =>
    rw [List.range_succ, List.filter_append]
    by_cases c : t < n
    · obtain ⟨r, e⟩ := ih c
      rw [e]
      exact ⟨_, rfl⟩
    · have e : t = n := by omega
      subst e
      have e0 : (List.range t).filter P = [] := List.filter_eq_nil_iff.mpr fun j hj => by
        rw [no j (List.mem_range.mp hj)]
        exact Bool.false_ne_true
      rw [e0, List.nil_append, List.filter_cons, if_pos pt]
      exact ⟨_, rfl⟩
def hoursBy (D : Dy) (m : Int) : List Nat := (List.range D.cs.length).filter fun t => decide (m ≤ tk D (t + 1) D.ks.length)
theorem FirstV.hours {D : Dy} {m : Int} {v : V} (h : FirstV D m v) : (hoursBy D m = [] ∧ v = .non) ∨ ∃ t r, hoursBy D m = t :: r ∧ v = .int ((t : Nat) : Int) := by
  rcases h with ⟨t, lt, below, ge, rfl⟩ | ⟨below, rfl⟩
  · obtain ⟨r, e⟩ := filter_head (P := fun t => decide (m ≤ tk D (t + 1) D.ks.length)) D.cs.length t lt (decide_eq_true ge) fun j hj => decide_eq_false (by have := below j hj; omega)
    exact .inr ⟨t, r, e, rfl⟩
  · refine .inl ⟨List.filter_eq_nil_iff.mpr fun j hj => ?_, rfl⟩
    have := below j (List.mem_range.mp hj)
    rw [decide_eq_false (by omega)]
    exact Bool.false_ne_true
/-- what has been taken is neither below nought nor great -/
theorem csum_nn {D : Dy} (N : DyNn D) : ∀ t, 0 ≤ csum D t := fun t => by
  unfold csum
  have all : ∀ l : List Int, (∀ z ∈ l, 0 ≤ z) → 0 ≤ l.sum := fun l => by
    induction l with
    | nil => exact fun _ => Int.le_refl _
    | cons a r ih =>
      intro h
      have h1 := h a List.mem_cons_self
      have h2 := ih fun z hz => h z (List.mem_cons_of_mem _ hz)
      rw [List.sum_cons]
      omega
  exact all _ fun z hz => (N.cs z (List.mem_of_mem_take hz)).1
theorem ldl_at {ns : List Int} (h : Ldl ns) (t : Nat) : 0 ≤ ns.getD t 0 ∧ ns.getD t 0 ≤ 1000000 := by
  rw [List.getD_eq_getElem?_getD]
  cases e : ns[t]? with
  | none => exact ⟨by decide, by decide⟩
  | some z => exact h z (List.mem_of_getElem? e)
theorem kt_nn {D : Dy} (N : DyNn D) (p : Nat) : 0 ≤ (kt D p).1 ∧ Ldl (kt D p).2 := by
  unfold kt
  rw [List.getD_eq_getElem?_getD]
  cases e : D.ks[p]? with
  | none => exact ⟨by decide, fun z hz => absurd hz List.not_mem_nil⟩
  | some k =>
    have h := N.ks k (List.mem_of_getElem? e)
    exact ⟨by show 0 ≤ k.1; omega, h.2.2⟩
theorem tk_nn {D : Dy} (N : DyNn D) : ∀ t q p, p + q = D.ks.length → 0 ≤ tk D t p ∧ tk D t p ≤ 1000000 * t := fun t => by
  induction t with
  | zero =>
    intro q p _
    rw [tk_zero]
    omega
  | succ t ih =>
    intro q
    induction q with
    | zero =>
      intro p hp
      have e : p = D.ks.length := by omega
      subst e
      rw [tk_last]
      have h1 := ih 1 (D.ks.length - 1)
      have h0 := ih 0 D.ks.length rfl
      have s := ldl_at N.ss t
      by_cases c : D.ks.length = 0
      · rw [c] at h0 ⊢
        have e : tk D t (0 - 1) = tk D t 0 := rfl
        omega
      · have := h1 (by omega)
        omega
    | succ q ihq =>
      intro p hp
      rw [tk_at (by omega)]
      have h0 := ih (q + 1) p hp
      have h1 := ihq (p + 1) (by omega)
      have kn := kt_nn N p
      have s := ldl_at kn.2 t
      have c0 := csum_nn N (t + 1)
      by_cases c : p = 0
      · rw [if_pos c]
        omega
      · rw [if_neg c]
        have h2 := ih (q + 2) (p - 1) (by omega)
        omega
/-- a part of a row of numbers -/
theorem cut_nums (ns : List Int) (lo hi : Option Int) : ∃ ms : List Int, cutV (ns.map V.int) lo hi = ms.map V.int ∧ (∀ z ∈ ms, z ∈ ns) ∧ ms.length ≤ ns.length := by
  unfold cutV
  refine ⟨(ns.drop _).take _, by rw [List.map_take, List.map_drop], fun z hz => List.mem_of_mem_drop (List.mem_of_mem_take hz), ?_⟩
  rw [List.length_take, List.length_drop]
  omega
theorem rg_nums (a b : Int) : ∃ ms : List Int, rgV a b = ms.map V.int ∧ ms.length = (b - a).toNat := by
  refine ⟨(List.range (b - a).toNat).map fun i => a + (i : Nat), ?_, by rw [List.length_map, List.length_range]⟩
  unfold rgV
  rw [List.map_map] <;> rfl
/-- a day of tuples stands beside a list that is written -/
theorem DayAt.frT {K : PySem.W.Frag} {H H' : Hp} {p a q : Addr} {c k s : Addr} {as : List Addr} {D : Dy} {xs : List V} (h : DayAt K H p a ⟨c, k, s, false, false, false, as⟩ D) (F : Fr q H H') (hq : H q = some (.lst xs)) (tt : ∀ (j : Nat) (b : Addr) (k : Int × List Int), as[j]? = some b → D.ks[j]? = some k → ∃ t, SqT K H b [.int k.1, .ref t] ∧ SqT K H t (k.2.map V.int) ∧ t ≠ p) : DayAt K H' p a ⟨c, k, s, false, false, false, as⟩ D :=
  ⟨sqT_frL h.at_ hq F, ⟨sqT_frL h.cs.1 hq F, h.cs.2⟩, sqT_frL h.ks hq F, h.kp, ⟨sqT_frL h.ss.1 hq F, h.ss.2⟩, h.len, fun j b k e1 e2 => by
    obtain ⟨t, a1, a2, a3⟩ := tt j b k e1 e2
    exact ⟨t, false, sqT_frL a1 hq F, sqT_frL a2 hq F, a3⟩⟩
theorem same_new_fr {H0 H1 H2 : Hp} {p : Addr} (s : Same H0 H1) (n : H0 p = none) (f : Fr p H1 H2) : Same H0 H2 := fun c o e => f c o (ne_of_none e n) (s c o e)
end KR
/-! ### data of tuples, texts, numbers; repr of any of it -/
namespace KR
open PySem PySem.Spec PyProof.Rows L2
inductive Dg (K : PySem.W.Frag) (H : Hp) : Nat → V → PyData → Prop
  | non (n : Nat) : Dg K H n .non .none
  | int (n : Nat) (i : Int) : Dg K H n (.int i) (.int i)
  | str (n : Nat) (x : Str) : Dg K H n (.str x) (.str x)
  | tup {n : Nat} {a : Addr} {xs : List V} {ds : List PyData} : SqT K H a xs → xs.length = ds.length → (∀ (i : Nat) (x : V) (d : PyData), xs[i]? = some x → ds[i]? = some d → Dg K H n x d) → Dg K H (n + 1) (.ref a) (.tuple ds)
theorem Dg.on {K : PySem.W.Frag} {H H' : Hp} (k : ∀ a xs, SqT K H a xs → SqT K H' a xs) : ∀ {n : Nat} {v : V} {d : PyData}, Dg K H n v d → Dg K H' n v d := by
  intro n v d h
  induction h with
  | non n => exact .non n
  | int n i => exact .int n i
  | str n x => exact .str n x
  | tup h1 h2 _ ih => exact .tup (k _ _ h1) h2 ih
theorem Dg.same {K : PySem.W.Frag} {H H' : Hp} (s : Same H H') {n : Nat} {v : V} {d : PyData} (h : Dg K H n v d) : Dg K H' n v d := h.on fun _ _ q => Same.tup s q
theorem Dg.fr {K : PySem.W.Frag} {H H' : Hp} {p : Addr} {m n : Nat} {v : V} {d : PyData} (h : Dg K H n v d) (B : BoxAt H p m) (f : Fr p H H') : Dg K H' n v d := h.on fun _ _ q => sqT_fr q B f
theorem dps_of {K : PySem.W.Frag} {H : Hp} : ∀ {xs : List V} {ds : List PyData}, xs.length = ds.length → (∀ (i : Nat) (x : V) (d : PyData), xs[i]? = some x → ds[i]? = some d → Dp K H x d) → DpAll K H xs ds
  | [], [], _, _ => .nil
  | x :: xs, d :: ds, hl, h => .cons (h 0 x d rfl rfl) (dps_of (by rw [List.length_cons, List.length_cons] at hl; omega) fun i y e a b => h (i + 1) y e a b)
theorem Dg.dp {K : PySem.W.Frag} {H : Hp} {n : Nat} {v : V} {d : PyData} (h : Dg K H n v d) : Dp K H v d := by
  induction h with
  | non n => exact .non
  | int n i => exact .int i
  | str n x => exact .str x
  | tup h1 h2 _ ih => exact .tup h1 (dps_of h2 ih)
def DgAll (K : PySem.W.Frag) (H : Hp) (n : Nat) (xs : List V) (ds : List PyData) : Prop := xs.length = ds.length ∧ ∀ (i : Nat) (x : V) (d : PyData), xs[i]? = some x → ds[i]? = some d → Dg K H n x d
theorem DgAll.nil {K : PySem.W.Frag} {H : Hp} {n : Nat} : DgAll K H n [] [] := ⟨rfl, fun i x d h => by simp at h⟩
theorem DgAll.cons {K : PySem.W.Frag} {H : Hp} {n : Nat} {x : V} {d : PyData} {xs : List V} {ds : List PyData} (h : Dg K H n x d) (t : DgAll K H n xs ds) : DgAll K H n (x :: xs) (d :: ds) :=
  ⟨by rw [List.length_cons, List.length_cons, t.1], fun i u v hu hv => match i, hu, hv with
    | 0, hu, hv => by cases hu; cases hv; exact h
    | i + 1, hu, hv => t.2 i u v hu hv⟩
theorem DgAll.tup {K : PySem.W.Frag} {H : Hp} {n : Nat} {xs : List V} {ds : List PyData} {a : Addr} (t : DgAll K H n xs ds) (h : SqT K H a xs) : Dg K H (n + 1) (.ref a) (.tuple ds) := .tup h t.1 t.2
/-- data that can be shown -/
structure Fine (k w : Nat) (d : PyData) : Prop where
  lay : PyData.canLay0 d = true
  dep : PyData.depth d ≤ k
  wt : PyData.weight d ≤ w
  ish : PyData.intsShort 13 d = true
  sh : PyData.showable d = true
  nd : PyData.hasDict d = false
structure FineAll (k w : Nat) (ds : List PyData) : Prop where
  lay : PyData.canLayAll0 ds = true
  dep : PyData.depthAll ds ≤ k
  wt : PyData.weightAll ds ≤ w
  ish : PyData.intsShortAll 13 ds = true
  sh : PyData.showableAll ds = true
  nd : PyData.hasDictAll ds = false
theorem FineAll.nil (k : Nat) : FineAll k 0 [] := ⟨rfl, Nat.zero_le _, Nat.le_refl _, rfl, rfl, rfl⟩
theorem FineAll.cons {k a b : Nat} {d : PyData} {ds : List PyData} (h : Fine k a d) (t : FineAll k b ds) : FineAll k (a + 1 + b) (d :: ds) := by
  refine ⟨?_, ?_, ?_, ?_, ?_, ?_⟩
  · show (PyData.canLay0 d && PyData.canLayAll0 ds) = true
    rw [h.lay, t.lay] <;> rfl
  · show max (PyData.depth d) (PyData.depthAll ds) ≤ k
    have := h.dep
    have := t.dep
    omega
  · show PyData.weight d + 1 + PyData.weightAll ds ≤ a + 1 + b
    have := h.wt
    have := t.wt
    omega
  · show (PyData.intsShort 13 d && PyData.intsShortAll 13 ds) = true
    rw [h.ish, t.ish] <;> rfl
  · show (PyData.showable d && PyData.showableAll ds) = true
    rw [h.sh, t.sh] <;> rfl
  · show (PyData.hasDict d || PyData.hasDictAll ds) = false
    rw [h.nd, t.nd] <;> rfl
theorem FineAll.tup {k w : Nat} {ds : List PyData} (t : FineAll k w ds) : Fine (k + 1) w (.tuple ds) := ⟨t.lay, Nat.succ_le_succ t.dep, t.wt, t.ish, t.sh, t.nd⟩
theorem Fine.up {k k' w w' : Nat} {d : PyData} (h : Fine k w d) (h1 : k ≤ k') (h2 : w ≤ w') : Fine k' w' d := ⟨h.lay, Nat.le_trans h.dep h1, Nat.le_trans h.wt h2, h.ish, h.sh, h.nd⟩
theorem Fine.non (k : Nat) : Fine k 0 .none := ⟨rfl, Nat.zero_le _, Nat.le_refl _, rfl, rfl, rfl⟩
theorem nat_short : ∀ n < 1001, (PyData.shown (.int ((n : Nat) : Int))).length ≤ 13 ∧ PyData.weight (.int ((n : Nat) : Int)) ≤ 12 ∧ ((n : Nat) : Int).natAbs.log2 < 1920 := by decide +kernel
theorem Fine.int {i : Int} (k : Nat) (h0 : 0 ≤ i) (h1 : i ≤ 1000) : Fine k 12 (.int i) := by
  obtain ⟨n, rfl⟩ : ∃ n : Nat, i = (n : Int) := ⟨i.toNat, by omega⟩
  obtain ⟨e1, e2, e3⟩ := nat_short n (by omega)
  exact ⟨rfl, Nat.zero_le _, e2, decide_eq_true e1, decide_eq_true e3, rfl⟩
theorem Fine.minus (k : Nat) : Fine k 12 (.int (-1)) := ⟨rfl, Nat.zero_le _, by decide +kernel, by decide +kernel, by decide +kernel, rfl⟩
theorem Fine.str {x : Str} {n : Nat} (k : Nat) (h : x.length ≤ n) (c : ∀ c ∈ TL.tl x, c < 128) : Fine k n (.str x) := by
  refine ⟨?_, Nat.zero_le _, h, rfl, rfl, rfl⟩
  show PyData.strOk x = true
  unfold PyData.strOk
  rw [← Array.all_toList, List.all_eq_true]
  exact fun d hd => decide_eq_true (Nat.lt_trans (c d hd) (by decide))
theorem Fine.line {k w : Nat} {d : PyData} (h : Fine k w d) (hk : k ≤ 60) (hw : w ≤ 100000) : d.shown.length ≤ sizeLine := by
  have dep := h.dep
  have wt := h.wt
  have l : PyData.layable0 d = true := by
    show (PyData.canLay0 d && decide (PyData.depth d ≤ 64) && decide (PyData.weight d ≤ 2 ^ 20)) = true
    rw [h.lay, decide_eq_true (by omega), decide_eq_true (show PyData.weight d ≤ 2 ^ 20 by omega)] <;> rfl
  exact Nat.le_trans (shown_le13 l h.ish) (by decide)
/-- repr of any such data -/
def rReprV (K : PySem.W.Frag) : List V → Hp → VK → Prop := fun xs H Q => ∃ (v : V) (d : PyData) (k w : Nat), xs = [v] ∧ Dp K H v d ∧ Fine k w d ∧ k ≤ 60 ∧ w ≤ 100000 ∧ Q (.str d.shown) H
theorem cr_reprV {X : Cx} {K : PySem.W.Frag} (hK : X.K = K) (hg : X.A.guards = some []) (hu : X.A.units + 64 < cLine) : CallR X (.builtin "repr") (rReprV K) := by
  subst hK
  intro pn s σ H xs us Q I r want
  obtain ⟨v, d, k, w, rfl, dp, f, hk, hw, q⟩ := want
  have len := f.line hk hw
  have dep := f.dep
  cases r with
  | cons r1 r2 =>
    cases r2
    cases dp with
    | non =>
      cases r1
      exact PySem.P.repr_of_none ⟨.str _, H, I.tok _, ⟨_, rfl⟩, q⟩
    | bl b =>
      cases r1
      exact PySem.P.repr_of_bool ⟨.str _, H, I.tok _, ⟨_, rfl⟩, q⟩
    | int i =>
      obtain ⟨t, rfl⟩ := r1
      exact PySem.P.repr_of_int (of_decide_eq_true f.sh) ⟨.str _, H, I.tok _, ⟨_, rfl⟩, q⟩
    | str x =>
      obtain ⟨t, rfl⟩ := r1
      exact PySem.P.repr_of_str ⟨.str _, H, I.tok _, ⟨_, rfl⟩, q⟩ len
    | lst a1 a2 =>
      obtain ⟨as, rd⟩ := Dp.reads I _ _ _ (Dp.lst a1 a2) r1
      cases r1
      exact repr_of_reads' rd f.sh (PyData.noDict_hsm f.nd) hg (by omega) (fun _ _ e => e) (fun h' u tk hkk => ⟨.str _, H, I.kept (fun b o e => hkk b o e), ⟨_, rfl⟩, q⟩) len
    | tup a1 a2 =>
      obtain ⟨as, rd⟩ := Dp.reads I _ _ _ (Dp.tup a1 a2) r1
      cases r1
      exact repr_of_reads' rd f.sh (PyData.noDict_hsm f.nd) hg (by omega) (fun _ _ e => e) (fun h' u tk hkk => ⟨.str _, H, I.kept (fun b o e => hkk b o e), ⟨_, rfl⟩, q⟩) len
end KR
/-! ### plans of a day: a range that is kept; data of days -/
namespace KR
open PySem PySem.Spec PyProof.Rows L2
/-- a comprehension in a comprehension -/
theorem blkOk_in {N : List Str} {outer scope sc : Scope} {own : List (Str × Nat)} {cl : List (Str × Addr)} {C : Addr} {env : Env} (hs : env.scope = sc) (h : blkC N (relS outer sc) scope own = true) : BlkOk N (compEnvC outer cl C env).scope scope own := by
  subst hs
  exact blkOk_by h
/-- range(n) as a value -/
def tRngV (ta : TE) : TE := fun σ H Q => ta σ H fun x H1 => ∃ j : Int, x = .int j ∧ ∀ a, H1 a = none → Q (.ref a) (upd H1 a (.rng 0 j))
theorem pe_rngV {X : Cx} {a : Expr} {ta : TE} {p pos : Pos} (hg : Gl X "range") (hm : X.mg "range" = none) (ha : PE X a ta) (na : starEach [a] X.env = (false, eval a X.env) :: starEach [] X.env := by rfl) : PE X (.Call (.Name "range" p) [a] [] pos) (tRngV ta) := by
  refine ⟨fun pins s σ H Q I h => ?_⟩
  refine Call_ (ld_blt I hg hm boot_range (PyProof.Rows.callWith_type1 (one_arg ha I h (fun v s2 x H2 I2 r q => ?_) na) na))
  obtain ⟨n, rfl, q⟩ := q
  obtain ⟨t, rfl⟩ := r
  exact call_range_1 ⟨.ref s2.heap.objs.size, upd H2 s2.heap.objs.size (.rng 0 n), I2.laid (fun b u e => Heap.get?_push_of_some _ e) (Nat.le_refl _) ⟨_, _, _, Heap.get?_push_size _ rfl⟩, rfl, q _ (I2.hok.fresh (Nat.le_refl _))⟩
/-- a kept range, walked -/
def iRngV (te : TE) : TI := fun σ H R => te σ H fun x H1 => ∃ (a : Addr) (lo hi : Int), x = .ref a ∧ H1 a = some (.rng lo hi) ∧ (-(2 ^ 62) ≤ lo ∧ lo < 2 ^ 62 ∧ -(2 ^ 62) ≤ hi ∧ hi < 2 ^ 62) ∧ R (Itr lo (hi - lo).toNat) H1
theorem pi_rngV {X : Cx} {tg e : Expr} {te : TE} (he : PE X e te) : PI X tg e (iRngV te) := by
  refine ⟨fun pins s σ H R I h => ?_⟩
  refine thn (he.run pins s σ H _ I h) fun v s1 ⟨x, H1, I1, r1, q1⟩ => ?_
  obtain ⟨a, lo, hi, e, ha, ⟨h1, h2, h3, h4⟩, q⟩ := q1
  subst e
  cases r1
  obtain ⟨t, u, w, g⟩ := I1.hok a _ ha
  refine wpAny_pyIter_range (show IsRange s1.heap a lo hi 1 t u w from g) (small_one h1 h2 h3 h4) ?_
  refine pi_one (tk := s1.toks) I1 _ (turn_range _ lo (hi - lo).toNat) ?_ q
  have e1 : lo + ((0 : Nat) : Int) * 1 = lo := by simp
  have e2 : (((hi - lo).toNat : Nat) : Int) - ((0 : Nat) : Int) = Builtin.Range.rangeSize lo hi 1 := by rw [rangeSize_one]; split <;> omega
  show IsRangeIter _ _ (lo + ((0 : Nat) : Int) * 1) ((((hi - lo).toNat : Nat) : Int) - ((0 : Nat) : Int)) 1
  rw [e1, e2]
  exact Heap.get?_push_size _ rfl
/-! days as data that can be shown -/
theorem Fine.ldl {i : Int} (k : Nat) (h0 : 0 ≤ i) (h1 : i ≤ 1000000) : Fine k 20 (.int i) := by
  have n : i.natAbs < 2 ^ 20 := by omega
  have l : i.natAbs ≠ 0 → i.natAbs.log2 < 20 := fun z => (Nat.log2_lt z).mpr n
  refine ⟨rfl, Nat.zero_le _, ?_, decide_eq_true (PyData.shown_int_le (by omega)), decide_eq_true ?_, rfl⟩
  · show (if i == 0 then 0 else i.natAbs.log2 + 1) ≤ 20
    by_cases c : i = 0
    · rw [c]
      decide
    · rw [if_neg (by simpa using c)]
      have := l (by omega)
      omega
  · by_cases c : i.natAbs = 0
    · rw [c]
      decide
    · have := l c
      omega
theorem FineAll.ldl (k : Nat) : ∀ {ns : List Int}, Ldl ns → FineAll k (21 * ns.length) (ns.map PyData.int)
  | [], _ => FineAll.nil k
  | z :: r, h => by
    have a := Fine.ldl k (h z List.mem_cons_self).1 (h z List.mem_cons_self).2
    have b := FineAll.cons a (FineAll.ldl k (ns := r) fun y hy => h y (List.mem_cons_of_mem _ hy))
    have e : 20 + 1 + 21 * r.length = 21 * (z :: r).length := by rw [List.length_cons]; omega
    rw [e] at b
    exact b
theorem FineAll.lst {k w : Nat} {ds : List PyData} (t : FineAll k w ds) : Fine (k + 1) w (.list ds) := ⟨t.lay, Nat.succ_le_succ t.dep, t.wt, t.ish, t.sh, t.nd⟩
theorem ldl_dp {K : PySem.W.Frag} {H : Hp} {p t : Addr} {ns : List Int} {b : Bool} (h : IsB' K H p t ns b) (L : Ldl ns) (l : ns.length ≤ 48) : ∃ d, Fine 1 1008 d ∧ ∀ H', Same H H' → Dp K H' (.ref t) d := by
  have f := FineAll.ldl 0 L
  cases b with
  | true => exact ⟨.list (ns.map PyData.int), (FineAll.lst f).up (Nat.le_refl _) (by omega), fun H' s => .lst (h.same s).1 (nums_dps ns)⟩
  | false => exact ⟨.tuple (ns.map PyData.int), (FineAll.tup f).up (Nat.le_refl _) (by omega), fun H' s => .tup (h.same s).1 (nums_dps ns)⟩
theorem kts_dp {K : PySem.W.Frag} {H : Hp} {p : Addr} : ∀ (as : List Addr) (ks : List (Int × List Int)), as.length = ks.length → (∀ (j : Nat) (a : Addr) (k : Int × List Int), as[j]? = some a → ks[j]? = some k → KtAt K H p a k) → (∀ k ∈ ks, 0 ≤ k.1 ∧ k.1 ≤ 1000000 ∧ Ldl k.2 ∧ k.2.length ≤ 48) → ∃ ds, FineAll 2 (1100 * ks.length) ds ∧ ∀ H', Same H H' → DpAll K H' (as.map V.ref) ds
  | [], [], _, _, _ => ⟨[], FineAll.nil 2, fun _ _ => .nil⟩
  | a :: as, k :: ks, l, at_, ok => by
    obtain ⟨ds, f, dp⟩ := kts_dp as ks (by rw [List.length_cons, List.length_cons] at l; omega) (fun j a k e1 e2 => at_ (j + 1) a k e1 e2) fun k hk => ok k (List.mem_cons_of_mem _ hk)
    obtain ⟨t, b, h1, h2⟩ := (at_ 0 a k rfl rfl).ex
    obtain ⟨o1, o2, o3, o4⟩ := ok k List.mem_cons_self
    obtain ⟨dt, ft, dpt⟩ := ldl_dp h2 o3 o4
    have fk := FineAll.tup (FineAll.cons (Fine.ldl 1 o1 o2) (FineAll.cons ft (FineAll.nil 1)))
    have fa := FineAll.cons (fk.up (w' := 1099) (Nat.le_refl _) (by omega)) f
    refine ⟨.tuple [.int k.1, dt] :: ds, ?_, fun H' s => .cons (.tup (Same.tup s h1) (.cons (.int _) (.cons (dpt H' s) .nil))) (dp H' s)⟩
    have e : 1099 + 1 + 1100 * ks.length = 1100 * (k :: ks).length := by rw [List.length_cons]; omega
    rw [e] at fa
    exact fa
theorem DayAt.shows {K : PySem.W.Frag} {H : Hp} {p a : Addr} {x : DyP} {D : Dy} (h : DayAt K H p a x D) (O : DyOk D) (N : DyNn D) : ∃ d, Fine 4 20000 d ∧ ∀ H', Same H H' → Dp K H' (.ref a) d := by
  have h2 := O.h2
  have k2 := O.k2
  obtain ⟨dc, fc, dpc⟩ := ldl_dp h.cs N.cs h2
  obtain ⟨dss, fs, dps⟩ := ldl_dp h.ss N.ss (by rw [O.sl]; exact h2)
  obtain ⟨dk, fk, dpk⟩ := kts_dp x.as D.ks h.len h.kt fun k hk => ⟨by have := (N.ks k hk).1; omega, (N.ks k hk).2.1, (N.ks k hk).2.2, by rw [O.ts k hk]; exact h2⟩
  have mid : ∃ d2, Fine 3 (1100 * D.ks.length) d2 ∧ PyData.depth d2 ≤ 3 ∧ ∀ H', Same H H' → Dp K H' (.ref x.k) d2 := by
    have hk := h.ks
    cases e : x.pk with
    | true =>
      rw [e] at hk
      exact ⟨.list dk, FineAll.lst fk, (FineAll.lst fk).dep, fun H' s => .lst (Same.seq s hk) (dpk H' s)⟩
    | false =>
      rw [e] at hk
      exact ⟨.tuple dk, FineAll.tup fk, (FineAll.tup fk).dep, fun H' s => .tup (Same.tup s hk) (dpk H' s)⟩
  obtain ⟨d2, f2, _, dp2⟩ := mid
  refine ⟨.tuple [dc, d2, dss], ?_, fun H' s => .tup (Same.tup s h.at_) (.cons (dpc H' s) (.cons (dp2 H' s) (.cons (dps H' s) .nil)))⟩
  have f := FineAll.tup (FineAll.cons (fc.up (k' := 3) (by decide) (Nat.le_refl _)) (FineAll.cons f2 (FineAll.cons (fs.up (k' := 3) (by decide) (Nat.le_refl _)) (FineAll.nil 3))))
  exact f.up (Nat.le_refl _) (by omega)
/-- a plan as data -/
def planD (D : Dy) : PyData := .list ((List.range (D.ks.length + 1)).map fun j => din (rowI D j))
theorem nums_dk {K : PySem.W.Frag} {H : Hp} {r : Addr} {ns : List Int} (n : Nat) (h : H r = some (.lst (ns.map V.int))) (l : ns.length ≤ 100000) : Dk K H (n + 2) (.ref r) (din ns) :=
  .lst h (by rw [List.length_map, List.length_map]) (by rw [List.length_map]; exact l) fun i x d e1 e2 => by
    rw [List.getElem?_map] at e1 e2
    obtain ⟨z, ez, rfl⟩ := Option.map_eq_some_iff.mp e1
    rw [ez] at e2
    cases e2
    exact .int n z
theorem plan_dk {K : PySem.W.Frag} {H : Hp} {f : Addr} {rs : List Addr} {D : Dy} (O : DyOk D) (hf : H f = some (.lst (rs.map V.ref))) (lr : rs.length = D.ks.length + 1) (rows : ∀ (j : Nat) (r : Addr), rs[j]? = some r → H r = some (.lst ((rowI D j).map V.int))) : Dk K H 5 (.ref f) (planD D) := by
  have k2 := O.k2
  have h2 := O.h2
  refine .lst hf (by rw [List.length_map, List.length_map, List.length_range, lr]) (by rw [List.length_map]; omega) fun i x d e1 e2 => ?_
  rw [List.getElem?_map] at e1 e2
  obtain ⟨r, er, rfl⟩ := Option.map_eq_some_iff.mp e1
  obtain ⟨j, ej, rfl⟩ := Option.map_eq_some_iff.mp e2
  obtain ⟨hi, rfl⟩ := List.getElem?_eq_some_iff.mp ej
  rw [List.getElem_range]
  exact nums_dk 2 (rows i r er) (by rw [row_len]; omega)
/-- how many are struck in all -/
def mostD (D : Dy) : Int := tk D D.cs.length D.ks.length
end KR
/-! ### all plans of a small day, as tables of sums -/
namespace KR
open PySem PySem.Spec PyProof.Rows L2
abbrev Tbl := List (List Int)
def rowT (Xs : Tbl) (p : Nat) : List Int := Xs.getD p []
theorem rowT_at {Xs : Tbl} {p : Nat} {xs : List Int} (h : Xs[p]? = some xs) : rowT Xs p = xs := by
  unfold rowT
  rw [List.getD_eq_getElem?_getD, h] <;> rfl
def firstT (D : Dy) (S : Tbl) (p t : Nat) : Int := if p = 0 then csum D (t + 1) else (rowT S (p - 1)).getD t 0
def mayT (D : Dy) (p t : Nat) : Int := if p = D.ks.length then D.ss.getD t 0 else (kt D p).2.getD t 0
def mostT (D : Dy) (S : Tbl) (p t : Nat) : Int := if p < D.ks.length then min (firstT D S p t - (rowT S p).getD t 0) ((kt D p).1 + (rowT S (p + 1)).getD (t + 1) 0 - (rowT S p).getD t 0) else firstT D S p t - (rowT S p).getD t 0
def putT (S : Tbl) (p t : Nat) (x : Int) : Tbl := S.set p (rowT S p ++ [(rowT S p).getD t 0 + x])
def extT (D : Dy) (p t : Nat) (S : Tbl) : List Tbl := (List.range (min (mostT D S p t) (mayT D p t) + 1).toNat).map fun x : Nat => putT S p t (x : Int)
def genP (D : Dy) (t : Nat) (F : List Tbl) : Nat → List Tbl
  | 0 => F
  | j + 1 => (genP D t F j).flatMap (extT D (D.ks.length - j) t)
def genH (D : Dy) : Nat → List Tbl
  | 0 => [List.replicate (D.ks.length + 1) [0]]
  | t + 1 => genP D t (genH D t) (D.ks.length + 1)
def lenT (D : Dy) (t j p : Nat) : Nat := if D.ks.length < p + j then t + 2 else t + 1
def topR (D : Dy) (n p : Nat) : List Int := (List.range n).map fun u => tk D u p
def topT (D : Dy) (t j : Nat) : Tbl := (List.range (D.ks.length + 1)).map fun p => topR D (lenT D t j p) p
theorem topR_len (D : Dy) (n p : Nat) : (topR D n p).length = n := by
  unfold topR
  rw [List.length_map, List.length_range]
theorem topR_get {D : Dy} {n p u : Nat} (h : u < n) : (topR D n p).getD u 0 = tk D u p := by
  unfold topR
  rw [List.getD_eq_getElem?_getD, List.getElem?_map, List.getElem?_range h] <;> rfl
theorem topT_at {D : Dy} {t j p : Nat} (h : p ≤ D.ks.length) : (topT D t j)[p]? = some (topR D (lenT D t j p) p) := by
  unfold topT
  rw [List.getElem?_map, List.getElem?_range (by omega)] <;> rfl
theorem topT_F {D : Dy} {t j p : Nat} (h : p ≤ D.ks.length) : rowT (topT D t j) p = topR D (lenT D t j p) p := rowT_at (topT_at h)
theorem topT_len (D : Dy) (t j : Nat) : (topT D t j).length = D.ks.length + 1 := by
  unfold topT
  rw [List.length_map, List.length_range]
structure Shape (D : Dy) (t j : Nat) (S : Tbl) : Prop where
  len : S.length = D.ks.length + 1
  row : ∀ p, p ≤ D.ks.length → (rowT S p).length = lenT D t j p
  val : ∀ p u, p ≤ D.ks.length → u < lenT D t j p → 0 ≤ (rowT S p).getD u 0 ∧ (rowT S p).getD u 0 ≤ tk D u p
theorem rowT_set_ne {S : Tbl} {p q : Nat} {r : List Int} (h : q ≠ p) : rowT (S.set p r) q = rowT S q := by
  unfold rowT
  rw [List.getD_eq_getElem?_getD, List.getD_eq_getElem?_getD, List.getElem?_set, if_neg (fun z => h z.symm)]
theorem rowT_set_eq {S : Tbl} {p : Nat} {r : List Int} (h : p < S.length) : rowT (S.set p r) p = r := by
  unfold rowT
  rw [List.getD_eq_getElem?_getD, List.getElem?_set, if_pos rfl, if_pos h] <;> rfl
theorem rowT_get {S : Tbl} {p : Nat} (h : p < S.length) : S[p]? = some (rowT S p) := by
  unfold rowT
  rw [List.getD_eq_getElem?_getD, List.getElem?_eq_getElem h] <;> rfl
/-- no plan has more -/
theorem ext_shape {D : Dy} {t j : Nat} {S S' : Tbl} (hj : j ≤ D.ks.length) (k1 : 1 ≤ D.ks.length) (h : Shape D t j S) (m : S' ∈ extT D (D.ks.length - j) t S) : Shape D t (j + 1) S' := by
  unfold extT at m
  obtain ⟨x, hx, rfl⟩ := List.mem_map.mp m
  have hx := List.mem_range.mp hx
  generalize ep : D.ks.length - j = p at hx
  have hp : p ≤ D.ks.length := by omega
  have hl : p < S.length := by rw [h.len]; omega
  have lp : lenT D t j p = t + 1 := if_neg (by omega)
  have lp' : lenT D t (j + 1) p = t + 2 := if_pos (by omega)
  have lq : ∀ q, q ≠ p → q ≤ D.ks.length → lenT D t (j + 1) q = lenT D t j q := fun q hq hk => by
    unfold lenT
    by_cases c : D.ks.length < q + j
    · rw [if_pos c, if_pos (by omega)]
    · rw [if_neg c, if_neg (by omega)]
  have v0 := h.val p t hp (by rw [lp]; omega)
  have xm : (x : Int) ≤ mostT D S p t := by omega
  have xy : (x : Int) ≤ mayT D p t := by omega
  unfold putT
  refine ⟨by rw [List.length_set]; exact h.len, fun q hq => ?_, fun q u hq hu => ?_⟩
  · by_cases c : q = p
    · subst c
      rw [rowT_set_eq hl, List.length_append, h.row q hq, lp, lp'] <;> rfl
    · rw [rowT_set_ne c, h.row q hq, lq q c hq]
  · by_cases c : q = p
    · subst c
      rw [rowT_set_eq hl]
      rw [lp'] at hu
      have lr := h.row q hq
      rw [lp] at lr
      by_cases cu : u < t + 1
      · rw [List.getD_eq_getElem?_getD, List.getElem?_append_left (by omega), ← List.getD_eq_getElem?_getD]
        exact h.val q u hq (by rw [lp]; exact cu)
      · obtain rfl : u = t + 1 := by omega
        rw [List.getD_eq_getElem?_getD, List.getElem?_append_right (by omega), lr, Nat.sub_self]
        show 0 ≤ (rowT S q).getD t 0 + (x : Int) ∧ (rowT S q).getD t 0 + (x : Int) ≤ tk D (t + 1) q
        have f1 : firstT D S q t ≤ if q = 0 then csum D (t + 1) else tk D t (q - 1) := by
          unfold firstT
          by_cases c0 : q = 0
          · rw [if_pos c0, if_pos c0]
            exact Int.le_refl _
          · rw [if_neg c0, if_neg c0]
            exact (h.val (q - 1) t (by omega) (by unfold lenT; split <;> omega)).2
        refine ⟨by omega, ?_⟩
        by_cases cK : q = D.ks.length
        · subst cK
          have a := tk_last D t
          unfold mostT at xm
          unfold mayT at xy
          rw [if_neg (Nat.lt_irrefl _)] at xm
          rw [if_pos rfl] at xy
          rw [if_neg (by omega)] at f1
          omega
        · have a := tk_at (D := D) (t := t) (p := q) (by omega)
          unfold mostT at xm
          unfold mayT at xy
          rw [if_pos (by omega)] at xm
          rw [if_neg cK] at xy
          have g := (h.val (q + 1) (t + 1) (by omega) (by unfold lenT; rw [if_pos (by omega)]; omega)).2
          omega
    · rw [rowT_set_ne c]
      exact h.val q u hq (by rw [← lq q c hq]; exact hu)
theorem genP_shape {D : Dy} {t : Nat} {F : List Tbl} (k1 : 1 ≤ D.ks.length) (h : ∀ S ∈ F, Shape D t 0 S) : ∀ j, j ≤ D.ks.length + 1 → ∀ S ∈ genP D t F j, Shape D t j S
  | 0, _, S, m => h S m
  | j + 1, hj, S, m => by
    obtain ⟨S0, m0, m1⟩ := List.mem_flatMap.mp (show S ∈ (genP D t F j).flatMap (extT D (D.ks.length - j) t) from m)
    exact ext_shape (by omega) k1 (genP_shape k1 h j (by omega) S0 m0) m1
theorem shape_next {D : Dy} {t : Nat} {S : Tbl} (h : Shape D t (D.ks.length + 1) S) : Shape D (t + 1) 0 S := by
  have e : ∀ p, p ≤ D.ks.length → lenT D (t + 1) 0 p = lenT D t (D.ks.length + 1) p := fun p hp => by
    unfold lenT
    rw [if_neg (by omega), if_pos (by omega)]
  exact ⟨h.len, fun p hp => by rw [h.row p hp, e p hp], fun p u hp hu => h.val p u hp (by rw [← e p hp]; exact hu)⟩
theorem genH_shape {D : Dy} (k1 : 1 ≤ D.ks.length) : ∀ t, ∀ S ∈ genH D t, Shape D t 0 S
  | 0, S, m => by
    rw [List.mem_singleton.mp m]
    have e : ∀ p, p ≤ D.ks.length → rowT (List.replicate (D.ks.length + 1) [(0 : Int)]) p = [0] := fun p hp => rowT_at (by rw [List.getElem?_replicate, if_pos (by omega)])
    refine ⟨List.length_replicate, fun p hp => ?_, fun p u hp hu => ?_⟩
    · rw [e p hp]
      exact (if_neg (by omega)).symm
    · rw [e p hp]
      have hu : u < 1 := by
        have : lenT D 0 0 p = 1 := if_neg (by omega)
        omega
      obtain rfl : u = 0 := by omega
      rw [tk_zero]
      exact ⟨Int.le_refl _, Int.le_refl _⟩
  | t + 1, S, m => shape_next (genP_shape k1 (genH_shape k1 t) _ (Nat.le_refl _) S m)
/-- how often the greatest is among them: once -/
theorem cnt_flat {α β : Type} [BEq α] [LawfulBEq α] [BEq β] {g : α → List β} {G : α} {a : β} (h1 : (g G).count a = 1) : ∀ {F : List α}, (∀ S ∈ F, S ≠ G → (g S).count a = 0) → (F.flatMap g).count a = F.count G
  | [], _ => rfl
  | S :: F, h => by
    rw [List.flatMap_cons, List.count_append, List.count_cons, cnt_flat h1 fun S hS => h S (List.mem_cons_of_mem _ hS)]
    rcases Classical.em (S = G) with c | c
    · subst c
      rw [h1, if_pos (by simp)]
      omega
    · rw [h S List.mem_cons_self c, if_neg (by simpa using c)]
      omega
theorem cnt_one {α : Type} [BEq α] [LawfulBEq α] {a : α} : ∀ {l : List α}, l.Nodup → a ∈ l → l.count a = 1
  | [], _, m => absurd m List.not_mem_nil
  | x :: l, nd, m => by
    obtain ⟨n1, n2⟩ := List.nodup_cons.mp nd
    rw [List.count_cons]
    rcases Classical.em (x = a) with c | c
    · subst c
      rw [List.count_eq_zero.mpr n1, if_pos (by simp)]
    · rw [if_neg (by simpa using c)]
      rcases List.mem_cons.mp m with e | m
      · exact absurd e.symm c
      · exact cnt_one n2 m
theorem top_step {D : Dy} {t j : Nat} (hj : j ≤ D.ks.length) : putT (topT D t j) (D.ks.length - j) t (tk D (t + 1) (D.ks.length - j) - tk D t (D.ks.length - j)) = topT D t (j + 1) := by
  generalize ep : D.ks.length - j = p
  have hp : p ≤ D.ks.length := by omega
  have lp : lenT D t j p = t + 1 := if_neg (by omega)
  have lp' : lenT D t (j + 1) p = t + 2 := if_pos (by omega)
  unfold putT
  rw [topT_F hp, lp, topR_get (by omega), show tk D t p + (tk D (t + 1) p - tk D t p) = tk D (t + 1) p by omega]
  refine List.ext_getElem? fun q => ?_
  rw [List.getElem?_set]
  by_cases c : p = q
  · subst c
    rw [if_pos rfl, if_pos (by rw [topT_len]; omega), topT_at hp, lp']
    congr 1
    unfold topR
    rw [List.range_succ (n := t + 1), List.map_append] <;> rfl
  · rw [if_neg c]
    by_cases hq : q ≤ D.ks.length
    · rw [topT_at hq, topT_at hq]
      congr 2
      unfold lenT
      by_cases c2 : D.ks.length < q + j
      · rw [if_pos c2, if_pos (by omega)]
      · rw [if_neg c2, if_neg (by omega)]
    · rw [List.getElem?_eq_none (by rw [topT_len]; omega), List.getElem?_eq_none (by rw [topT_len]; omega)]
theorem top_most {D : Dy} {t j : Nat} (k1 : 1 ≤ D.ks.length) (hj : j ≤ D.ks.length) : min (mostT D (topT D t j) (D.ks.length - j) t) (mayT D (D.ks.length - j) t) = tk D (t + 1) (D.ks.length - j) - tk D t (D.ks.length - j) := by
  generalize ep : D.ks.length - j = p
  have hp : p ≤ D.ks.length := by omega
  have lp : lenT D t j p = t + 1 := if_neg (by omega)
  have g0 : (rowT (topT D t j) p).getD t 0 = tk D t p := by rw [topT_F hp, lp, topR_get (by omega)]
  have f1 : firstT D (topT D t j) p t = if p = 0 then csum D (t + 1) else tk D t (p - 1) := by
    unfold firstT
    by_cases c0 : p = 0
    · rw [if_pos c0, if_pos c0]
    · rw [if_neg c0, if_neg c0, topT_F (by omega), topR_get (by unfold lenT; split <;> omega)]
  unfold mostT mayT
  rw [g0, f1]
  by_cases cK : p = D.ks.length
  · rw [if_neg (by omega), if_pos cK, if_neg (by omega)]
    have a := tk_last D t
    rw [← cK] at a
    omega
  · rw [if_pos (by omega), if_neg cK, topT_F (by omega), topR_get (by unfold lenT; rw [if_pos (by omega)]; omega)]
    have a := tk_at (D := D) (t := t) (p := p) (by omega)
    omega
theorem genP_count {D : Dy} {t : Nat} {F : List Tbl} (N : DyNn D) (k1 : 1 ≤ D.ks.length) (mono : ∀ p, p ≤ D.ks.length → tk D t p ≤ tk D (t + 1) p) (h : ∀ S ∈ F, Shape D t 0 S) (c : F.count (topT D t 0) = 1) : ∀ j, j ≤ D.ks.length + 1 → (genP D t F j).count (topT D t j) = 1
  | 0, _ => c
  | j + 1, hj => by
    have ih := genP_count N k1 mono h c j (by omega)
    have sh := genP_shape k1 h j (by omega)
    have jk : j ≤ D.ks.length := by omega
    have st := top_step (D := D) (t := t) jk
    have tm := top_most (D := D) (t := t) k1 jk
    show ((genP D t F j).flatMap (extT D (D.ks.length - j) t)).count (topT D t (j + 1)) = 1
    generalize ep : D.ks.length - j = p at st tm
    have hp : p ≤ D.ks.length := by omega
    have lp : lenT D t j p = t + 1 := if_neg (by omega)
    have m0 := mono p hp
    refine (cnt_flat (α := Tbl) (β := Tbl) (g := extT D p t) (G := topT D t j) (a := topT D t (j + 1)) ?_ fun S hS ne => ?_).trans ih
    · refine cnt_one ?_ ?_
      · unfold extT
        refine List.nodup_iff_pairwise_ne.mpr ?_
        rw [List.pairwise_map]
        refine List.Pairwise.imp (fun {a b} hab e => ?_) (List.nodup_iff_pairwise_ne.mp List.nodup_range)
        have e2 : rowT (putT (topT D t j) p t (a : Int)) p = rowT (putT (topT D t j) p t (b : Int)) p := by rw [e]
        unfold putT at e2
        rw [rowT_set_eq (by rw [topT_len]; omega), rowT_set_eq (by rw [topT_len]; omega)] at e2
        have e3 := List.append_cancel_left e2
        injection e3 with e3
        exact hab (by omega)
      · unfold extT
        rw [tm]
        refine List.mem_map.mpr ⟨(tk D (t + 1) p - tk D t p).toNat, List.mem_range.mpr (by omega), ?_⟩
        rw [show (((tk D (t + 1) p - tk D t p).toNat : Nat) : Int) = tk D (t + 1) p - tk D t p by omega]
        exact st
    · refine List.count_eq_zero.mpr fun m => ne ?_
      unfold extT at m
      obtain ⟨x, _, e⟩ := List.mem_map.mp m
      have hS' := sh S hS
      unfold putT at e
      refine List.ext_getElem? fun q => ?_
      by_cases hq : q ≤ D.ks.length
      · have e2 : rowT (S.set p (rowT S p ++ [(rowT S p).getD t 0 + (x : Int)])) q = rowT (topT D t (j + 1)) q := by rw [e]
        rw [rowT_get (by rw [hS'.len]; omega), rowT_get (by rw [topT_len]; omega)]
        congr 1
        by_cases c : q = p
        · subst c
          rw [rowT_set_eq (by rw [hS'.len]; omega), topT_F hq, show lenT D t (j + 1) q = t + 1 + 1 from if_pos (by omega)] at e2
          rw [topT_F hq, lp]
          have e3 : topR D (t + 1 + 1) q = topR D (t + 1) q ++ [tk D (t + 1) q] := by
            unfold topR
            rw [List.range_succ, List.map_append] <;> rfl
          rw [e3] at e2
          exact (List.append_inj' e2 rfl).1
        · rw [rowT_set_ne c, topT_F hq] at e2
          rw [e2, topT_F hq]
          congr 1
          unfold lenT
          by_cases c2 : D.ks.length < q + j
          · rw [if_pos c2, if_pos (by omega)]
          · rw [if_neg c2, if_neg (by omega)]
      · rw [List.getElem?_eq_none (by rw [hS'.len]; omega), List.getElem?_eq_none (by rw [topT_len]; omega)]
theorem top_next (D : Dy) (t : Nat) : topT D t (D.ks.length + 1) = topT D (t + 1) 0 := by
  unfold topT
  refine List.map_congr_left fun p hp => ?_
  have := List.mem_range.mp hp
  congr 1
  unfold lenT
  rw [if_pos (by omega), if_neg (by omega)]
theorem top_zero (D : Dy) : topT D 0 0 = List.replicate (D.ks.length + 1) [0] := by
  refine List.eq_replicate_iff.mpr ⟨topT_len D 0 0, fun r hr => ?_⟩
  unfold topT at hr
  obtain ⟨p, hp, rfl⟩ := List.mem_map.mp hr
  have := List.mem_range.mp hp
  rw [show lenT D 0 0 p = 1 from if_neg (by omega)] <;> rfl
theorem genH_count {D : Dy} (N : DyNn D) (k1 : 1 ≤ D.ks.length) (mono : ∀ t p, p ≤ D.ks.length → tk D t p ≤ tk D (t + 1) p) : ∀ t, (genH D t).count (topT D t 0) = 1
  | 0 => by
    rw [top_zero]
    show [List.replicate (D.ks.length + 1) [(0 : Int)]].count _ = 1
    rw [List.count_cons, if_pos (by simp), List.count_nil]
  | t + 1 => by
    have := genP_count N k1 (mono t) (genH_shape k1 t) (genH_count N k1 mono t) (D.ks.length + 1) (Nat.le_refl _)
    rw [top_next] at this
    exact this
/-- there are not too many -/
theorem ext_len {D : Dy} {p t : Nat} {S : Tbl} (h : mayT D p t ≤ 2) : (extT D p t S).length ≤ 3 := by
  unfold extT
  rw [List.length_map, List.length_range]
  omega
theorem flat_len {α β : Type} {g : α → List β} {n : Nat} : ∀ {F : List α}, (∀ S ∈ F, (g S).length ≤ n) → (F.flatMap g).length ≤ F.length * n
  | [], _ => Nat.zero_le _
  | S :: F, h => by
    rw [List.flatMap_cons, List.length_append, List.length_cons, Nat.succ_mul]
    have a := h S List.mem_cons_self
    have b := flat_len (F := F) (n := n) fun S hS => h S (List.mem_cons_of_mem _ hS)
    omega
theorem mem_kt3 {D : Dy} {p : Nat} (h : p < D.ks.length) : kt D p ∈ D.ks := by
  unfold kt
  rw [List.getD_eq_getElem?_getD, List.getElem?_eq_getElem h]
  exact List.getElem_mem h
theorem csum_mono3 {D : Dy} (N : DyNn D) (t : Nat) : csum D t ≤ csum D (t + 1) := by
  unfold csum
  by_cases c : t < D.cs.length
  · rw [take_one (List.getElem?_eq_getElem c), List.sum_append, List.sum_cons, List.sum_nil]
    have := (N.cs _ (List.getElem_mem c)).1
    omega
  · rw [List.take_of_length_le (by omega), List.take_of_length_le (by omega)]
    exact Int.le_refl _
/-- a place has no less an hour later -/
theorem tk_mono3 {D : Dy} (N : DyNn D) (k1 : 1 ≤ D.ks.length) : ∀ t q p, p + q = D.ks.length → tk D t p ≤ tk D (t + 1) p := fun t => by
  induction t with
  | zero =>
    intro q p h
    rw [tk_zero]
    exact (tk_nn N 1 q p h).1
  | succ t ih =>
    intro q
    induction q with
    | zero =>
      intro p h
      have hp : p = D.ks.length := by omega
      subst hp
      have a := tk_last D t
      have b := tk_last D (t + 1)
      have c := ih 1 (D.ks.length - 1) (by omega)
      have d := (ldl_at N.ss (t + 1)).1
      omega
    | succ q ihq =>
      intro p h
      have hp : p < D.ks.length := by omega
      have a := tk_at (D := D) (t := t) hp
      have b := tk_at (D := D) (t := t + 1) hp
      have c := ihq (p + 1) (by omega)
      have k := N.ks _ (mem_kt3 hp)
      have d := (ldl_at k.2.2 (t + 1)).1
      have s := csum_mono3 N (t + 1)
      by_cases c0 : p = 0
      · rw [if_pos c0] at a b
        omega
      · rw [if_neg c0] at a b
        have e := ih (q + 2) (p - 1) (by omega)
        omega
/-! tables as data; how often one is among them -/
def tabD (S : Tbl) : PyData := .list (S.map din)
theorem dins_eqv : ∀ (a b : Tbl), PyData.eqvAll (a.map din) (b.map din) = decide (a = b)
  | [], [] => rfl
  | [], _ :: _ => rfl
  | _ :: _, [] => rfl
  | x :: a, y :: b => by
    show (PyData.eqv (din x) (din y) && PyData.eqvAll (a.map din) (b.map din)) = _
    rw [dins_eqv a b, din_eqv]
    by_cases c : x = y
    · subst c
      by_cases d : a = b
      · subst d
        simp
      · simp [d]
    · simp [c]
theorem tab_eqv (a b : Tbl) : PyData.eqv (tabD a) (tabD b) = decide (a = b) := dins_eqv a b
theorem ints_plain : ∀ ns : List Int, PyData.plainAll (ns.map PyData.int) = true
  | [] => rfl
  | _ :: r => ints_plain r
theorem dins_plain : ∀ S : Tbl, PyData.plainAll (S.map din) = true
  | [] => rfl
  | x :: r => by
    show (PyData.plain (din x) && PyData.plainAll (r.map din)) = true
    rw [dins_plain r]
    show (PyData.plainAll (x.map PyData.int) && true) = true
    rw [ints_plain x] <;> rfl
theorem tabs_plain : ∀ F : List Tbl, PyData.plainAll (F.map tabD) = true
  | [] => rfl
  | x :: r => by
    show (PyData.plainAll (x.map din) && PyData.plainAll (r.map tabD)) = true
    rw [tabs_plain r, dins_plain x] <;> rfl
theorem ints_depth : ∀ ns : List Int, PyData.depthAll (ns.map PyData.int) = 0
  | [] => rfl
  | _ :: r => by
    show max 0 (PyData.depthAll (r.map PyData.int)) = 0
    rw [ints_depth r] <;> rfl
theorem dins_depth : ∀ S : Tbl, PyData.depthAll (S.map din) ≤ 1
  | [] => by decide
  | x :: r => by
    show max (PyData.depthAll (x.map PyData.int) + 1) (PyData.depthAll (r.map din)) ≤ 1
    have := dins_depth r
    rw [ints_depth x]
    omega
def rCntD (K : PySem.W.Frag) : V → List V → Hp → VK → Prop := fun x xs H Q => ∃ (p : Addr) (vs : List V) (ds : List PyData) (y : V) (d : PyData), x = .ref p ∧ xs = [y] ∧ SqL K H p vs ∧ DpAll K H vs ds ∧ Dp K H y d ∧ PyData.plainAll ds = true ∧ PyData.plain d = true ∧ PyData.depth d ≤ 60 ∧ Q (.int ((ds.countP fun z => PyData.eqv z d : Nat) : Int)) H
theorem mt_cntD {X : Cx} {K : PySem.W.Frag} (hK : X.K = K) (hu : X.A.units + 64 < cLine) : MtR X "list.count" (rCntD K) := by
  subst hK
  intro pins s σ H x xs v us Q I rx rxs ask
  obtain ⟨p, vs, ds, y, d, rfl, rfl, hs, hd, hy, p1, p2, dd, q⟩ := ask
  cases rx
  obtain ⟨u, rfl, ru⟩ := rxs.one
  obtain ⟨its, rv, pl, hlen⟩ := I.list hs
  obtain ⟨as, rd⟩ := Dp.readsAll I ds vs _ hd rv
  obtain ⟨bs, rb⟩ := Dp.reads I d y u hy ru
  exact SeqAt.count_list_data pl.isList rd rb p1 p2 (by omega) ⟨.int _, H, I.tok _, ⟨_, rfl⟩, q⟩
theorem tab_cnt (G : Tbl) : ∀ F : List Tbl, (F.map tabD).countP (fun z => PyData.eqv z (tabD G)) = F.count G
  | [] => rfl
  | S :: F => by
    rw [List.map_cons, List.countP_cons, tab_cnt G F, List.count_cons, tab_eqv]
    rcases Classical.em (S = G) with c | c
    · rw [decide_eq_true c, if_pos rfl, if_pos (by simpa using c)]
    · rw [decide_eq_false c, if_neg Bool.false_ne_true, if_neg (by simpa using c)]
/-! where tables stand: none of their lists is f, which is written -/
def RwAt (H : Hp) (f r : Addr) (ns : List Int) : Prop := H r = some (.lst (ns.map V.int)) ∧ r ≠ f
def TbAt (H : Hp) (f a : Addr) (S : Tbl) : Prop := ∃ rs : List Addr, H a = some (.lst (rs.map V.ref)) ∧ a ≠ f ∧ Paired (RwAt H f) rs S
def Tbs (H : Hp) (f : Addr) (as : List Addr) (F : List Tbl) : Prop := Paired (TbAt H f) as F
theorem pair_map {α β : Type} {R R' : α → β → Prop} (m : ∀ a b, R a b → R' a b) {as : List α} {bs : List β} (h : Paired R as bs) : Paired R' as bs := by
  induction h with
  | nil => exact .nil
  | cons a _ ih => exact .cons (m _ _ a) ih
theorem pair_app {α β : Type} {R : α → β → Prop} {as cs : List α} {bs ds : List β} (h : Paired R as bs) (k : Paired R cs ds) : Paired R (as ++ cs) (bs ++ ds) := by
  induction h with
  | nil => exact k
  | cons a _ ih => exact .cons a ih
theorem pair_get {α β : Type} {R : α → β → Prop} : ∀ {as : List α} {bs : List β}, Paired R as bs → ∀ {i : Nat} {a : α}, as[i]? = some a → ∃ b, bs[i]? = some b ∧ R a b
  | [], _, _, i, _, e => by simp at e
  | _ :: _, _, .cons a h, 0, _, e => by cases e; exact ⟨_, rfl, a⟩
  | _ :: _, _, .cons _ h, i + 1, _, e => pair_get h (i := i) e
theorem pair_getR {α β : Type} {R : α → β → Prop} : ∀ {as : List α} {bs : List β}, Paired R as bs → ∀ {i : Nat} {b : β}, bs[i]? = some b → ∃ a, as[i]? = some a ∧ R a b
  | _, [], _, i, _, e => by simp at e
  | _, _ :: _, .cons a h, 0, _, e => by cases e; exact ⟨_, rfl, a⟩
  | _, _ :: _, .cons _ h, i + 1, _, e => pair_getR h (i := i) e
theorem pair_set {α β : Type} {R : α → β → Prop} : ∀ {as : List α} {bs : List β}, Paired R as bs → ∀ {i : Nat} {a : α} {b : β}, R a b → Paired R (as.set i a) (bs.set i b)
  | [], [], .nil, _, _, _, _ => .nil
  | _ :: _, _ :: _, .cons _ h, 0, _, _, r => .cons r h
  | _ :: _, _ :: _, .cons a h, i + 1, _, _, r => .cons a (pair_set h (i := i) r)
theorem RwAt.fr {H H' : Hp} {f r : Addr} {ns : List Int} (h : RwAt H f r ns) (F : Fr f H H') : RwAt H' f r ns := ⟨F _ _ h.2 h.1, h.2⟩
theorem RwAt.to {H : Hp} {f g r : Addr} {ns : List Int} (h : RwAt H f r ns) (n : H g = none) : RwAt H g r ns := ⟨h.1, ne_of_none h.1 n⟩
theorem TbAt.fr {H H' : Hp} {f a : Addr} {S : Tbl} (h : TbAt H f a S) (F : Fr f H H') : TbAt H' f a S := by
  obtain ⟨rs, h1, h2, h3⟩ := h
  exact ⟨rs, F _ _ h2 h1, h2, pair_map (fun _ _ z => z.fr F) h3⟩
theorem TbAt.to {H : Hp} {f g a : Addr} {S : Tbl} (h : TbAt H f a S) (n : H g = none) : TbAt H g a S := by
  obtain ⟨rs, h1, h2, h3⟩ := h
  exact ⟨rs, h1, ne_of_none h1 n, pair_map (fun _ _ z => z.to n) h3⟩
theorem Tbs.fr {H H' : Hp} {f : Addr} {as : List Addr} {F : List Tbl} (h : Tbs H f as F) (G : Fr f H H') : Tbs H' f as F := pair_map (fun _ _ z => z.fr G) h
theorem Tbs.to {H : Hp} {f g : Addr} {as : List Addr} {F : List Tbl} (h : Tbs H f as F) (n : H g = none) : Tbs H g as F := pair_map (fun _ _ z => z.to n) h
theorem TbAt.dp {K : PySem.W.Frag} {H : Hp} {f a : Addr} {S : Tbl} (h : TbAt H f a S) : Dp K H (.ref a) (tabD S) := by
  obtain ⟨rs, h1, _, h3⟩ := h
  refine .lst (SqL.of h1) ?_
  clear h1
  induction h3 with
  | nil => exact .nil
  | cons a _ ih => exact .cons (din_at a.1) ih
theorem Tbs.dps {K : PySem.W.Frag} {H : Hp} {f : Addr} {as : List Addr} {F : List Tbl} (h : Tbs H f as F) : DpAll K H (as.map V.ref) (F.map tabD) := by
  induction h with
  | nil => exact .nil
  | cons a _ ih => exact .cons a.dp ih
theorem tab_set {rs : List Addr} {p : Nat} {g : Addr} (h : p < rs.length) : cutV (rs.map V.ref) none (some (p : Int)) ++ [V.ref g] ++ cutV (rs.map V.ref) (some ((p : Int) + 1)) none = (rs.set p g).map V.ref := by
  rw [cut_to' (by rw [List.length_map]; omega)]
  have e : cutV (rs.map V.ref) (some ((p : Int) + 1)) none = (rs.map V.ref).drop (p + 1) := by
    unfold cutV
    rw [HT.sIx_none, show ((p : Int) + 1) = ((p + 1 : Nat) : Int) from rfl, HT.sIx_nat, List.length_map, Nat.min_eq_left (by omega), List.take_of_length_le (by rw [List.length_drop, List.length_map]; exact Nat.le_refl _)]
  rw [e, ← List.map_take, ← List.map_drop, List.set_eq_take_append_cons_drop, if_pos h, List.map_append, List.map_cons, List.append_assoc] <;> rfl
theorem rgC_down {k : Nat} (h : k ≤ 8) : RgC (k : Int) (-1) (-1) (k + 1) := by
  have : k = 0 ∨ k = 1 ∨ k = 2 ∨ k = 3 ∨ k = 4 ∨ k = 5 ∨ k = 6 ∨ k = 7 ∨ k = 8 := by omega
  refine ⟨by decide, by decide, ?_, ?_⟩
  · rcases this with e | e | e | e | e | e | e | e | e <;> subst e <;> decide
  · rcases this with e | e | e | e | e | e | e | e | e <;> subst e <;> decide
theorem mayT_le {D : Dy} {p t : Nat} (h1 : ∀ u ∈ D.ss, u ≤ 2) (h2 : ∀ k ∈ D.ks, ∀ u ∈ k.2, u ≤ 2) : mayT D p t ≤ 2 := by
  have g : ∀ ns : List Int, (∀ u ∈ ns, u ≤ 2) → ns.getD t 0 ≤ 2 := fun ns h => by
    rw [List.getD_eq_getElem?_getD]
    cases e : ns[t]? with
    | none => show (0 : Int) ≤ 2; decide
    | some u => exact h u (List.mem_of_getElem? e)
  unfold mayT
  by_cases c : p = D.ks.length
  · rw [if_pos c]
    exact g _ h1
  · rw [if_neg c]
    refine g _ fun u hu => ?_
    unfold kt at hu
    rw [List.getD_eq_getElem?_getD] at hu
    cases e : D.ks[p]? with
    | none =>
      rw [e] at hu
      exact absurd hu List.not_mem_nil
    | some k =>
      rw [e] at hu
      exact h2 k (List.mem_of_getElem? e) u hu
theorem genP_len {D : Dy} {t : Nat} {F : List Tbl} (h1 : ∀ u ∈ D.ss, u ≤ 2) (h2 : ∀ k ∈ D.ks, ∀ u ∈ k.2, u ≤ 2) : ∀ j, (genP D t F j).length ≤ F.length * 3 ^ j
  | 0 => by show F.length ≤ F.length * 1; omega
  | j + 1 => by
    have := genP_len (F := F) (t := t) h1 h2 j
    refine Nat.le_trans (flat_len (n := 3) fun S _ => ext_len (mayT_le h1 h2)) ?_
    rw [Nat.pow_succ, ← Nat.mul_assoc]
    exact Nat.mul_le_mul_right 3 this
theorem genH_len {D : Dy} (h1 : ∀ u ∈ D.ss, u ≤ 2) (h2 : ∀ k ∈ D.ks, ∀ u ∈ k.2, u ≤ 2) : ∀ t, (genH D t).length ≤ 3 ^ (t * (D.ks.length + 1))
  | 0 => by rw [Nat.zero_mul]; exact Nat.le_refl _
  | t + 1 => by
    have a := genP_len (F := genH D t) (t := t) h1 h2 (D.ks.length + 1)
    have b := genH_len h1 h2 t
    rw [Nat.succ_mul, Nat.pow_add]
    exact Nat.le_trans a (Nat.mul_le_mul_right _ b)
theorem gen_small {D : Dy} {t j : Nat} (h1 : ∀ u ∈ D.ss, u ≤ 2) (h2 : ∀ k ∈ D.ks, ∀ u ∈ k.2, u ≤ 2) (h8 : D.cs.length * (D.ks.length + 1) ≤ 8) (ht : t < D.cs.length) (hj : j ≤ D.ks.length + 1) : (genP D t (genH D t) j).length ≤ 6561 := by
  have a := genP_len (F := genH D t) (t := t) h1 h2 j
  have b := genH_len h1 h2 t
  have c : (t + 1) * (D.ks.length + 1) ≤ D.cs.length * (D.ks.length + 1) := Nat.mul_le_mul_right _ ht
  rw [Nat.succ_mul] at c
  refine Nat.le_trans a (Nat.le_trans (Nat.mul_le_mul_right _ b) ?_)
  rw [← Nat.pow_add]
  exact Nat.le_trans (Nat.pow_le_pow_right (by decide) (show t * (D.ks.length + 1) + j ≤ 8 by omega)) (by decide)
theorem csum_nn3 {D : Dy} (N : DyNn D) : ∀ t, 0 ≤ csum D t
  | 0 => by unfold csum; rw [List.take_zero, List.sum_nil]; decide
  | t + 1 => Int.le_trans (csum_nn3 N t) (csum_mono3 N t)
theorem most_lo {D : Dy} {t j : Nat} {S : Tbl} (N : DyNn D) (h2 : t < 48) (h : Shape D t j S) (hj : j ≤ D.ks.length) : -100000000 ≤ mostT D S (D.ks.length - j) t := by
  generalize ep : D.ks.length - j = p
  have hp : p ≤ D.ks.length := by omega
  have lp : lenT D t j p = t + 1 := if_neg (by omega)
  have a := (h.val p t hp (by omega)).2
  have b := (tk_nn N t (D.ks.length - p) p (by omega)).2
  have f0 : 0 ≤ firstT D S p t := by
    unfold firstT
    by_cases c : p = 0
    · rw [if_pos c]
      exact csum_nn3 N _
    · rw [if_neg c]
      exact (h.val (p - 1) t (by omega) (by unfold lenT; split <;> omega)).1
  unfold mostT
  by_cases c : p < D.ks.length
  · rw [if_pos c]
    have g := (h.val (p + 1) (t + 1) (by omega) (by unfold lenT; rw [if_pos (by omega)]; omega)).1
    have k := (N.ks _ (mem_kt3 c)).1
    omega
  · rw [if_neg c]
    omega
theorem may_nn {D : Dy} {p t : Nat} (N : DyNn D) (hp : p ≤ D.ks.length) : 0 ≤ mayT D p t := by
  unfold mayT
  by_cases c : p = D.ks.length
  · rw [if_pos c]
    exact (ldl_at N.ss t).1
  · rw [if_neg c]
    exact (ldl_at (N.ks _ (mem_kt3 (by omega))).2.2 t).1
theorem ext_get {D : Dy} {p t q : Nat} {S : Tbl} (h : q < (min (mostT D S p t) (mayT D p t) + 1).toNat) : (extT D p t S)[q]? = some (putT S p t (q : Int)) := by
  unfold extT
  rw [List.getElem?_map, List.getElem?_range h] <;> rfl
theorem ext_all {D : Dy} {p t : Nat} {S : Tbl} : (extT D p t S).take (min (mostT D S p t) (mayT D p t) + 1).toNat = extT D p t S := by
  refine List.take_of_length_le ?_
  unfold extT
  rw [List.length_map, List.length_range]
  exact Nat.le_refl _
theorem mono3 {D : Dy} (O : DyOk D) (N : DyNn D) : ∀ t p, p ≤ D.ks.length → tk D t p ≤ tk D (t + 1) p := fun t p hp => tk_mono3 N O.k1 t (D.ks.length - p) p (by omega)
theorem len_end {D : Dy} {n p : Nat} (hp : p ≤ D.ks.length) : lenT D n 0 p = n + 1 := if_neg (by omega)
theorem topT_end {D : Dy} {n p : Nat} (hp : p ≤ D.ks.length) : (topT D n 0)[p]? = some (topR D (n + 1) p) := by
  rw [topT_at hp, len_end hp]
theorem topR_take {D : Dy} {n p u : Nat} (h : u < n) : (topR D n p)[u]? = some (tk D u p) := by
  unfold topR
  rw [List.getElem?_map, List.getElem?_range h] <;> rfl
/-- the most of all plans is what the greatest has -/
theorem gen_max {D : Dy} (O : DyOk D) (N : DyNn D) {n p u : Nat} {m : Int} (hp : p ≤ D.ks.length) (hu : u ≤ n) (h1 : m ∈ (genH D n).map fun S => (rowT S p).getD u 0) (h2 : ∀ y ∈ (genH D n).map (fun S => (rowT S p).getD u 0), y ≤ m) : m = tk D u p := by
  obtain ⟨S, hS, rfl⟩ := List.mem_map.mp h1
  have a := ((genH_shape O.k1 n S hS).val p u hp (by rw [len_end hp]; omega)).2
  have c := genH_count N O.k1 (mono3 O N) n
  have mt : topT D n 0 ∈ genH D n := List.count_pos_iff.mp (by omega)
  have b := h2 _ (List.mem_map.mpr ⟨_, mt, rfl⟩)
  rw [rowT_at (topT_end hp), topR_get (by omega)] at b
  omega
theorem tab_deep (S : Tbl) : PyData.depth (tabD S) ≤ 60 := by
  show PyData.depthAll (S.map din) + 1 ≤ 60
  have := dins_depth S
  omega
theorem rws_dp {K : PySem.W.Frag} {H : Hp} {f : Addr} {rs : List Addr} {S : Tbl} (h : Paired (RwAt H f) rs S) : DpAll K H (rs.map V.ref) (S.map din) := by
  induction h with
  | nil => exact .nil
  | cons a _ ih => exact .cons (din_at a.1) ih
end KR
namespace KR
open PySem PySem.Spec PyProof.Rows L2
def top (i : Nat) : Stmt := PySem.Challenge.pw_kettlerow_k63_no_plan_has_more.main.body.getD i (.Pass ⟨0, 0, 0, 0⟩)
abbrev s_p_places_in : Stmt := top 2
theorem sc_p_places_in : FnScope ["day"] ["day"] (defScope s_p_places_in) := ⟨rfl, rfl, rfl, by decide +kernel, rfl, by decide +kernel, by decide +kernel⟩
abbrev s_p_hours_in : Stmt := top 3
theorem sc_p_hours_in : FnScope ["day"] ["day"] (defScope s_p_hours_in) := ⟨rfl, rfl, rfl, by decide +kernel, rfl, by decide +kernel, by decide +kernel⟩
abbrev s_p_bounds_at : Stmt := top 4
theorem sc_p_bounds_at : FnScope ["day", "place", "hour", "comes", "kettles", "strikes", "bounds", "room", "takes"] ["day", "place", "hour"] (defScope s_p_bounds_at) := ⟨rfl, rfl, rfl, by decide +kernel, rfl, by decide +kernel, by decide +kernel⟩
abbrev s_p_reached : Stmt := top 5
theorem sc_p_reached : FnScope ["taken", "bound", "lead", "more"] ["taken", "bound"] (defScope s_p_reached) := ⟨rfl, rfl, rfl, by decide +kernel, rfl, by decide +kernel, by decide +kernel⟩
abbrev s_p_most_plan : Stmt := top 7
theorem sc_p_most_plan : FnScope ["day", "taken", "hours", "hour", "place"] ["day"] (defScope s_p_most_plan) := ⟨rfl, rfl, rfl, by decide +kernel, rfl, by decide +kernel, by decide +kernel⟩
abbrev s_p__most_taken : Stmt := top 8
theorem sc_p__most_taken : FnScope ["day", "taken", "hour", "place", "bounds", "bound"] ["day"] (defScope s_p__most_taken) := ⟨rfl, rfl, rfl, by decide +kernel, rfl, by decide +kernel, by decide +kernel⟩
abbrev s_l_cell_at : Stmt := top 10
theorem sc_l_cell_at : FnScope ["_law_script", "_law_k"] ["_law_script", "_law_k"] (defScope s_l_cell_at) := ⟨rfl, rfl, rfl, by decide +kernel, rfl, by decide +kernel, by decide +kernel⟩
abbrev s_l_box : Stmt := top 11
theorem sc_l_box : FnScope ["_law_script", "_law_k", "_law_cell"] ["_law_script", "_law_k"] (defScope s_l_box) := ⟨rfl, rfl, rfl, by decide +kernel, rfl, by decide +kernel, by decide +kernel⟩
abbrev s_l_take : Stmt := top 12
theorem sc_l_take : FnScope ["_law_box_here", "_law_many", "_law_found", "_law_once", "_law_twice"] ["_law_box_here", "_law_many"] (defScope s_l_take) := ⟨rfl, rfl, rfl, by decide +kernel, rfl, by decide +kernel, by decide +kernel⟩
abbrev s_l_ladles : Stmt := top 13
theorem sc_l_ladles : FnScope ["_law_box_here", "_law_hours", "_law_wide", "_law_way", "_law_hour"] ["_law_box_here", "_law_hours", "_law_wide"] (defScope s_l_ladles) := ⟨rfl, rfl, rfl, by decide +kernel, rfl, by decide +kernel, by decide +kernel⟩
abbrev s_l_day : Stmt := top 14
theorem sc_l_day : FnScope ["_law_box_here", "_law_hours", "_law_pots", "_law_wide", "_law_kettles", "_law_place", "_law_room", "_law_takes"] ["_law_box_here", "_law_hours", "_law_pots", "_law_wide"] (defScope s_l_day) := ⟨rfl, rfl, rfl, by decide +kernel, rfl, by decide +kernel, by decide +kernel⟩
abbrev s_l_all : Stmt := top 16
theorem sc_l_all : FnScope ["_law_day_here", "_law_comes", "_law_kettles", "_law_strikes", "_law_found", "_law_place", "_law_hour", "_law_longer", "_law_may", "_law_sums", "_law_row", "_law_most", "_law_gone", "_law_taken", "_law_more"] ["_law_day_here"] (defScope s_l_all) := ⟨rfl, rfl, rfl, by decide +kernel, rfl, by decide +kernel, by decide +kernel⟩
abbrev s_l_small_day : Stmt := top 17
theorem sc_l_small_day : FnScope ["_law_box_here", "_law_hours", "_law_pots"] ["_law_box_here"] (defScope s_l_small_day) := ⟨rfl, rfl, rfl, by decide +kernel, rfl, by decide +kernel, by decide +kernel⟩
abbrev s_p_law : Stmt := top 18
theorem sc_p_law : FnScope ["_law_script", "_law_k", "_law_box_here", "_law_day_here", "_law_plan", "_law_every", "_law_sums", "_law_row", "_law_hour", "_law_place", "_law_other"] ["_law_script"] (defScope s_p_law) := ⟨rfl, rfl, rfl, by decide +kernel, rfl, by decide +kernel, by decide +kernel⟩
structure All (K : PySem.W.Frag) (mg : Str → Option Value) where
  f_p_places_in : Addr
  fd_p_places_in : FuncData
  d_p_places_in : Def K mg "places_in" s_p_places_in f_p_places_in fd_p_places_in ["day"]
  f_p_hours_in : Addr
  fd_p_hours_in : FuncData
  d_p_hours_in : Def K mg "hours_in" s_p_hours_in f_p_hours_in fd_p_hours_in ["day"]
  f_p_bounds_at : Addr
  fd_p_bounds_at : FuncData
  d_p_bounds_at : Def K mg "bounds_at" s_p_bounds_at f_p_bounds_at fd_p_bounds_at ["day", "place", "hour"]
  f_p_reached : Addr
  fd_p_reached : FuncData
  d_p_reached : Def K mg "reached" s_p_reached f_p_reached fd_p_reached ["taken", "bound"]
  f_p_most_plan : Addr
  fd_p_most_plan : FuncData
  d_p_most_plan : Def K mg "most_plan" s_p_most_plan f_p_most_plan fd_p_most_plan ["day"]
  f_p__most_taken : Addr
  fd_p__most_taken : FuncData
  d_p__most_taken : Def K mg "_most_taken" s_p__most_taken f_p__most_taken fd_p__most_taken ["day"]
  f_l_cell_at : Addr
  fd_l_cell_at : FuncData
  d_l_cell_at : Def K mg "_law_cell_at" s_l_cell_at f_l_cell_at fd_l_cell_at ["_law_script", "_law_k"]
  f_l_box : Addr
  fd_l_box : FuncData
  d_l_box : Def K mg "_law_box" s_l_box f_l_box fd_l_box ["_law_script", "_law_k"]
  f_l_take : Addr
  fd_l_take : FuncData
  d_l_take : Def K mg "_law_take" s_l_take f_l_take fd_l_take ["_law_box_here", "_law_many"]
  f_l_ladles : Addr
  fd_l_ladles : FuncData
  d_l_ladles : Def K mg "_law_ladles" s_l_ladles f_l_ladles fd_l_ladles ["_law_box_here", "_law_hours", "_law_wide"]
  f_l_day : Addr
  fd_l_day : FuncData
  d_l_day : Def K mg "_law_day" s_l_day f_l_day fd_l_day ["_law_box_here", "_law_hours", "_law_pots", "_law_wide"]
  f_l_all : Addr
  fd_l_all : FuncData
  d_l_all : Def K mg "_law_all" s_l_all f_l_all fd_l_all ["_law_day_here"]
  f_l_small_day : Addr
  fd_l_small_day : FuncData
  d_l_small_day : Def K mg "_law_small_day" s_l_small_day f_l_small_day fd_l_small_day ["_law_box_here"]
  f_p_law : Addr
  fd_p_law : FuncData
  d_p_law : Def K mg "law" s_p_law f_p_law fd_p_law ["_law_script"]
  b_abs : mg "abs" = none
  b_int : mg "int" = none
  b_len : mg "len" = none
  b_max : mg "max" = none
  b_min : mg "min" = none
  b_range : mg "range" = none
  b_reversed : mg "reversed" = none
  b_sum : mg "sum" = none
  t_AHEAD_OF_ALL : Tok
  c_AHEAD_OF_ALL : mg "AHEAD_OF_ALL" = some (.int (-1) t_AHEAD_OF_ALL)
end KR
namespace KR
open PySem PySem.Spec PyProof.Rows L2
section
variable {P : Program} {w : World} {K : PySem.W.Frag} {mg : Str → Option Value} {base : Heap}
def sp_l_cell_at (K : PySem.W.Frag) : Sp := fun vs H Q _ => ∃ (a : Addr) (ns : List Int) (k : Int), vs = [.ref a, .int k] ∧ SqL K H a (ns.map V.int) ∧ 0 ≤ k ∧ ∀ z : Int, Q (.int z) H
theorem ok_l_cell_at (T : All K mg) : FnOk P w K mg base CX0 1 T.f_l_cell_at T.fd_l_cell_at ["_law_script", "_law_k"] (sp_l_cell_at K) := by
  refine T.d_l_cell_at.fn.ok sc_l_cell_at (fun vs H Q E h => ?_) (fun cdv A outer s H vs Q E hr h => ?_)
  · obtain ⟨a, ns, k, rfl, _⟩ := h
    rfl
  · obtain ⟨a, ns, k, rfl, hS, h0, q⟩ := h
    refine ⟨_, (pss_cons (ps_if (pt_cmpR op_lt (pv 1) (pe_callB (lenQ (K := K) rfl) (by rfl) T.b_len PySem.boot_len (pa_cons (pv 0) pa_nil)) (nomark _)) (pss_one (ps_ret (pe_ix (ixL (K := K) rfl) (pv 0) (pv 1) (fun _ _ => rfl)))) pss_nil)
      (pss_one (ps_ret pe_int))), ?_⟩
    refine ⟨_, rfl, _, rfl, a, _, rfl, .inl hS, _, _, rfl, rfl, _, rfl, ite2 (fun c => ?_) (fun c => ?_)⟩
    · have c1 : k < ((ns.map V.int).length : Int) := of_decide_eq_true c
      rw [List.length_map] at c1
      refine ⟨_, rfl, _, rfl, a, _, k, _, rfl, rfl, hS, at_of (j := k.toNat) (by omega) (by rw [List.getElem?_map, List.getElem?_eq_getElem (show k.toNat < ns.length by omega)]; rfl), ?_⟩
      exact q _
    · exact q _

end
end KR
namespace KR
open PySem PySem.Spec PyProof.Rows L2
section
variable {P : Program} {w : World} {K : PySem.W.Frag} {mg : Str → Option Value} {base : Heap}
def sp_l_box (K : PySem.W.Frag) : Sp := fun vs H Q _ => ∃ (a : Addr) (ns : List Int) (k : Int), vs = [.ref a, .int k] ∧ SqL K H a (ns.map V.int) ∧ 0 ≤ k ∧ k ≤ 63 ∧ ∀ p H', Same H H' → H p = none → BoxAt H' p 0 → Q (.ref p) H'
theorem ok_l_box (T : All K mg) : FnOk P w K mg base CX0 2 T.f_l_box T.fd_l_box ["_law_script", "_law_k"] (sp_l_box K) := by
  refine T.d_l_box.fn.ok sc_l_box (fun vs H Q E h => ?_) (fun cdv A outer s H vs Q E hr h => ?_)
  · obtain ⟨a, ns, k, rfl, _⟩ := h
    rfl
  · obtain ⟨a, ns, k, rfl, hS, h0, h1, q⟩ := h
    refine ⟨_, (pss_cons (ps_set (i := 2) sc_l_box.nd rfl (by first | exact Or.inl rfl | exact Or.inr rfl) (pe_call (ok_l_cell_at T) hr (by rfl) T.d_l_cell_at.mg T.d_l_cell_at.fn.kp T.d_l_cell_at.b .nil pass0 (pa_cons (pv 0) (pa_cons (pv 1) pa_nil))))
      (pss_one (ps_ret (pe_lstI (pa_cons (pe_op op_mulX (pe_callB call_abs (by rfl) T.b_abs (by decide +kernel) (pa_cons (pv 2) pa_nil)) (pe_callTy call_int1 (by rfl) T.b_int (by decide +kernel) (pa_cons (pe_cmpR op_ge (pe_callB call_abs (by rfl) T.b_abs (by decide +kernel) (pa_cons (pv 2) pa_nil)) (pe_op op_pow pe_int pe_int) (nomark _)) pa_nil))) (pa_cons (pe_op op_add (pe_op op_add (pe_op op_mod (pv 2) pe_int) (pe_op op_mulX pe_int (pv 1))) pe_int) (pa_cons pe_int pa_nil))))))), ?_⟩
    refine ⟨_, rfl, _, rfl, a, ns, k, rfl, hS, h0, fun z => ?_⟩
    refine ⟨_, rfl, _, rfl, _, rfl, _, rfl, _, _, rfl, rfl, ⟨by decide, by decide, by decide⟩, _, _, rfl, rfl, .inr ⟨_, rfl, ?_⟩⟩
    refine ⟨_, _, rfl, rfl, mulR bit_lt, ?_⟩
    refine ⟨_, rfl, _, _, rfl, rfl, (by show (0 : Int) < 2305843009213693951; decide), _, rfl, _, _, rfl, rfl, mulL (by decide), _, _, rfl, rfl, _, _, rfl, rfl, rfl, fun p H1 s1 hp h1 => ?_⟩
    refine q p _ s1 hp ⟨_, _, _, h1, ?_, ?_, ?_, by decide, by decide⟩
    · refine Int.mul_nonneg (by split <;> omega) bit_nn
    · omega
    · omega

end
end KR
namespace KR
open PySem PySem.Spec PyProof.Rows L2
section
variable {P : Program} {w : World} {K : PySem.W.Frag} {mg : Str → Option Value} {base : Heap}
def sp_l_take : Sp := fun vs H Q _ => ∃ (p : Addr) (m : Int) (n : Nat), vs = [.ref p, .int m] ∧ BoxAt H p n ∧ n ≤ 1000000000 ∧ 0 < m ∧ m.natAbs < 2 ^ 200 ∧ ∀ (z : Int) (H' : Hp), 0 ≤ z → z < m → BoxAt H' p (n + 1) → Fr p H H' → Q (.int z) H'
theorem ok_l_take (T : All K mg) : FnOk P w K mg base CX0 1 T.f_l_take T.fd_l_take ["_law_box_here", "_law_many"] sp_l_take := by
  refine T.d_l_take.fn.ok sc_l_take (fun vs H Q E h => ?_) (fun cdv A outer s H vs Q E hr h => ?_)
  · obtain ⟨p, m, n, rfl, _⟩ := h
    rfl
  · obtain ⟨p, m, n, rfl, hB, hn, h0, hm, q⟩ := h
    obtain ⟨a, b, c, hp, ha, hb, hb2, hc, hcn⟩ := hB
    refine ⟨_, (pss_cons (ps_if (pt_cmpR op_gt (pe_ix (ixL (K := K) rfl) (pv 0) pe_int (fun _ _ => rfl)) pe_int (nomark _)) (pss_cons (ps_set (i := 2) sc_l_take.nd rfl (by first | exact Or.inl rfl | exact Or.inr rfl) (pe_op op_mod (pe_ix (ixL (K := K) rfl) (pv 0) pe_int (fun _ _ => rfl)) (pv 1)))
      (pss_cons (ps_asg (pe_op op_fdivW (pe_ix (ixL (K := K) rfl) (pv 0) pe_int (fun _ _ => rfl)) (pv 1)) (pg_sub (pv 0) pe_int set_list))
      (pss_one (ps_ret (pv 2))))) pss_nil)
      (pss_cons (ps_asg (pe_op op_add (pe_ix (ixL (K := K) rfl) (pv 0) pe_int (fun _ _ => rfl)) pe_int) (pg_sub (pv 0) pe_int set_list))
      (pss_cons (ps_set (i := 3) sc_l_take.nd rfl (by first | exact Or.inl rfl | exact Or.inr rfl) (pe_op op_mod (pe_op op_mulX (pe_op op_add (pe_ix (ixL (K := K) rfl) (pv 0) pe_int (fun _ _ => rfl)) (pe_op op_mulX pe_int (pe_ix (ixL (K := K) rfl) (pv 0) pe_int (fun _ _ => rfl)))) (pe_op op_add pe_int (pe_ix (ixL (K := K) rfl) (pv 0) pe_int (fun _ _ => rfl)))) pe_int))
      (pss_cons (ps_set (i := 4) sc_l_take.nd rfl (by first | exact Or.inl rfl | exact Or.inr rfl) (pe_op op_mod (pe_op op_mulX (pe_op op_add (pv 3) (pe_ix (ixL (K := K) rfl) (pv 0) pe_int (fun _ _ => rfl))) (pe_op op_add (pe_op op_mod (pv 3) pe_int) pe_int)) pe_int))
      (pss_one (ps_ret (pe_op op_mod (pe_op op_fdivW (pe_op op_mod (pe_op op_add (pe_op op_mulX (pv 4) pe_int) (pv 3)) pe_int) pe_int) (pv 1)))))))), ?_⟩
    refine ⟨_, rfl, p, _, 0, _, rfl, rfl, SqL.of hp, at0, _, _, rfl, rfl, _, rfl, ite2 (fun c1 => ?_) (fun c1 => ?_)⟩
    · refine ⟨_, rfl, p, _, 0, _, rfl, rfl, SqL.of hp, at0, _, rfl, _, _, rfl, rfl, h0, ?_⟩
      refine ⟨_, rfl, p, _, 0, _, rfl, rfl, SqL.of hp, at0, _, rfl, _, _, rfl, rfl, wide_div h0 hm (by decide) (by decide), ?_⟩
      refine ⟨_, rfl, p, _, 0, 0, rfl, rfl, hp, rfl, ?_⟩
      refine ⟨_, rfl, ?_⟩
      refine q _ _ (Int.emod_nonneg _ (by omega)) (Int.emod_lt_of_pos _ h0) ⟨_, _, _, upd_same, ?_, hb, hb2, hc, by omega⟩ (Fr.put Fr.refl)
      exact Int.ediv_nonneg ha (by omega)
    · refine ⟨_, rfl, p, _, 2, _, rfl, rfl, SqL.of hp, at2, _, _, rfl, rfl, _, rfl, p, _, 2, 2, rfl, rfl, hp, rfl, ?_⟩
      have hp2 : (upd H p (.lst [.int a, .int b, .int (c + 1)])) p = some (.lst [.int a, .int b, .int (c + 1)]) := upd_same
      refine ⟨_, rfl, p, _, 1, _, rfl, rfl, SqL.of hp2, at1, _, rfl, p, _, 2, _, rfl, rfl, SqL.of hp2, at2, _, _, rfl, rfl, mulL (by decide), _, _, rfl, rfl, ?_⟩
      refine ⟨_, rfl, p, _, 2, _, rfl, rfl, SqL.of hp2, at2, _, _, rfl, rfl, _, _, rfl, rfl, mulL (by omega), _, _, rfl, rfl, (by show (0 : Int) < 2147483647; decide), ?_⟩
      generalize e1 : (b + 48271 * (c + 1)) * (39373 + (c + 1)) % 2147483647 = o
      have o1 : 0 ≤ o ∧ o < 2147483647 := by omega
      refine ⟨_, rfl, _, rfl, p, _, 2, _, rfl, rfl, SqL.of hp2, at2, _, _, rfl, rfl, _, rfl, _, _, rfl, rfl, (by show (0 : Int) < 40009; decide), _, _, rfl, rfl, _, _, rfl, rfl, mulL (by omega), _, _, rfl, rfl, (by show (0 : Int) < 2147483629; decide), ?_⟩
      generalize e2 : (o + (c + 1)) * (o % 40009 + 7) % 2147483629 = t
      have t1 : 0 ≤ t ∧ t < 2147483629 := by omega
      refine ⟨_, rfl, _, _, rfl, rfl, mulL (by omega), _, rfl, _, _, rfl, rfl, _, _, rfl, rfl, (by show (0 : Int) < 2147483587; decide), _, _, rfl, rfl, wide_div (b := 10) (by decide) (by decide) (by decide) (by decide), _, rfl, _, _, rfl, rfl, h0, ?_⟩
      exact q _ _ (Int.emod_nonneg _ (by omega)) (Int.emod_lt_of_pos _ h0) ⟨_, _, _, upd_same, ha, hb, hb2, by omega, by omega⟩ (Fr.put Fr.refl)

end
end KR
namespace KR
open PySem PySem.Spec PyProof.Rows L2
section
variable {P : Program} {w : World} {K : PySem.W.Frag} {mg : Str → Option Value} {base : Heap}
def sp_l_ladles (K : PySem.W.Frag) : Sp := fun vs H Q _ => ∃ (p : Addr) (n h : Nat) (w : Int), vs = [.ref p, .int (h : Int), .int w] ∧ BoxAt H p n ∧ n ≤ 999990000 ∧ h ≤ 48 ∧ 0 ≤ w ∧ w ≤ 1000000 ∧ ∀ (f : Addr) (ns : List Int) (H' : Hp), H' f = some (.lst (ns.map V.int)) → ns.length = h → Ldl ns → (∀ u ∈ ns, u ≤ w) → BoxAt H' p (n + 150) → Fr p H H' → f ≠ p → H f = none → Q (.ref f) H'
theorem ok_l_ladles (T : All K mg) : FnOk P w K mg base CX0 2 T.f_l_ladles T.fd_l_ladles ["_law_box_here", "_law_hours", "_law_wide"] (sp_l_ladles K) := by
  refine T.d_l_ladles.fn.ok sc_l_ladles (fun vs H Q E h => ?_) (fun cdv A outer s H vs Q E hr h => ?_)
  · obtain ⟨p, n, h, w, rfl, _⟩ := h
    rfl
  · obtain ⟨p, n, h, w, rfl, hB, hn, h48, w0, w1, q⟩ := h
    refine ⟨_, (pss_cons (ps_set (i := 3) sc_l_ladles.nd rfl (by first | exact Or.inl rfl | exact Or.inr rfl) (pe_call (ok_l_take T) hr (by rfl) T.d_l_take.mg T.d_l_take.fn.kp T.d_l_take.b .nil pass0 (pa_cons (pv 0) (pa_cons pe_int pa_nil))))
      (pss_cons (ps_if (pt_cmpR op_lt (pv 3) pe_int (nomark _)) (pss_one (ps_ret (pe_op op_rep (pe_lstI (pa_cons (pe_ix (ixL (K := K) rfl) (pe_lstI (pa_cons (pv 2) (pa_cons pe_int pa_nil))) (pv 3) (fun _ _ => rfl)) pa_nil)) (pv 1)))) pss_nil)
      (pss_one (ps_ret (pe_lc (own := [("_law_hour", 4)]) (g := gName 4) (tt := tYes) (by rfl) sc_l_ladles.nd (pi_range1 (by rfl) T.b_range (pa_cons (pv 1) pa_nil)) (blkOk_by (own := [("_law_hour", 4)]) (N := ["_law_box_here", "_law_hours", "_law_wide", "_law_way", "_law_hour"]) (sc := defScope s_l_ladles) (by decide +kernel)) (fun _ _ _ _ _ => (pg_name (i := 4) sc_l_ladles.nd rfl (by first | exact Or.inl rfl | exact Or.inr rfl))) (fun _ _ _ _ _ => pts_nil) (fun _ _ _ _ _ => (pe_ix (ixL (K := K) rfl) (pe_lstI (pa_cons (pe_call (ok_l_take T) hr (by rfl) T.d_l_take.mg T.d_l_take.fn.kp T.d_l_take.b .nil pass0 (pa_cons (pv 0) (pa_cons (pe_op op_add (pv 2) pe_int) pa_nil))) (pa_cons pe_int (pa_cons (pv 2) (pa_cons (pe_call (ok_l_take T) hr (by rfl) T.d_l_take.mg T.d_l_take.fn.kp T.d_l_take.b .nil pass0 (pa_cons (pv 0) (pa_cons (pe_op op_add (pv 2) pe_int) pa_nil))) pa_nil))))) (pe_call (ok_l_take T) hr (by rfl) T.d_l_take.mg T.d_l_take.fn.kp T.d_l_take.b .nil pass0 (pa_cons (pv 0) (pa_cons pe_int pa_nil))) (fun _ _ => rfl)))))))), ?_⟩
    refine ⟨_, rfl, p, 6, n, rfl, hB, by omega, by decide, by decide, fun y H1 y0 y1 B1 F1 => ?_⟩
    refine ⟨_, rfl, _, _, rfl, rfl, _, rfl, ?_⟩
    by_cases c : y < 2
    · refine ite_bT (decide_eq_true c) ?_
      refine ⟨_, rfl, rfl, fun l1 H2 s2 n2 h2 => ?_⟩
      obtain ⟨z, ez, z0, z1⟩ : ∃ z : Int, atI ([.int w, .int 0] : List V) y = some (.int z) ∧ 0 ≤ z ∧ z ≤ w := by
        have cs : y = 0 ∨ y = 1 := by omega
        rcases cs with e | e <;> subst e
        · exact ⟨w, rfl, w0, Int.le_refl _⟩
        · exact ⟨0, rfl, by decide, w0⟩
      refine ⟨_, rfl, l1, _, y, _, rfl, rfl, SqL.of h2, ez, rfl, fun l2 H3 s3 n3 h3 => ?_⟩
      refine ⟨_, rfl, l2, (h : Int), _, rfl, rfl, h3, by omega, by omega, by show 1 * _ ≤ _; rw [sizeLine_eq]; omega, fun f nf => ?_⟩
      rw [rep_ints h z]
      have B3 := (B1.same s2).same s3
      have F3 : Fr p H H3 := F1.trans (.of (s2.trans s3))
      have fp := B3.new nf
      refine q f (List.replicate h z) _ upd_same List.length_replicate (fun u hu => by rw [List.eq_of_mem_replicate hu]; exact ⟨z0, by omega⟩) (fun u hu => by rw [List.eq_of_mem_replicate hu]; exact z1) ((B3.same (same_new nf)).mono (by omega)) (F3.trans (.of (same_new nf))) fp (fr_new' F3 nf fp)
    · refine ite_bF (decide_eq_false c) ?_
      refine ⟨_, rfl, (h : Int), rfl, by omega, by omega, fun D hD => ?_⟩
      have Dp := B1.new hD
      have nD : H D = none := fr_new' F1 hD Dp
      refine lc_range (lo := 0) (n := h) (fun i H' => ∃ ns : List Int, Fr p H1 H' ∧ BoxAt H' p (n + 1 + 3 * i) ∧ H' D = some (.lst (ns.map V.int)) ∧ ns.length = i ∧ ∀ z ∈ ns, 0 ≤ z ∧ z ≤ w)
        ⟨[], .of (same_new hD), (B1.same (same_new hD)).mono (by omega), upd_same, rfl, fun z hz => absurd hz List.not_mem_nil⟩ (fun i H2 hi z => ?_) (fun H2 z => ?_)
      · obtain ⟨ns, F2, B2, hD2, ln, ok⟩ := z
        refine ⟨rfl, yesT ?_⟩
        refine ⟨_, rfl, _, rfl, _, _, rfl, rfl, p, w + 1, _, rfl, B2, by omega, by omega, by omega, fun a H3 a0 a1 B3 F3 => ?_⟩
        refine ⟨_, rfl, _, rfl, _, rfl, _, _, rfl, rfl, p, w + 1, _, rfl, B3, by omega, by omega, by omega, fun b H4 b0 b1 B4 F4 => ⟨rfl, fun l1 H5 s5 n5 h5 => ?_⟩⟩
        have B5 := B4.same s5
        have l1p := B4.new n5
        refine ⟨_, rfl, p, 4, _, rfl, B5, by omega, by decide, by decide, fun y2 H6 y20 y21 B6 F6 => ?_⟩
        obtain ⟨z, ez, z0, z1⟩ : ∃ z : Int, atI ([.int a, .int 0, .int w, .int b] : List V) y2 = some (.int z) ∧ 0 ≤ z ∧ z ≤ w := by
          have cs : y2 = 0 ∨ y2 = 1 ∨ y2 = 2 ∨ y2 = 3 := by omega
          rcases cs with e | e | e | e <;> subst e
          · exact ⟨a, rfl, a0, by omega⟩
          · exact ⟨0, rfl, by decide, w0⟩
          · exact ⟨w, rfl, w0, Int.le_refl _⟩
          · exact ⟨b, rfl, b0, by omega⟩
        refine ⟨l1, _, y2, _, rfl, rfl, SqL.of (F6 _ _ l1p h5), ez, ?_⟩
        have F26 : Fr p H2 H6 := F3.trans (F4.trans ((Fr.of s5).trans F6))
        have hD6 := F26 _ _ Dp hD2
        refine ⟨_, hD6, by rw [List.length_map]; exact small' (by omega), ns ++ [z], (F2.trans F26).put' hD, (B6.upd Dp).mono (by omega), by rw [upd_same, List.map_append] <;> rfl, by rw [List.length_append, ln] <;> rfl, fun u hu => ?_⟩
        rcases List.mem_append.mp hu with g | g
        · exact ok u g
        · rw [List.mem_singleton.mp g]
          exact ⟨z0, z1⟩
      · obtain ⟨ns, F2, B2, hD2, ln, ok⟩ := z
        exact q D ns H2 hD2 ln (fun u hu => ⟨(ok u hu).1, by have := (ok u hu).2; omega⟩) (fun u hu => (ok u hu).2) (B2.mono (by omega)) (F1.trans F2) Dp nD

end
end KR
namespace KR
open PySem PySem.Spec PyProof.Rows L2
section
variable {P : Program} {w : World} {K : PySem.W.Frag} {mg : Str → Option Value} {base : Heap}
def sp_l_day (K : PySem.W.Frag) : Sp := fun vs H Q _ => ∃ (p : Addr) (n h k : Nat) (w : Int), vs = [.ref p, .int (h : Int), .int (k : Int), .int w] ∧ BoxAt H p n ∧ n ≤ 999980000 ∧ 1 ≤ h ∧ h ≤ 48 ∧ 1 ≤ k ∧ k ≤ 8 ∧ 1 ≤ w ∧ w ≤ 1000000 ∧
  ∀ (d : Addr) (x : DyP) (D : Dy) (H' : Hp), DayAt K H' p d x D → DyOk D → DyNn D → D.cs.length = h → D.ks.length = k → (∀ u ∈ D.ss, u ≤ w) → (∀ k ∈ D.ks, ∀ u ∈ k.2, u ≤ w) → x.pc = true → x.pk = true → x.ps = true → BoxAt H' p (n + 2000) → Fr p H H' → Q (.ref d) H'
theorem ok_l_day (T : All K mg) : FnOk P w K mg base CX0 3 T.f_l_day T.fd_l_day ["_law_box_here", "_law_hours", "_law_pots", "_law_wide"] (sp_l_day K) := by
  refine T.d_l_day.fn.ok sc_l_day (fun vs H Q E h => ?_) (fun cdv A outer s H vs Q E hr h => ?_)
  · obtain ⟨p, n, h, k, w, rfl, _⟩ := h
    rfl
  · obtain ⟨p, n, h, k, w, rfl, hB, hn, h1, h48, k1, k8, w0, w1, q⟩ := h
    refine ⟨_, (pss_cons (ps_set (i := 4) sc_l_day.nd rfl (by first | exact Or.inl rfl | exact Or.inr rfl) (pe_lstI pa_nil))
      (pss_cons (ps_for PassesOwn.never rfl (pi_range1 (by rfl) T.b_range (pa_cons (pv 2) pa_nil)) (pg_name (i := 5) sc_l_day.nd rfl (by first | exact Or.inl rfl | exact Or.inr rfl)) (pss_one (ps_expr (pe_bm PySem.F.plainAttrs_list PySem.F.slot_list_append PySem.F.type_list_append mt_append (pv 4) (pa_cons (pe_tupI (pa_cons (pe_op op_add pe_int (pe_call (ok_l_take T) (hr.mono (by decide)) (by rfl) T.d_l_take.mg T.d_l_take.fn.kp T.d_l_take.b .nil pass0 (pa_cons (pv 0) (pa_cons (pe_ix (ixL (K := K) rfl) (pe_lstI (pa_cons pe_int (pa_cons (pv 3) (pa_cons (pe_op op_mulX pe_int (pv 3)) pa_nil)))) (pe_call (ok_l_take T) (hr.mono (by decide)) (by rfl) T.d_l_take.mg T.d_l_take.fn.kp T.d_l_take.b .nil pass0 (pa_cons (pv 0) (pa_cons pe_int pa_nil))) (fun _ _ => rfl)) pa_nil)))) (pa_cons (pe_call (ok_l_ladles T) hr (by rfl) T.d_l_ladles.mg T.d_l_ladles.fn.kp T.d_l_ladles.b .nil pass0 (pa_cons (pv 0) (pa_cons (pv 1) (pa_cons (pv 3) pa_nil)))) pa_nil))) pa_nil)))))
      (pss_cons (ps_setLc (i := 4) (own := [("_law_room", 6), ("_law_takes", 7)]) (g := gTup K 2 (gCons (gName 6) (gCons (gName 7) gNil))) (tt := tYes) (by rfl) sc_l_day.nd rfl rfl (sw_true rfl rfl rfl (by decide +kernel)) (pi_listK (K := K) rfl (pv 4)) (blkOk_by (own := [("_law_room", 6), ("_law_takes", 7)]) (N := ["_law_box_here", "_law_hours", "_law_pots", "_law_wide", "_law_kettles", "_law_place", "_law_room", "_law_takes"]) (sc := defScope s_l_day) (by decide +kernel)) (fun _ _ _ _ _ => (pg_tupK (K := K) rfl rfl (pgs_cons (pg_name (i := 6) sc_l_day.nd rfl (by first | exact Or.inl rfl | exact Or.inr rfl)) (pgs_cons (pg_name (i := 7) sc_l_day.nd rfl (by first | exact Or.inl rfl | exact Or.inr rfl)) pgs_nil)))) (fun _ _ _ _ _ => pts_nil) (fun _ _ _ _ _ => (pe_tupI (pa_cons (pe_callB (call_min2 rfl) (by rfl) T.b_min (by decide +kernel) (pa_cons (pe_op op_pow pe_int pe_int) (pa_cons (pv 6) pa_nil))) (pa_cons (pv 7) pa_nil)))))
      (pss_one (ps_ret (pe_tupI (pa_cons (pe_call (ok_l_ladles T) hr (by rfl) T.d_l_ladles.mg T.d_l_ladles.fn.kp T.d_l_ladles.b .nil pass0 (pa_cons (pv 0) (pa_cons (pv 1) (pa_cons (pv 3) pa_nil)))) (pa_cons (pv 4) (pa_cons (pe_call (ok_l_ladles T) hr (by rfl) T.d_l_ladles.mg T.d_l_ladles.fn.kp T.d_l_ladles.b .nil pass0 (pa_cons (pv 0) (pa_cons (pv 1) (pa_cons (pv 3) pa_nil)))) pa_nil))))))))), ?_⟩
    refine ⟨rfl, fun f H1 s1 n1 hf1 => ?_⟩
    have fp := hB.new n1
    refine ⟨_, rfl, k, rfl, by omega, by omega, for_range (lo := 0) (n := k) (fun i σ H' => ∃ (as : List Addr) (ks : List (Int × List Int)) (v5 : Option V), σ = [some (.ref p), some (.int (h : Int)), some (.int (k : Int)), some (.int w), some (.ref f), v5, none, none] ∧ H' f = some (.lst (as.map V.ref)) ∧ PotsF K H' p f as ks ∧ as.length = i ∧ (∀ k ∈ ks, 1 ≤ k.1 ∧ k.2.length = h ∧ Ldl k.2 ∧ ∀ u ∈ k.2, u ≤ w) ∧ BoxAt H' p (n + 160 * i) ∧ Fr p H H')
      ⟨[], [], none, rfl, hf1, .nil, rfl, fun k hk => absurd hk List.not_mem_nil, hB.same s1, .of s1⟩ ?_ ?_⟩
    · rintro i σ H2 hi ⟨as, ks, v5, rfl, hf, P, la, ok, B, F⟩
      refine ⟨_, rfl, .inl ⟨rfl, _, SqL.of hf⟩, ?_⟩
      refine ⟨_, rfl, _, rfl, _, rfl, _, _, rfl, rfl, mulL (by decide), rfl, fun l1 H3 s3 n3 h3 => ?_⟩
      have B3 := B.same s3
      have l1p := B.new n3
      refine ⟨_, rfl, p, 3, _, rfl, B3, by omega, by decide, by decide, fun y H4 y0 y1 B4 F4 => ?_⟩
      obtain ⟨m, em, m0, m1⟩ : ∃ m : Int, atI ([.int 1, .int w, .int (3 * w)] : List V) y = some (.int m) ∧ 1 ≤ m ∧ m ≤ 3000000 := by
        have cs : y = 0 ∨ y = 1 ∨ y = 2 := by omega
        rcases cs with e | e | e <;> subst e
        · exact ⟨1, rfl, by decide, by decide⟩
        · exact ⟨w, rfl, by omega, by omega⟩
        · exact ⟨3 * w, rfl, by omega, by omega⟩
      refine ⟨l1, _, y, _, rfl, rfl, SqL.of (F4 _ _ l1p h3), em, p, m, _, rfl, B4, by omega, by omega, by omega, fun r H5 r0 r1 B5 F5 => ⟨_, _, rfl, rfl, ?_⟩⟩
      have F25 : Fr p H2 H5 := (Fr.of s3).trans (F4.trans F5)
      have hf5 := F25 _ _ fp hf
      refine ⟨_, rfl, _, rfl, _, rfl, p, _, h, w, rfl, B5, by omega, h48, by omega, w1, fun t ns H6 ht ln nn nw B6 F6 tp nt => ?_⟩
      refine ⟨rfl, fun a H7 s7 n7 h7 => ?_⟩
      have tf : t ≠ f := (ne_of_none hf5 nt).symm
      have F27 : Fr p H2 H7 := (F25.trans F6).trans (.of s7)
      have hf7 := F27 _ _ fp hf
      refine ⟨f, _, _, rfl, rfl, hf7, by rw [List.length_map]; exact small' (by omega), ?_⟩
      refine ⟨as ++ [a], ks ++ [(1 + r, ns)], _, rfl, by rw [upd_same, List.map_append] <;> rfl, ?_, by rw [List.length_append, la] <;> rfl, fun k hk => ?_, ((B6.same s7).upd fp).mono (by omega), (F.trans F27).put' n1⟩
      · refine ((P.map fun a k z => z.fr B F27).snoc ⟨t, SqT.of h7, s7 _ _ ht, tp, tf⟩).map fun a k z => z.put hf7
      · rcases List.mem_append.mp hk with g | g
        · exact ok k g
        · rw [List.mem_singleton.mp g]
          exact ⟨by show 1 ≤ 1 + r; omega, ln, nn, nw⟩
    · rintro σ H2 ⟨as, ks, v5, rfl, hf, P, la, ok, B, F⟩
      refine ⟨_, rfl, f, rfl, ⟨_, SqL.of hf⟩, fun g hg => ?_⟩
      have gp := B.new hg
      refine lc_it (walk_list (K := K) (a := f) (xs := as.map V.ref)) (fun j H' => ∃ (bs : List Addr) (js : List (Int × List Int)), Same H2 H' ∧ H' g = some (.lst (bs.map V.ref)) ∧ PotsF K H' p g bs js ∧ bs.length = j ∧ (∀ k ∈ js, 1 ≤ k.1 ∧ k.1 ≤ 1000000 ∧ k.2.length = h ∧ Ldl k.2 ∧ ∀ u ∈ k.2, u ≤ w))
        ⟨[], [], same_new hg, upd_same, .nil, rfl, fun k hk => absurd hk List.not_mem_nil⟩ (fun j H' _ ⟨_, _, s, _⟩ => SqL.of (s _ _ hf)) ?_ ?_
      · rintro j v H3 H4 hj ⟨bs, js, s3, hg3, P3, lb, ok3⟩ ⟨rfl, hv⟩
        rw [List.getElem?_map] at hv
        obtain ⟨a, ea, rfl⟩ := Option.map_eq_some_iff.mp hv
        obtain ⟨kk', ek, t, h1', h2', h3', h4'⟩ := P.get ea
        obtain ⟨o1, o2, o3⟩ := ok _ (List.mem_of_getElem? ek)
        rw [List.length_map] at hj
        refine ⟨a, _, rfl, Same.tup s3 h1', rfl, _, _, rfl, _, _, rfl, rfl, rfl, yesT ?_⟩
        refine ⟨_, _, rfl, rfl, ⟨by decide, by decide, by decide⟩, _, rfl, _, _, rfl, _, rfl, rfl, fun u H5 s5 n5 h5 => ?_⟩
        have hg5 := s5 _ _ hg3
        have tg : t ≠ g := ne_of_none h2' hg
        obtain ⟨rr, er, r1', r2'⟩ : ∃ rr : Int, (if kk'.1 < (10 : Int) ^ (6 : Int).toNat then kk'.1 else (10 : Int) ^ (6 : Int).toNat) = rr ∧ 1 ≤ rr ∧ rr ≤ 1000000 := by
          refine ⟨_, rfl, ?_, ?_⟩
          · split
            · exact o1
            · decide
          · split
            · have e6 : (10 : Int) ^ (6 : Int).toNat = 1000000 := by decide
              omega
            · decide
        have h5 : H5 u = some (.tup [.int (if kk'.1 < (10 : Int) ^ (6 : Int).toNat then kk'.1 else (10 : Int) ^ (6 : Int).toNat), .ref t]) := h5
        rw [er] at h5
        refine ⟨_, hg5, by rw [List.length_map]; exact small' (by omega), bs ++ [u], js ++ [(rr, kk'.2)], Same.put (s3.trans s5) hg, by rw [upd_same, List.map_append] <;> rfl, ?_, by rw [List.length_append, lb] <;> rfl, fun k hk => ?_⟩
        · refine ((P3.map fun a k z => z.same s5).snoc (show KtF K H5 p g u (rr, kk'.2) from ⟨t, SqT.of h5, (s3.trans s5) _ _ h2', h3', tg⟩)).map fun a k z => z.put hg5
        · rcases List.mem_append.mp hk with g' | g'
          · exact ok3 k g'
          · rw [List.mem_singleton.mp g']
            exact ⟨r1', r2', o2, o3⟩
      · rintro H3 ⟨bs, js, s3, hg3, P3, lb, ok3⟩
        rw [List.length_map, la] at lb
        have B3 := B.same s3
        have F3 : Fr p H H3 := F.trans (.of s3)
        refine ⟨_, rfl, _, rfl, _, rfl, p, _, h, w, rfl, B3, by omega, h48, by omega, w1, fun t1 ns1 H4 ht1 ln1 nn1 nw1 B4 F4 t1p nt1 => ?_⟩
        refine ⟨_, rfl, _, rfl, _, rfl, _, rfl, p, _, h, w, rfl, B4, by omega, h48, by omega, w1, fun t2 ns2 H5 ht2 ln2 nn2 nw2 B5 F5 t2p nt2 => ⟨rfl, fun d H6 s6 n6 h6 => ?_⟩⟩
        have F36 : Fr p H3 H6 := (F4.trans F5).trans (.of s6)
        have jl : js.length = k := by rw [← Paired.length P3, lb]
        refine q d ⟨t1, g, t2, true, true, true, bs⟩ ⟨ns1, js, ns2⟩ H6 ⟨SqT.of h6, ⟨SqL.of (s6 _ _ (F5 _ _ t1p ht1)), t1p⟩, SqL.of (F36 _ _ gp hg3), gp, ⟨SqL.of (s6 _ _ ht2), t2p⟩, Paired.length P3, (P3.map fun a k z => z.fr B3 F36).at_⟩ ⟨by show 1 ≤ ns1.length; omega, by show ns1.length ≤ 48; omega, by show 1 ≤ js.length; omega, by show js.length ≤ 8; omega, fun k hk => (ok3 k hk).2.2.1.trans ln1.symm, ln2.trans ln1.symm⟩ ⟨nn1, fun k hk => ⟨(ok3 k hk).1, (ok3 k hk).2.1, (ok3 k hk).2.2.2.1⟩, nn2⟩ ln1 jl nw2 (fun k hk => (ok3 k hk).2.2.2.2) rfl rfl rfl ((B5.same s6).mono (by omega)) (F3.trans F36)

end
end KR
namespace KR
open PySem PySem.Spec PyProof.Rows L2
section
variable {P : Program} {w : World} {K : PySem.W.Frag} {mg : Str → Option Value} {base : Heap}
def sp_l_small_day (K : PySem.W.Frag) : Sp := fun vs H Q _ => ∃ (p : Addr) (n : Nat), vs = [.ref p] ∧ BoxAt H p n ∧ n ≤ 999970000 ∧
  ∀ (d : Addr) (x : DyP) (D : Dy) (H' : Hp), DayAt K H' p d x D → DyOk D → DyNn D → D.cs.length * (D.ks.length + 1) ≤ 8 → (∀ u ∈ D.ss, u ≤ 2) → (∀ k ∈ D.ks, ∀ u ∈ k.2, u ≤ 2) → BoxAt H' p (n + 3000) → Fr p H H' → Q (.ref d) H'
theorem ok_l_small_day (T : All K mg) : FnOk P w K mg base CX0 4 T.f_l_small_day T.fd_l_small_day ["_law_box_here"] (sp_l_small_day K) := by
  refine T.d_l_small_day.fn.ok sc_l_small_day (fun vs H Q E h => ?_) (fun cdv A outer s H vs Q E hr h => ?_)
  · obtain ⟨p, n, rfl, _⟩ := h
    rfl
  · obtain ⟨p, n, rfl, hB, hn, q⟩ := h
    refine ⟨_, (pss_cons (ps_asg (pe_ix (ixL (K := K) rfl) (pe_lstI (pa_cons (pe_tupI (pa_cons pe_int (pa_cons pe_int pa_nil))) (pa_cons (pe_tupI (pa_cons pe_int (pa_cons pe_int pa_nil))) (pa_cons (pe_tupI (pa_cons (pe_op op_add pe_int (pe_call (ok_l_take T) (hr.mono (by decide)) (by rfl) T.d_l_take.mg T.d_l_take.fn.kp T.d_l_take.b .nil pass0 (pa_cons (pv 0) (pa_cons pe_int pa_nil)))) (pa_cons pe_int pa_nil))) pa_nil)))) (pe_call (ok_l_take T) (hr.mono (by decide)) (by rfl) T.d_l_take.mg T.d_l_take.fn.kp T.d_l_take.b .nil pass0 (pa_cons (pv 0) (pa_cons pe_int pa_nil))) (fun _ _ => rfl)) (pg_tupK (K := K) rfl rfl (pgs_cons (pg_name (i := 1) sc_l_small_day.nd rfl (by first | exact Or.inl rfl | exact Or.inr rfl)) (pgs_cons (pg_name (i := 2) sc_l_small_day.nd rfl (by first | exact Or.inl rfl | exact Or.inr rfl)) pgs_nil))))
      (pss_one (ps_ret (pe_call (ok_l_day T) hr (by rfl) T.d_l_day.mg T.d_l_day.fn.kp T.d_l_day.b .nil pass0 (pa_cons (pv 0) (pa_cons (pv 1) (pa_cons (pv 2) (pa_cons (pe_op op_add pe_int (pe_call (ok_l_take T) (hr.mono (by decide)) (by rfl) T.d_l_take.mg T.d_l_take.fn.kp T.d_l_take.b .nil pass0 (pa_cons (pv 0) (pa_cons pe_int pa_nil)))) pa_nil)))))))), ?_⟩
    refine ⟨rfl, fun t1 H1 s1 n1 h1 => ⟨rfl, fun t2 H2 s2 n2 h2 => ?_⟩⟩
    refine ⟨_, rfl, p, 4, n, rfl, (hB.same s1).same s2, by omega, by decide, by decide, fun a H3 a0 a1 B3 F3 => ⟨_, _, rfl, rfl, rfl, fun t3 H4 s4 n4 h4 => ⟨rfl, fun l1 H5 s5 n5 h5 => ?_⟩⟩⟩
    obtain ⟨an, rfl⟩ : ∃ an : Nat, a = (an : Int) := ⟨a.toNat, by omega⟩
    have s12 := s1.trans s2
    have s45 := s4.trans s5
    have B5 := B3.same s45
    have l1p := (B3.same s4).new n5
    refine ⟨_, rfl, p, 3, _, rfl, B5, by omega, by decide, by decide, fun y H6 y0 y1 B6 F6 => ?_⟩
    have F36 : Fr p H2 H6 := F3.trans ((Fr.of s45).trans F6)
    have B2 := (hB.same s12)
    obtain ⟨tt, hh, kk', ep, ht, a1', a2', a3', a4', a5'⟩ : ∃ (tt : Addr) (hh kk' : Nat), atI ([.ref t1, .ref t2, .ref t3] : List V) y = some (.ref tt) ∧ SqT K H6 tt [.int (hh : Int), .int (kk' : Int)] ∧ 1 ≤ hh ∧ hh ≤ 48 ∧ 1 ≤ kk' ∧ kk' ≤ 8 ∧ hh * (kk' + 1) ≤ 8 := by
      have cs : y = 0 ∨ y = 1 ∨ y = 2 := by omega
      rcases cs with e | e | e <;> subst e
      · exact ⟨t1, 3, 1, rfl, sqT_fr (SqT.of (s2 _ _ h1)) B2 F36, by decide, by decide, by decide, by decide, by decide⟩
      · exact ⟨t2, 2, 2, rfl, sqT_fr (SqT.of h2) B2 F36, by decide, by decide, by decide, by decide, by decide⟩
      · exact ⟨t3, 1 + an, 1, rfl, sqT_fr (SqT.of (s5 _ _ h4)) B5 F6, by omega, by omega, by omega, by omega, by omega⟩
    refine ⟨l1, _, y, _, rfl, rfl, SqL.of (F6 _ _ l1p h5), ep, ?_⟩
    refine ⟨tt, _, rfl, ht, rfl, _, _, rfl, _, _, rfl, rfl, ?_⟩
    refine ⟨_, rfl, _, rfl, _, rfl, _, rfl, p, 2, _, rfl, B6, by omega, by decide, by decide, fun z H7 z0 z1 B7 F7 => ⟨_, _, rfl, rfl, ?_⟩⟩
    refine ⟨p, _, hh, kk', 1 + z, rfl, B7, by omega, a1', a2', a3', a4', by omega, by omega, fun d x D H8 hD O nn e1 e2 w1 w2 f1 f2 f3 B8 F8 => ?_⟩
    refine q d x D H8 hD O nn (by rw [e1, e2]; exact a5') (fun u hu => by have := w1 u hu; omega) (fun k hk u hu => by have := w2 k hk u hu; omega) (B8.mono (by omega)) (((Fr.of s12).trans F36).trans (F7.trans F8))

end
end KR
namespace KR
open PySem PySem.Spec PyProof.Rows L2
section
variable {P : Program} {w : World} {K : PySem.W.Frag} {mg : Str → Option Value} {base : Heap}
def sp_l_all (K : PySem.W.Frag) : Sp := fun vs H Q _ => ∃ (p d : Addr) (x : DyP) (D : Dy), vs = [.ref d] ∧ DayAt K H p d x D ∧ DyOk D ∧ DyNn D ∧ D.cs.length * (D.ks.length + 1) ≤ 8 ∧ (∀ u ∈ D.ss, u ≤ 2) ∧ (∀ k ∈ D.ks, ∀ u ∈ k.2, u ≤ 2) ∧
  ∀ (f : Addr) (as : List Addr) (H' : Hp), Same H H' → H f = none → H' f = some (.lst (as.map V.ref)) → Tbs H' f as (genH D D.cs.length) → Q (.ref f) H'
theorem ok_l_all (T : All K mg) : FnOk P w K mg base CX0 1 T.f_l_all T.fd_l_all ["_law_day_here"] (sp_l_all K) := by
  refine T.d_l_all.fn.ok sc_l_all (fun vs H Q E h => ?_) (fun cdv A outer s H vs Q E hr h => ?_)
  · obtain ⟨p, d, x, D, rfl, _⟩ := h
    rfl
  · obtain ⟨p, d, x, D, rfl, hD, O, N, h8, hs2, hk2, q⟩ := h
    refine ⟨_, (pss_cons (ps_asg (pv 0) (pg_tupK (K := K) rfl rfl (pgs_cons (pg_name (i := 1) sc_l_all.nd rfl (by first | exact Or.inl rfl | exact Or.inr rfl)) (pgs_cons (pg_name (i := 2) sc_l_all.nd rfl (by first | exact Or.inl rfl | exact Or.inr rfl)) (pgs_cons (pg_name (i := 3) sc_l_all.nd rfl (by first | exact Or.inl rfl | exact Or.inr rfl)) pgs_nil)))))
      (pss_cons (ps_set (i := 4) sc_l_all.nd rfl (by first | exact Or.inl rfl | exact Or.inr rfl) (pe_lstI (pa_cons (pe_lc (own := [("_law_place", 5)]) (g := gName 5) (tt := tYes) (by rfl) sc_l_all.nd (pi_range1 (by rfl) T.b_range (pa_cons (pe_op op_add (pe_callB (lenA (K := K) rfl) (by rfl) T.b_len PySem.boot_len (pa_cons (pv 2) pa_nil)) pe_int) pa_nil)) (blkOk_by (own := [("_law_place", 5)]) (N := ["_law_day_here", "_law_comes", "_law_kettles", "_law_strikes", "_law_found", "_law_place", "_law_hour", "_law_longer", "_law_may", "_law_sums", "_law_row", "_law_most", "_law_gone", "_law_taken", "_law_more"]) (sc := defScope s_l_all) (by decide +kernel)) (fun _ _ _ _ _ => (pg_name (i := 5) sc_l_all.nd rfl (by first | exact Or.inl rfl | exact Or.inr rfl))) (fun _ _ _ _ _ => pts_nil) (fun _ _ _ _ _ => (pe_lstI (pa_cons pe_int pa_nil)))) pa_nil)))
      (pss_cons (ps_for PassesOwn.never rfl (pi_range1 (by rfl) T.b_range (pa_cons (pe_callB (lenA (K := K) rfl) (by rfl) T.b_len PySem.boot_len (pa_cons (pv 1) pa_nil)) pa_nil)) (pg_name (i := 6) sc_l_all.nd rfl (by first | exact Or.inl rfl | exact Or.inr rfl)) (pss_one (ps_for PassesOwn.never rfl (pi_range3 (by rfl) T.b_range (pa_cons (pe_callB (lenA (K := K) rfl) (by rfl) T.b_len PySem.boot_len (pa_cons (pv 2) pa_nil)) (pa_cons (pe_un un_neg pe_int) (pa_cons (pe_un un_neg pe_int) pa_nil)))) (pg_name (i := 5) sc_l_all.nd rfl (by first | exact Or.inl rfl | exact Or.inr rfl)) (pss_cons (ps_J (ps_par (i := 7) (j := 8) (by rfl) sc_l_all.nd rfl rfl (by decide) rfl rfl (pa_cons (pe_lstI pa_nil) (pa_cons (pe_ix (ixQ (K := K) rfl) (pe_ifExp (pt_cmpR op_eq (pv 5) (pe_callB (lenA (K := K) rfl) (by rfl) T.b_len PySem.boot_len (pa_cons (pv 2) pa_nil)) (nomark _)) (pv 3) (pe_ix (ixT (K := K) rfl) (pe_ix (ixQ (K := K) rfl) (pv 2) (pv 5) (fun _ _ => rfl)) pe_int (fun _ _ => rfl))) (pv 6) (fun _ _ => rfl)) pa_nil)) (by rfl)))
      (pss_cons (ps_for PassesOwn.never rfl (pi_listK (K := K) rfl (pv 4)) (pg_name (i := 9) sc_l_all.nd rfl (by first | exact Or.inl rfl | exact Or.inr rfl)) (pss_cons (ps_set (i := 10) sc_l_all.nd rfl (by first | exact Or.inl rfl | exact Or.inr rfl) (pe_ix (ixL (K := K) rfl) (pv 9) (pv 5) (fun _ _ => rfl)))
      (pss_cons (ps_J (ps_set (i := 11) sc_l_all.nd rfl (by first | exact Or.inl rfl | exact Or.inr rfl) (pe_op op_sub (pe_ifExp (pt_cmpR op_gt (pv 5) pe_int (nomark _)) (pe_ix (ixL (K := K) rfl) (pe_ix (ixL (K := K) rfl) (pv 9) (pe_op op_sub (pv 5) pe_int) (fun _ _ => rfl)) (pv 6) (fun _ _ => rfl)) (pe_callB (sumBK (K := K) rfl rfl) (by rfl) T.b_sum (by decide +kernel) (pa_cons (pe_slice (slBK (K := K) rfl) (pv 1) po_none (po_some (pe_op op_add (pv 6) pe_int))) pa_nil))) (pe_ix (ixL (K := K) rfl) (pv 10) (pv 6) (fun _ _ => rfl)))))
      (pss_cons (ps_J (ps_if (pt_cmpR op_lt (pv 5) (pe_callB (lenA (K := K) rfl) (by rfl) T.b_len PySem.boot_len (pa_cons (pv 2) pa_nil)) (nomark _)) (pss_cons (ps_set (i := 12) sc_l_all.nd rfl (by first | exact Or.inl rfl | exact Or.inr rfl) (pe_ix (ixL (K := K) rfl) (pe_ix (ixL (K := K) rfl) (pv 9) (pe_op op_add (pv 5) pe_int) (fun _ _ => rfl)) (pe_op op_add (pv 6) pe_int) (fun _ _ => rfl)))
      (pss_one (ps_J (ps_set (i := 11) sc_l_all.nd rfl (by first | exact Or.inl rfl | exact Or.inr rfl) (pe_callB (call_min2 rfl) (by rfl) T.b_min (by decide +kernel) (pa_cons (pv 11) (pa_cons (pe_op op_sub (pe_op op_add (pe_ix (ixT (K := K) rfl) (pe_ix (ixQ (K := K) rfl) (pv 2) (pv 5) (fun _ _ => rfl)) pe_int (fun _ _ => rfl)) (pv 12)) (pe_ix (ixL (K := K) rfl) (pv 10) (pv 6) (fun _ _ => rfl))) pa_nil))))))) pss_nil))
      (pss_one (ps_for PassesOwn.never rfl (pi_range1 (by rfl) T.b_range (pa_cons (pe_op op_add (pe_callB (call_min2 rfl) (by rfl) T.b_min (by decide +kernel) (pa_cons (pv 11) (pa_cons (pv 8) pa_nil))) pe_int) pa_nil)) (pg_name (i := 13) sc_l_all.nd rfl (by first | exact Or.inl rfl | exact Or.inr rfl)) (pss_cons (ps_set (i := 14) sc_l_all.nd rfl (by first | exact Or.inl rfl | exact Or.inr rfl) (pe_op op_catI (pv 10) (pe_lstI (pa_cons (pe_op op_add (pe_ix (ixL (K := K) rfl) (pv 10) (pv 6) (fun _ _ => rfl)) (pv 13)) pa_nil))))
      (pss_one (ps_expr (pe_bm PySem.F.plainAttrs_list PySem.F.slot_list_append PySem.F.type_list_append mt_append (pv 7) (pa_cons (pe_op op_catI (pe_op op_catI (pe_slice (slL (K := K) rfl) (pv 9) po_none (po_some (pv 5))) (pe_lstI (pa_cons (pv 14) pa_nil))) (pe_slice (slL (K := K) rfl) (pv 9) (po_some (pe_op op_add (pv 5) pe_int)) po_none)) pa_nil)))))))))))
      (pss_one (ps_set (i := 4) sc_l_all.nd rfl (by first | exact Or.inl rfl | exact Or.inr rfl) (pv 7))))))))
      (pss_one (ps_ret (pv 4)))))), ?_⟩
    have k1 := O.k1
    have k2 := O.k2
    have h2 := O.h2
    refine ⟨_, rfl, d, _, rfl, hD.at_, rfl, _, _, rfl, _, _, rfl, _, _, rfl, rfl, ?_⟩
    refine ⟨_, rfl, _, _, rfl, lenV_b hD.ks, ?_⟩
    rw [List.length_map, hD.len]
    refine ⟨_, _, rfl, rfl, _, rfl, by omega, by omega, fun g hg => ?_⟩
    refine lc_range (lo := 0) (n := ((D.ks.length : Int) + 1).toNat) (fun i H' => ∃ rs : List Addr, Same H H' ∧ H' g = some (.lst (rs.map V.ref)) ∧ Paired (RwAt H' g) rs (List.replicate i [0])) ⟨[], same_new hg, upd_same, .nil⟩ (fun i H2 hi z => ?_) (fun H2 z => ?_)
    · obtain ⟨rs, s2, hg2, P2⟩ := z
      refine ⟨rfl, yesT ⟨rfl, fun r H3 s3 n3 h3 => ?_⟩⟩
      have hg3 := s3 _ _ hg2
      have lr : rs.length = i := by rw [Paired.length P2, List.length_replicate]
      refine ⟨_, hg3, by rw [List.length_map]; exact small' (by omega), rs ++ [r], Same.put (s2.trans s3) hg, by rw [upd_same, List.map_append] <;> rfl, ?_⟩
      rw [List.replicate_succ']
      exact pair_map (fun _ _ z => z.fr fr_upd) (pair_app (pair_map (fun _ _ z => z.fr (.of s3)) P2) (.cons ⟨h3, (ne_of_none hg2 n3).symm⟩ .nil))
    · obtain ⟨rs, s2, hg2, P2⟩ := z
      refine ⟨rfl, fun fo H3 s3 n3 h3 => ?_⟩
      refine ⟨_, rfl, _, _, rfl, lenV_b (hD.same (s2.trans s3)).cs.1, ?_⟩
      rw [List.length_map]
      have eK : ((D.ks.length : Int) + 1).toNat = D.ks.length + 1 := by omega
      rw [eK] at P2
      have T3 : Tbs H3 fo [g] (genH D 0) := .cons ⟨rs, s3 _ _ hg2, (ne_of_none hg2 n3), pair_map (fun _ _ z => (z.to n3).fr (.of s3)) P2⟩ .nil
      refine ⟨_, rfl, by omega, by omega, for_range (lo := 0) (n := ((D.cs.length : Int)).toNat) (fun t σ H' => ∃ (f : Addr) (as : List Addr) (v5 v6 v7 v8 v9 v10 v11 v12 v13 v14 : Option V), σ = [some (.ref d), some (.ref x.c), some (.ref x.k), some (.ref x.s), some (.ref f), v5, v6, v7, v8, v9, v10, v11, v12, v13, v14] ∧ Same H H' ∧ H f = none ∧ H' f = some (.lst (as.map V.ref)) ∧ Tbs H' f as (genH D t))
        ⟨fo, [g], _, _, _, _, _, _, _, _, _, _, rfl, s2.trans s3, same_none' s2 n3, h3, T3⟩ ?_ ?_⟩
      · rintro t σ H4 ht ⟨f, as, v5, v6, v7, v8, v9, v10, v11, v12, v13, v14, rfl, s4, nf, hf, T4⟩
        rw [Int.toNat_natCast] at ht
        rw [Int.zero_add]
        refine ⟨_, rfl, _, _, rfl, lenV_b (hD.same s4).ks, ?_⟩
        rw [List.length_map, hD.len]
        refine ⟨_, rfl, _, rfl, _, _, _, D.ks.length + 1, rfl, rgC_down k2, for_rangeC (lo := (D.ks.length : Int)) (c := -1) (n := D.ks.length + 1) (fun j σ H' => ∃ (f : Addr) (as : List Addr) (v5 v7 v8 v9 v10 v11 v12 v13 v14 : Option V), σ = [some (.ref d), some (.ref x.c), some (.ref x.k), some (.ref x.s), some (.ref f), v5, some (.int (t : Nat)), v7, v8, v9, v10, v11, v12, v13, v14] ∧ Same H H' ∧ H f = none ∧ H' f = some (.lst (as.map V.ref)) ∧ Tbs H' f as (genP D t (genH D t) j))
          ⟨f, as, _, _, _, _, _, _, _, _, _, rfl, s4, nf, hf, T4⟩ ?_ ?_⟩
        · clear v5 v7 v8 v9 v10 v11 v12 v13 v14 v6 T4 hf nf
          clear f as
          rintro j σ H5 hj ⟨f, as, v5, v7, v8, v9, v10, v11, v12, v13, v14, rfl, s5, nf, hf, T5⟩
          obtain ⟨p', epl, lpl⟩ : ∃ pl : Nat, (D.ks.length : Int) + (j : Int) * -1 = (pl : Int) ∧ pl + j = D.ks.length := ⟨D.ks.length - j, by omega, by omega⟩
          rw [epl]
          have hp : p' ≤ D.ks.length := by omega
          have ep : D.ks.length - j = p' := by omega
          have hD5 := hD.same s5
          refine ⟨fun σ' H' => ∃ l, σ' = [some (.ref d), some (.ref x.c), some (.ref x.k), some (.ref x.s), some (.ref f), some (.int (p' : Nat)), some (.int (t : Nat)), some (.ref l), some (.int (mayT D p' t)), v9, v10, v11, v12, v13, v14] ∧ Same H5 H' ∧ H5 l = none ∧ H' l = some (.lst []), ?_, ?_⟩
          rotate_left
          · refine ⟨rfl, fun l H6 s6 n6 h6 => ?_⟩
            have hD6 := hD5.same s6
            refine ⟨_, rfl, _, rfl, _, _, rfl, lenV_b hD6.ks, ?_⟩
            rw [List.length_map, hD.len]
            refine ⟨rfl, _, rfl, ?_⟩
            by_cases c : p' = D.ks.length
            · refine ite_bT (decide_eq_true (by rw [c])) ?_
              refine ⟨_, rfl, _, rfl, ix_b (i := t) hD6.ss.1 rfl (ints_get (by rw [O.sl]; exact ht)) ?_⟩
              refine ⟨_, _, rfl, l, ?_, s6, n6, h6⟩
              rw [show mayT D p' t = D.ss.getD t 0 from if_pos c] <;> rfl
            · refine ite_bF (decide_eq_false (fun z => c (by injection z with z; omega))) ?_
              obtain ⟨ka, tt, b, gk, hk, hks⟩ := hD6.pot (j := p') (by omega)
              refine ⟨_, rfl, _, rfl, ix_b (i := p') hD6.ks rfl gk ⟨ka, _, 1, _, rfl, rfl, hk, at1, ?_⟩⟩
              refine ⟨_, rfl, ix_b (i := t) hks.1 rfl (ints_get (by rw [kt_len O (by omega)]; exact ht)) ?_⟩
              refine ⟨_, _, rfl, l, ?_, s6, n6, h6⟩
              rw [show mayT D p' t = (kt D p').2.getD t 0 from if_neg c] <;> rfl
          rintro σ H6 ⟨l, rfl, s6, nl5, hl6⟩
          have nl : H l = none := same_none' s5 nl5
          have s06 := s5.trans s6
          have hf6 := s6 _ _ hf
          have fl : f ≠ l := ne_of_none hf nl5
          have T6 : Tbs H6 l as (genP D t (genH D t) j) := (T5.to nl5).fr (.of s6)
          have la : as.length = (genP D t (genH D t) j).length := Paired.length T5
          have may2 := mayT_le (p := p') (t := t) hs2 hk2
          have may0 := may_nn (t := t) N hp
          have sm := gen_small (t := t) (j := j + 1) hs2 hk2 h8 ht (by omega)
          refine ⟨_, rfl, f, rfl, ⟨_, SqL.of hf6⟩, for_it (walk_list (K := K) (a := f) (xs := as.map V.ref)) (fun i σ H' => ∃ (bs : List Addr) (v9 v10 v11 v12 v13 v14 : Option V), σ = [some (.ref d), some (.ref x.c), some (.ref x.k), some (.ref x.s), some (.ref f), some (.int (p' : Nat)), some (.int (t : Nat)), some (.ref l), some (.int (mayT D p' t)), v9, v10, v11, v12, v13, v14] ∧ Fr l H6 H' ∧ H' l = some (.lst (bs.map V.ref)) ∧ Tbs H' l bs (((genP D t (genH D t) j).take i).flatMap (extT D p' t)))
            ⟨[], v9, v10, v11, v12, v13, v14, rfl, .refl, hl6, .nil⟩ (fun i σ H' _ ⟨_, _, _, _, _, _, _, _, F, _⟩ => SqL.of (F _ _ fl hf6)) ?_ ?_⟩
          · rintro i v σ H0 H7 hi ⟨bs, u9, u10, u11, u12, u13, u14, rfl, F7, hl7, T7⟩ ⟨rfl, hv⟩
            rw [List.length_map] at hi
            rw [List.getElem?_map] at hv
            obtain ⟨a, ea, rfl⟩ := Option.map_eq_some_iff.mp hv
            obtain ⟨S, eS, tS⟩ := pair_get T6 ea
            have mS : S ∈ genP D t (genH D t) j := List.mem_of_getElem? eS
            have sh := genP_shape k1 (genH_shape k1 t) j (by omega) S mS
            obtain ⟨rs', ha7, al, P7⟩ := tS.fr F7
            have sH7 : Same H H7 := same_frb s06 nl F7
            obtain ⟨r, er, hr7, rl⟩ := pair_getR P7 (rowT_get (S := S) (p := p') (by rw [sh.len]; omega))
            have lenp : (rowT S p').length = t + 1 := (sh.row p' hp).trans (if_neg (by omega))
            refine ⟨_, rfl, _, rfl, a, _, (p' : Int), .ref r, rfl, rfl, SqL.of ha7, at_of (j := p') rfl (by rw [List.getElem?_map, er] <;> rfl), ?_⟩
            refine ⟨fun σ' H' => σ' = [some (.ref d), some (.ref x.c), some (.ref x.k), some (.ref x.s), some (.ref f), some (.int (p' : Nat)), some (.int (t : Nat)), some (.ref l), some (.int (mayT D p' t)), some (.ref a), some (.ref r), some (.int (firstT D S p' t - (rowT S p').getD t 0)), u12, u13, u14] ∧ Same H7 H', ?_, ?_⟩
            rotate_left
            · refine ⟨_, rfl, _, _, rfl, rfl, _, rfl, ?_⟩
              by_cases c0 : p' = 0
              · refine ite_bF (decide_eq_false (by omega)) ?_
                refine ⟨_, rfl, _, rfl, _, _, rfl, rfl, _, rfl, x.c, _, x.pc, rfl, (hD.same sH7).cs.1, fun cu H8 s8 hcu => ?_⟩
                rw [show (t : Int) + 1 = ((t + 1 : Nat) : Int) by omega, cut_to' (by rw [List.length_map]; omega), ← List.map_take] at hcu
                refine ⟨cu, _, x.pc, rfl, hcu, ?_⟩
                refine ⟨_, rfl, _, rfl, r, _, (t : Int), _, rfl, rfl, SqL.of (s8 _ _ hr7), at_of (j := t) rfl (ints_get (by omega)), _, _, rfl, rfl, ?_⟩
                refine ⟨?_, s8⟩
                rw [show firstT D S p' t = csum D (t + 1) from if_pos c0] <;> rfl
              · refine ite_bT (decide_eq_true (by omega)) ?_
                obtain ⟨r1, er1, hr1, _⟩ := pair_getR P7 (rowT_get (S := S) (p := p' - 1) (by rw [sh.len]; omega))
                refine ⟨_, rfl, _, rfl, _, _, rfl, rfl, a, _, (p' : Int) - 1, .ref r1, rfl, rfl, SqL.of ha7, at_of (j := p' - 1) (by omega) (by rw [List.getElem?_map, er1] <;> rfl), ?_⟩
                refine ⟨_, rfl, r1, _, (t : Int), _, rfl, rfl, SqL.of hr1, at_of (j := t) rfl (ints_get (by rw [sh.row (p' - 1) (by omega)]; unfold lenT; split <;> omega)), ?_⟩
                refine ⟨_, rfl, _, rfl, r, _, (t : Int), _, rfl, rfl, SqL.of hr7, at_of (j := t) rfl (ints_get (by omega)), _, _, rfl, rfl, ?_⟩
                refine ⟨?_, .refl _⟩
                rw [show firstT D S p' t = (rowT S (p' - 1)).getD t 0 from if_neg c0] <;> rfl
            rintro σ H8 ⟨rfl, s8⟩
            have ha8 := s8 _ _ ha7
            have hr8 := s8 _ _ hr7
            have hD8 := hD.same (sH7.trans s8)
            have P8 := pair_map (fun _ _ z => RwAt.fr z (.of s8)) P7
            refine ⟨fun σ' H' => ∃ w12, σ' = [some (.ref d), some (.ref x.c), some (.ref x.k), some (.ref x.s), some (.ref f), some (.int (p' : Nat)), some (.int (t : Nat)), some (.ref l), some (.int (mayT D p' t)), some (.ref a), some (.ref r), some (.int (mostT D S p' t)), w12, u13, u14] ∧ H' = H8, ?_, ?_⟩
            rotate_left
            · refine ⟨_, rfl, _, rfl, _, _, rfl, lenV_b hD8.ks, ?_⟩
              rw [List.length_map, hD.len]
              refine ⟨_, _, rfl, rfl, _, rfl, ?_⟩
              by_cases c : p' < D.ks.length
              · refine ite_bT (decide_eq_true (by omega)) ?_
                obtain ⟨r2, er2, hr2, _⟩ := pair_getR P8 (rowT_get (S := S) (p := p' + 1) (by rw [sh.len]; omega))
                refine ⟨_, rfl, _, rfl, _, _, rfl, rfl, a, _, (p' : Int) + 1, .ref r2, rfl, rfl, SqL.of ha8, at_of (j := p' + 1) (by omega) (by rw [List.getElem?_map, er2] <;> rfl), ?_⟩
                refine ⟨_, rfl, _, _, rfl, rfl, r2, _, (t : Int) + 1, _, rfl, rfl, SqL.of hr2, at_of (j := t + 1) (by omega) (ints_get (by rw [sh.row (p' + 1) (by omega)]; unfold lenT; rw [if_pos (by omega)]; omega)), ?_⟩
                refine ⟨_, fun _ _ z => z, ?_⟩
                obtain ⟨ka, tt, b, gk, hk, hks⟩ := hD8.pot (j := p') c
                refine ⟨_, rfl, _, rfl, _, rfl, ix_b (i := p') hD8.ks rfl gk ⟨ka, _, 0, _, rfl, rfl, hk, at0, ?_⟩⟩
                refine ⟨_, rfl, _, _, rfl, rfl, _, rfl, _, rfl, r, _, (t : Int), _, rfl, rfl, SqL.of hr8, at_of (j := t) rfl (ints_get (by omega)), _, _, rfl, rfl, _, _, rfl, ?_⟩
                refine ⟨some (.int ((rowT S (p' + 1)).getD (t + 1) 0)), ?_, rfl⟩
                have e : (if (kt D p').1 + (rowT S (p' + 1)).getD (t + 1) 0 - (rowT S p').getD t 0 < firstT D S p' t - (rowT S p').getD t 0 then (kt D p').1 + (rowT S (p' + 1)).getD (t + 1) 0 - (rowT S p').getD t 0 else firstT D S p' t - (rowT S p').getD t 0) = mostT D S p' t := by
                  unfold mostT
                  rw [if_pos c]
                  split <;> omega
                rw [e] <;> rfl
              · refine ite_bF (decide_eq_false (by omega)) ?_
                refine ⟨u12, ?_, rfl⟩
                rw [show mostT D S p' t = firstT D S p' t - (rowT S p').getD t 0 from if_neg c] <;> rfl
            rintro σ H9 ⟨w12, rfl, e9⟩
            obtain rfl := e9.symm
            refine ⟨_, rfl, _, rfl, _, _, rfl, _, _, rfl, rfl, ?_⟩
            have em : (if mayT D p' t < mostT D S p' t then mayT D p' t else mostT D S p' t) + 1 = min (mostT D S p' t) (mayT D p' t) + 1 := by split <;> omega
            have lo := most_lo N (by omega) sh (by omega)
            rw [ep] at lo
            have F8 : Fr l H6 H8 := F7.trans (.of s8)
            refine ⟨min (mostT D S p' t) (mayT D p' t) + 1, by rw [← em] <;> rfl, by omega, by omega, for_range (lo := 0) (n := (min (mostT D S p' t) (mayT D p' t) + 1).toNat) (fun q σ H' => ∃ (cs : List Addr) (w13 w14 : Option V), σ = [some (.ref d), some (.ref x.c), some (.ref x.k), some (.ref x.s), some (.ref f), some (.int (p' : Nat)), some (.int (t : Nat)), some (.ref l), some (.int (mayT D p' t)), some (.ref a), some (.ref r), some (.int (mostT D S p' t)), w12, w13, w14] ∧ Fr l H8 H' ∧ H' l = some (.lst (cs.map V.ref)) ∧ Tbs H' l cs (((genP D t (genH D t) j).take i).flatMap (extT D p' t) ++ (extT D p' t S).take q))
              ⟨bs, _, _, rfl, .refl, s8 _ _ hl7, by rw [List.take_zero, List.append_nil]; exact T7.fr (.of s8)⟩ ?_ ?_⟩
            · rintro q σ H9 hq ⟨cs, w13, w14, rfl, F9, hl9, T9⟩
              rw [Int.zero_add]
              have hr9 := F9 _ _ rl hr8
              have ha9 := F9 _ _ al ha8
              refine ⟨_, rfl, _, rfl, _, rfl, r, _, (t : Int), _, rfl, rfl, SqL.of hr9, at_of (j := t) rfl (ints_get (by omega)), _, rfl, _, _, rfl, rfl, rfl, fun l1 H10 s10 n10 h10 => ?_⟩
              refine ⟨r, l1, _, _, rfl, rfl, s10 _ _ hr9, h10, by rw [List.length_map, lenp, sizeLine_eq]; show t + 1 + 1 ≤ _; omega, fun m H11 s11 n11 h11 => ?_⟩
              have ha11 := s11 _ _ (s10 _ _ ha9)
              refine ⟨_, rfl, .inl ⟨rfl, _, SqL.of ((s10.trans s11) _ _ hl9)⟩, ?_⟩
              refine ⟨_, rfl, _, rfl, _, rfl, a, _, rfl, SqL.of ha11, fun c1 H12 s12 n12 h12 => ⟨_, rfl, rfl, fun c2 H13 s13 n13 h13 => ?_⟩⟩
              have lr := Paired.length P7
              rw [sh.len] at lr
              refine ⟨c1, c2, _, _, rfl, rfl, s13 _ _ h12, h13, ?_, fun c3 H14 s14 n14 h14 => ?_⟩
              · rw [cut_to' (by rw [List.length_map]; omega), List.length_take, List.length_map, sizeLine_eq]
                show _ + 1 ≤ _
                omega
              have s1214 := s12.trans (s13.trans s14)
              refine ⟨_, rfl, _, rfl, _, _, rfl, rfl, _, rfl, a, _, rfl, SqL.of (s1214 _ _ ha11), fun c4 H15 s15 n15 h15 => ?_⟩
              refine ⟨c3, c4, _, _, rfl, rfl, s15 _ _ h14, h15, ?_, fun c5 H16 s16 n16 h16 => ?_⟩
              · rw [cut_to' (by rw [List.length_map]; omega), List.length_append, List.length_take, List.length_map, sizeLine_eq]
                have z : (cutV (rs'.map V.ref) (some ((p' : Int) + 1)) none).length ≤ 10 := by
                  unfold cutV
                  rw [List.length_take, List.length_drop, List.length_map]
                  omega
                show _ + 1 + _ ≤ _
                omega
              rw [tab_set (by omega)] at h16
              have s916 : Same H9 H16 := s10.trans (s11.trans (s1214.trans (s15.trans s16)))
              have hl15 := (s10.trans (s11.trans (s1214.trans s15))) _ _ hl9
              have hl16 := s16 _ _ hl15
              have lc := Paired.length T9
              rw [List.length_append] at lc
              have lf := flat_len (g := extT D p' t) (n := 3) (F := (genP D t (genH D t) j).take i) fun S _ => ext_len may2
              have le := ext_len (S := S) may2
              have sj := gen_small (t := t) (j := j) hs2 hk2 h8 ht (by omega)
              rw [List.length_take] at lf lc
              refine ⟨l, _, _, rfl, rfl, hl16, by rw [List.length_map]; exact small' (by omega), ?_⟩
              have F916 : Fr l H9 H16 := .of s916
              have P16 := pair_map (fun _ _ z => RwAt.fr z (F9.trans F916)) P8
              have ml : m ≠ l := (ne_of_none (s10 _ _ hl9) n11).symm
              have hm16 : H16 m = some (.lst ((rowT S p' ++ [(rowT S p').getD t 0 + (q : Int)]).map V.int)) := by
                rw [(s1214.trans (s15.trans s16)) _ _ h11, List.map_append] <;> rfl
              refine ⟨cs ++ [c5], _, _, rfl, (F9.trans F916).put, by rw [upd_same, List.map_append] <;> rfl, ?_⟩
              rw [take_one (ext_get hq), ← List.append_assoc]
              exact Tbs.fr (pair_app (T9.fr F916) (.cons ⟨rs'.set p' m, h16, (ne_of_none hl15 n16).symm, pair_set P16 ⟨hm16, ml⟩⟩ .nil)) fr_upd
            · rintro σ H9 ⟨cs, w13, w14, rfl, F9, hl9, T9⟩
              rw [ext_all] at T9
              refine ⟨cs, _, _, _, _, _, _, rfl, F8.trans F9, hl9, ?_⟩
              rw [take_one eS, List.flatMap_append, List.flatMap_cons, List.flatMap_nil, List.append_nil]
              exact T9
          · rintro σ H9 ⟨bs, u9, u10, u11, u12, u13, u14, rfl, F7, hl7, T7⟩
            rw [List.length_map, la, List.take_length] at T7
            refine ⟨_, rfl, ?_⟩
            refine ⟨l, bs, _, _, _, _, _, _, _, _, _, rfl, same_frb s06 nl F7, nl, hl7, ?_⟩
            show Tbs H9 l bs ((genP D t (genH D t) j).flatMap (extT D (D.ks.length - j) t))
            rw [ep]
            exact T7
        · rintro σ H5 ⟨f, as, v5, v7, v8, v9, v10, v11, v12, v13, v14, rfl, s5, nf, hf, T5⟩
          exact ⟨f, as, _, _, _, _, _, _, _, _, _, _, rfl, s5, nf, hf, T5⟩
      · rintro σ H4 ⟨f, as, v5, v6, v7, v8, v9, v10, v11, v12, v13, v14, rfl, s4, nf, hf, T4⟩
        rw [Int.toNat_natCast] at T4
        exact ⟨_, rfl, q f as H4 s4 nf hf T4⟩

end
end KR
namespace KR
open PySem PySem.Spec PyProof.Rows L2
section
variable {P : Program} {w : World} {K : PySem.W.Frag} {mg : Str → Option Value} {base : Heap}
def sp_p_places_in (K : PySem.W.Frag) : Sp := fun vs H Q _ => ∃ (p d : Addr) (x : DyP) (D : Dy), vs = [.ref d] ∧ DayAt K H p d x D ∧ Q (.int ((D.ks.length : Int) + 1)) H
theorem ok_p_places_in (T : All K mg) : FnOk P w K mg base CX0 1 T.f_p_places_in T.fd_p_places_in ["day"] (sp_p_places_in K) := by
  refine T.d_p_places_in.fn.ok sc_p_places_in (fun vs H Q E h => ?_) (fun cdv A outer s H vs Q E hr h => ?_)
  · obtain ⟨p, d, x, D, rfl, _⟩ := h
    rfl
  · obtain ⟨p, d, x, D, rfl, hD, q⟩ := h
    refine ⟨_, (pss_one (ps_ret (pe_op op_add (pe_callB (lenA (K := K) rfl) (by rfl) T.b_len PySem.boot_len (pa_cons (pe_ix (ixT (K := K) rfl) (pv 0) pe_int (fun _ _ => rfl)) pa_nil)) pe_int))), ?_⟩
    refine ⟨_, rfl, d, _, 1, _, rfl, rfl, hD.at_, at1, _, _, rfl, lenV_b hD.ks, _, _, rfl, rfl, ?_⟩
    rw [List.length_map, hD.len]
    exact q

end
end KR
namespace KR
open PySem PySem.Spec PyProof.Rows L2
section
variable {P : Program} {w : World} {K : PySem.W.Frag} {mg : Str → Option Value} {base : Heap}
def sp_p_hours_in (K : PySem.W.Frag) : Sp := fun vs H Q _ => ∃ (p d : Addr) (x : DyP) (D : Dy), vs = [.ref d] ∧ DayAt K H p d x D ∧ Q (.int (D.cs.length : Int)) H
theorem ok_p_hours_in (T : All K mg) : FnOk P w K mg base CX0 1 T.f_p_hours_in T.fd_p_hours_in ["day"] (sp_p_hours_in K) := by
  refine T.d_p_hours_in.fn.ok sc_p_hours_in (fun vs H Q E h => ?_) (fun cdv A outer s H vs Q E hr h => ?_)
  · obtain ⟨p, d, x, D, rfl, _⟩ := h
    rfl
  · obtain ⟨p, d, x, D, rfl, hD, q⟩ := h
    refine ⟨_, (pss_one (ps_ret (pe_callB (lenA (K := K) rfl) (by rfl) T.b_len PySem.boot_len (pa_cons (pe_ix (ixT (K := K) rfl) (pv 0) pe_int (fun _ _ => rfl)) pa_nil)))), ?_⟩
    refine ⟨_, rfl, d, _, 0, _, rfl, rfl, hD.at_, at0, _, _, rfl, lenV_b hD.cs.1, ?_⟩
    rw [List.length_map]
    exact q

end
end KR
namespace KR
open PySem PySem.Spec PyProof.Rows L2
section
variable {P : Program} {w : World} {K : PySem.W.Frag} {mg : Str → Option Value} {base : Heap}
def sp_p_bounds_at (K : PySem.W.Frag) : Sp := fun vs H Q _ => ∃ (p d : Addr) (x : DyP) (D : Dy) (pl t : Nat) (h : Int), vs = [.ref d, .int (pl : Int), .int h] ∧ h = (t : Int) - 1 ∧ DayAt K H p d x D ∧ DyOk D ∧ pl ≤ D.ks.length ∧ t ≤ D.cs.length ∧
  ∀ (b : Addr) (kvs : List (Key × V)) (H' : Hp), Same H H' → H b = none → H' b = some (.dK kvs) → AllBd H' kvs (bnds D pl t) → Q (.ref b) H'
theorem ok_p_bounds_at (T : All K mg) : FnOk P w K mg base CX0 1 T.f_p_bounds_at T.fd_p_bounds_at ["day", "place", "hour"] (sp_p_bounds_at K) := by
  refine T.d_p_bounds_at.fn.ok sc_p_bounds_at (fun vs H Q E h => ?_) (fun cdv A outer s H vs Q E hr h => ?_)
  · obtain ⟨p, d, x, D, pl, t, h, rfl, _⟩ := h
    rfl
  · obtain ⟨p, d, x, D, pl, t, h, rfl, eh, hD, O, lp, lt, q⟩ := h
    refine ⟨_, (pss_cons (ps_if (pt_cmpR op_eq (pv 2) (pe_glob (v := .int (-1)) rfl T.c_AHEAD_OF_ALL ⟨_, rfl⟩) (nomark _)) (pss_one (ps_ret (pe_disp (pps_cons pe_str (pe_tupI (pa_cons pe_non (pa_cons pe_int pa_nil))) pps_nil) rfl rfl (by simp) (by decide)))) pss_nil)
      (pss_cons (ps_asg (pv 0) (pg_tupK (K := K) rfl rfl (pgs_cons (pg_name (i := 3) sc_p_bounds_at.nd rfl (by first | exact Or.inl rfl | exact Or.inr rfl)) (pgs_cons (pg_name (i := 4) sc_p_bounds_at.nd rfl (by first | exact Or.inl rfl | exact Or.inr rfl)) (pgs_cons (pg_name (i := 5) sc_p_bounds_at.nd rfl (by first | exact Or.inl rfl | exact Or.inr rfl)) pgs_nil)))))
      (pss_cons (ps_J (ps_if (pt_cmpR op_eq (pv 1) pe_int (nomark _)) (pss_one (ps_set (i := 6) sc_p_bounds_at.nd rfl (by first | exact Or.inl rfl | exact Or.inr rfl) (pe_disp (pps_cons pe_str (pe_tupI (pa_cons pe_non (pa_cons (pe_callB (sumBK (K := K) rfl rfl) (by rfl) T.b_sum (by decide +kernel) (pa_cons (pe_slice (slBK (K := K) rfl) (pv 3) po_none (po_some (pe_op op_add (pv 2) pe_int))) pa_nil)) pa_nil))) pps_nil) rfl rfl (by simp) (by decide)))) (pss_one (ps_set (i := 6) sc_p_bounds_at.nd rfl (by first | exact Or.inl rfl | exact Or.inr rfl) (pe_disp (pps_cons pe_str (pe_tupI (pa_cons (pe_tupI (pa_cons (pe_op op_sub (pv 1) pe_int) (pa_cons (pe_op op_sub (pv 2) pe_int) pa_nil))) (pa_cons pe_int pa_nil))) pps_nil) rfl rfl (by simp) (by decide))))))
      (pss_cons (ps_if (pt_cmpR op_eq (pv 1) (pe_callB (lenA (K := K) rfl) (by rfl) T.b_len PySem.boot_len (pa_cons (pv 4) pa_nil)) (nomark _)) (pss_one (ps_asg (pe_tupI (pa_cons (pe_tupI (pa_cons (pv 1) (pa_cons (pe_op op_sub (pv 2) pe_int) pa_nil))) (pa_cons (pe_ix (ixQ (K := K) rfl) (pv 5) (pv 2) (fun _ _ => rfl)) pa_nil))) (pg_sub (pv 6) pe_str (set_dict (hu_of hr))))) (pss_cons (ps_asg (pe_ix (ixQ (K := K) rfl) (pv 4) (pv 1) (fun _ _ => rfl)) (pg_tupK (K := K) rfl rfl (pgs_cons (pg_name (i := 7) sc_p_bounds_at.nd rfl (by first | exact Or.inl rfl | exact Or.inr rfl)) (pgs_cons (pg_name (i := 8) sc_p_bounds_at.nd rfl (by first | exact Or.inl rfl | exact Or.inr rfl)) pgs_nil))))
      (pss_cons (ps_asg (pe_tupI (pa_cons (pe_tupI (pa_cons (pv 1) (pa_cons (pe_op op_sub (pv 2) pe_int) pa_nil))) (pa_cons (pe_ix (ixQ (K := K) rfl) (pv 8) (pv 2) (fun _ _ => rfl)) pa_nil))) (pg_sub (pv 6) pe_str (set_dict (hu_of hr))))
      (pss_one (ps_asg (pe_tupI (pa_cons (pe_tupI (pa_cons (pe_op op_add (pv 1) pe_int) (pa_cons (pv 2) pa_nil))) (pa_cons (pv 7) pa_nil))) (pg_sub (pv 6) pe_str (set_dict (hu_of hr))))))))
      (pss_one (ps_ret (pv 6))))))), ?_⟩
    refine ⟨_, rfl, rfl, _, rfl, ?_⟩
    cases t with
    | zero =>
      refine ite_iT (by omega) ?_
      refine fun b nb => ?_
      refine ⟨rfl, fun tu H1 s1 n1 h1 => ?_⟩
      refine ⟨s1 _ _ upd_same, [(.inr "begin", .ref tu)], rfl, by show 1 ≤ 15; decide, ?_⟩
      have tb : tu ≠ b := fun e => by
        rw [e, upd_same] at n1
        cases n1
      exact q b _ _ (Same.put ((same_new nb).trans s1) nb) nb upd_same (.cons ⟨rfl, tu, .non, rfl, by rw [upd_ne tb]; exact h1, rfl⟩ .nil)
    | succ t =>
      obtain rfl : h = (t : Int) := by omega
      refine ite_iF (by omega) ?_
      refine ⟨_, rfl, d, _, rfl, hD.at_, rfl, _, _, rfl, _, _, rfl, _, _, rfl, rfl, ?_⟩
      refine ⟨fun σ' H' => ∃ (b tu : Addr) (l : V), σ' = [some (.ref d), some (.int (pl : Int)), some (.int (t : Int)), some (.ref x.c), some (.ref x.k), some (.ref x.s), some (.ref b), none, none] ∧ Same H H' ∧ H b = none ∧ H' b = some (.dK [(.inr (firstB D pl t).word, .ref tu)]) ∧ H' tu = some (.tup [l, .int (firstB D pl t).more]) ∧ leadV H' l (firstB D pl t).lead ∧ tu ≠ b ∧ (∀ q, l = .ref q → q ≠ b), ?_, ?_⟩
      · rintro σ' H1 ⟨b, tu, l, rfl, s1, nb, hb, htu, hl, tub, lb⟩
        have hD1 := hD.same s1
        have fb : (pl = 0 ∧ (firstB D pl t).word = "comes") ∨ (pl ≠ 0 ∧ (firstB D pl t).word = "ahead") := by
          unfold firstB
          by_cases c : pl = 0
          · rw [if_pos c]
            exact .inl ⟨c, rfl⟩
          · rw [if_neg c]
            exact .inr ⟨c, rfl⟩
        have nt : ∀ w : Str, (w = "takes" ∨ w = "room") → (firstB D pl t).word ≠ w := by
          intro w hw e
          rcases fb with ⟨_, f⟩ | ⟨_, f⟩ <;> rw [f] at e <;> rcases hw with rfl | rfl <;> exact absurd e (by decide)
        have leadK : ∀ {H' : Hp}, Same H1 H' → leadV (upd H' b (.dK [])) l (firstB D pl t).lead → True := fun _ _ => trivial
        have keep : ∀ {H' : Hp} {o : HO}, Same H1 H' → leadV (upd H' b o) l (firstB D pl t).lead := fun {H' o} s => by
          cases e : (firstB D pl t).lead with
          | none =>
            rw [e] at hl
            exact hl
          | some y =>
            rw [e] at hl
            obtain ⟨q0, e0, h0⟩ := hl
            exact ⟨q0, e0, by rw [upd_ne (lb q0 e0)]; exact s _ _ h0⟩
        refine ⟨_, rfl, _, rfl, _, _, rfl, lenV_b hD1.ks, rfl, _, rfl, ?_⟩
        rw [List.length_map, hD.len]
        by_cases c : pl = D.ks.length
        · refine ite_iT (by omega) ?_
          refine ⟨_, rfl, _, rfl, _, _, rfl, rfl, rfl, fun q1 H2 s2 n2 h2 => ?_⟩
          refine ⟨_, rfl, _, rfl, ix_b (i := t) (hD1.ss.1.same s2) rfl (ints_get (by rw [O.sl]; omega)) ?_⟩
          refine ⟨rfl, fun t2 H3 s3 n3 h3 => ?_⟩
          have s13 := s2.trans s3
          have hb3 := s13 _ _ hb
          refine ⟨_, rfl, b, _, rfl, .k (k := .inr "takes") hb3 (by show 1 < sizeLine; rw [sizeLine_eq]; decide), ?_⟩
          have pn : putK [((.inr (firstB D pl t).word : Key), V.ref tu)] (.inr "takes") (.ref t2) = [((.inr (firstB D pl t).word : Key), V.ref tu), (.inr "takes", .ref t2)] := putK_new _ (by rw [valV_neg (fun e => nt "takes" (.inl rfl) (Sum.inr.inj e))] <;> rfl)
          rw [pn]
          have q1b : q1 ≠ b := (ne_of_none hb n2).symm
          have t2b : t2 ≠ b := (ne_of_none (s2 _ _ hb) n3).symm
          refine ⟨_, rfl, q b _ _ (Same.put (s1.trans s13) nb) nb upd_same ?_⟩
          rw [show bnds D pl (t + 1) = [firstB D pl t, ⟨"takes", some ((pl : Int), (t : Int) - 1), D.ss.getD t 0⟩] from if_pos c]
          exact .cons ⟨rfl, tu, l, rfl, by rw [upd_ne tub]; exact s13 _ _ htu, keep s13⟩ (.cons ⟨rfl, t2, .ref q1, rfl, by rw [upd_ne t2b]; exact h3, q1, rfl, by rw [upd_ne q1b]; exact s3 _ _ h2⟩ .nil)
        · refine ite_iF (by omega) ?_
          obtain ⟨ka, ta, bb, gk, hk, ht⟩ := hD1.pot (j := pl) (by omega)
          refine ⟨_, rfl, _, rfl, ix_b (i := pl) hD1.ks rfl gk ?_⟩
          refine ⟨ka, _, rfl, hk, rfl, _, _, rfl, _, _, rfl, rfl, ?_⟩
          refine ⟨_, rfl, _, rfl, _, _, rfl, rfl, rfl, fun q1 H2 s2 n2 h2 => ?_⟩
          refine ⟨_, rfl, _, rfl, ix_b (i := t) (ht.1.same s2) rfl (ints_get (by rw [kt_len O (by omega)]; omega)) ?_⟩
          refine ⟨rfl, fun t2 H3 s3 n3 h3 => ?_⟩
          have s13 := s2.trans s3
          have hb3 := s13 _ _ hb
          refine ⟨_, rfl, b, _, rfl, .k (k := .inr "takes") hb3 (by show 1 < sizeLine; rw [sizeLine_eq]; decide), ?_⟩
          have pn : putK [((.inr (firstB D pl t).word : Key), V.ref tu)] (.inr "takes") (.ref t2) = [((.inr (firstB D pl t).word : Key), V.ref tu), (.inr "takes", .ref t2)] := putK_new _ (by rw [valV_neg (fun e => nt "takes" (.inl rfl) (Sum.inr.inj e))] <;> rfl)
          rw [pn]
          have q1b : q1 ≠ b := (ne_of_none hb n2).symm
          have t2b : t2 ≠ b := (ne_of_none (s2 _ _ hb) n3).symm
          have s4 : Same H (upd H3 b (.dK [((.inr (firstB D pl t).word : Key), V.ref tu), (.inr "takes", .ref t2)])) := Same.put (s1.trans s13) nb
          have hb4 : (upd H3 b (.dK [((.inr (firstB D pl t).word : Key), V.ref tu), (.inr "takes", .ref t2)])) b = some (.dK [((.inr (firstB D pl t).word : Key), V.ref tu), (.inr "takes", .ref t2)]) := upd_same
          have htu4 : (upd H3 b (.dK [((.inr (firstB D pl t).word : Key), V.ref tu), (.inr "takes", .ref t2)])) tu = some (.tup [l, .int (firstB D pl t).more]) := by rw [upd_ne tub]; exact s13 _ _ htu
          have ht24 : (upd H3 b (.dK [((.inr (firstB D pl t).word : Key), V.ref tu), (.inr "takes", .ref t2)])) t2 = some (.tup [.ref q1, .int ((kt D pl).2.getD t 0)]) := by rw [upd_ne t2b]; exact h3
          have hq14 : (upd H3 b (.dK [((.inr (firstB D pl t).word : Key), V.ref tu), (.inr "takes", .ref t2)])) q1 = some (.tup [.int (pl : Int), .int ((t : Int) - 1)]) := by rw [upd_ne q1b]; exact s3 _ _ h2
          have kp4 : leadV (upd H3 b (.dK [((.inr (firstB D pl t).word : Key), V.ref tu), (.inr "takes", .ref t2)])) l (firstB D pl t).lead := keep s13
          generalize upd H3 b (.dK [((.inr (firstB D pl t).word : Key), V.ref tu), (.inr "takes", .ref t2)]) = H4 at s4 hb4 htu4 ht24 hq14 kp4
          refine ⟨_, rfl, _, _, rfl, rfl, _, rfl, rfl, fun q2 H5 s5 n5 h5 => ?_⟩
          refine ⟨_, rfl, rfl, fun t3 H6 s6 n6 h6 => ?_⟩
          have s46 := s5.trans s6
          have hb6 := s46 _ _ hb4
          refine ⟨_, rfl, b, _, rfl, .k (k := .inr "room") hb6 (by show 2 < sizeLine; rw [sizeLine_eq]; decide), ?_⟩
          have pn2 : putK [((.inr (firstB D pl t).word : Key), V.ref tu), (.inr "takes", .ref t2)] (.inr "room") (.ref t3) = [((.inr (firstB D pl t).word : Key), V.ref tu), (.inr "takes", .ref t2), (.inr "room", .ref t3)] := putK_new _ (by rw [valV_neg (fun e => nt "room" (.inr rfl) (Sum.inr.inj e)), valV_neg (fun e => absurd (Sum.inr.inj e) (by decide))] <;> rfl)
          rw [pn2]
          have q2b : q2 ≠ b := (ne_of_none hb4 n5).symm
          have t3b : t3 ≠ b := (ne_of_none (s5 _ _ hb4) n6).symm
          refine ⟨_, rfl, q b _ _ (Same.put (s4.trans s46) nb) nb upd_same ?_⟩
          rw [show bnds D pl (t + 1) = [firstB D pl t, ⟨"takes", some ((pl : Int), (t : Int) - 1), (kt D pl).2.getD t 0⟩, ⟨"room", some ((pl : Int) + 1, (t : Int)), (kt D pl).1⟩] from if_neg c]
          have kp6 : leadV (upd H6 b (.dK [((.inr (firstB D pl t).word : Key), V.ref tu), (.inr "takes", .ref t2), (.inr "room", .ref t3)])) l (firstB D pl t).lead := by
            cases e : (firstB D pl t).lead with
            | none =>
              rw [e] at kp4
              exact kp4
            | some y =>
              rw [e] at kp4
              obtain ⟨q0, e0, h0⟩ := kp4
              exact ⟨q0, e0, by rw [upd_ne (lb q0 e0)]; exact s46 _ _ h0⟩
          exact .cons ⟨rfl, tu, l, rfl, by rw [upd_ne tub]; exact s46 _ _ htu4, kp6⟩ (.cons ⟨rfl, t2, .ref q1, rfl, by rw [upd_ne t2b]; exact s46 _ _ ht24, q1, rfl, by rw [upd_ne q1b]; exact s46 _ _ hq14⟩ (.cons ⟨rfl, t3, .ref q2, rfl, by rw [upd_ne t3b]; exact h6, q2, rfl, by rw [upd_ne q2b]; exact s6 _ _ h5⟩ .nil))
      · refine ⟨_, rfl, rfl, _, rfl, ?_⟩
        by_cases c : pl = 0
        · refine ite_iT (by omega) ?_
          refine fun b nb => ?_
          refine ⟨_, rfl, _, rfl, _, _, rfl, rfl, _, rfl, x.c, _, x.pc, rfl, hD.cs.1.same (same_new nb), fun cu H1 s1 hcu => ?_⟩
          rw [show (t : Int) + 1 = ((t + 1 : Nat) : Int) by omega, cut_to' (by rw [List.length_map]; omega), ← List.map_take] at hcu
          refine ⟨cu, _, x.pc, rfl, hcu, rfl, fun tu H2 s2 n2 h2 => ?_⟩
          have s12 := s1.trans s2
          refine ⟨s12 _ _ upd_same, [(.inr "comes", .ref tu)], rfl, by show 1 ≤ 15; decide, ?_⟩
          have tb : tu ≠ b := (ne_of_none (s1 _ _ upd_same) n2).symm
          have e1 : firstB D pl t = ⟨"comes", none, csum D (t + 1)⟩ := if_pos c
          rw [e1]
          exact ⟨b, tu, .non, rfl, Same.put ((same_new nb).trans s12) nb, nb, upd_same, by rw [upd_ne tb]; exact h2, rfl, tb, fun q e => by cases e⟩
        · refine ite_iF (by omega) ?_
          refine fun b nb => ?_
          refine ⟨_, rfl, _, _, rfl, rfl, _, rfl, _, _, rfl, rfl, rfl, fun q1 H1 s1 n1 h1 => ⟨rfl, fun tu H2 s2 n2 h2 => ?_⟩⟩
          have s12 := s1.trans s2
          refine ⟨s12 _ _ upd_same, [(.inr "ahead", .ref tu)], rfl, by show 1 ≤ 15; decide, ?_⟩
          have tb : tu ≠ b := (ne_of_none (s1 _ _ upd_same) n2).symm
          have qb : q1 ≠ b := fun e => by
            rw [e, upd_same] at n1
            cases n1
          have e1 : firstB D pl t = ⟨"ahead", some ((pl : Int) - 1, (t : Int) - 1), 0⟩ := if_neg c
          rw [e1]
          exact ⟨b, tu, .ref q1, rfl, Same.put ((same_new nb).trans s12) nb, nb, upd_same, by rw [upd_ne tb]; exact h2, ⟨q1, rfl, by rw [upd_ne qb]; exact s2 _ _ h1⟩, tb, fun q e => by cases e; exact qb⟩

end
end KR
namespace KR
open PySem PySem.Spec PyProof.Rows L2
section
variable {P : Program} {w : World} {K : PySem.W.Frag} {mg : Str → Option Value} {base : Heap}
def sp_p_reached (K : PySem.W.Frag) : Sp := fun vs H Q _ => ∃ (ta t : Addr) (l : V) (D : Dy) (b : Bd) (kvs : List (List Key × V)), vs = [.ref ta, .ref t] ∧ H t = some (.tup [l, .int b.more]) ∧ leadV H l b.lead ∧ H ta = some (.dT kvs) ∧ (∀ p h, b.lead = some (p, h) → valV kvs [.inl p, .inl h] = some (.int (tk D (h + 1).toNat p.toNat))) ∧ Q (.int (valB D b)) H
theorem ok_p_reached (T : All K mg) : FnOk P w K mg base CX0 1 T.f_p_reached T.fd_p_reached ["taken", "bound"] (sp_p_reached K) := by
  refine T.d_p_reached.fn.ok sc_p_reached (fun vs H Q E h => ?_) (fun cdv A outer s H vs Q E hr h => ?_)
  · obtain ⟨ta, t, l, D, b, kvs, rfl, _⟩ := h
    rfl
  · obtain ⟨ta, t, l, D, b, kvs, rfl, ht, hl, hta, val, q⟩ := h
    refine ⟨_, (pss_cons (ps_asg (pv 1) (pg_tupK (K := K) rfl rfl (pgs_cons (pg_name (i := 2) sc_p_reached.nd rfl (by first | exact Or.inl rfl | exact Or.inr rfl)) (pgs_cons (pg_name (i := 3) sc_p_reached.nd rfl (by first | exact Or.inl rfl | exact Or.inr rfl)) pgs_nil))))
      (pss_cons (ps_if (pt_cmpR op_isN (pv 2) pe_non (nomark _)) (pss_one (ps_ret (pv 3))) pss_nil)
      (pss_one (ps_ret (pe_op op_add (pe_dget (hu_of hr) (pv 0) (pv 2) (fun _ _ => rfl)) (pv 3)))))), ?_⟩
    obtain ⟨w, le, mo⟩ := b
    refine ⟨_, rfl, t, _, rfl, SqT.of ht, rfl, _, _, rfl, _, _, rfl, rfl, ?_⟩
    cases le with
    | none =>
      obtain rfl : l = .non := hl
      exact ⟨_, rfl, rfl, _, rfl, iteT ⟨_, rfl, q⟩⟩
    | some y =>
      obtain ⟨p, h⟩ := y
      obtain ⟨q0, rfl, hq⟩ := hl
      refine ⟨_, rfl, rfl, _, rfl, iteF ?_⟩
      have g : DGet H ta (.ref q0) (some (.int (tk D (h + 1).toNat p.toNat))) := by
        rw [← val p h rfl]
        exact .t (k := [.inl p, .inl h]) hta hq
      refine ⟨_, rfl, _, rfl, ta, _, rfl, g, ?_⟩
      exact ⟨_, rfl, _, _, rfl, rfl, q⟩

end
end KR
namespace KR
open PySem PySem.Spec PyProof.Rows L2
section
variable {P : Program} {w : World} {K : PySem.W.Frag} {mg : Str → Option Value} {base : Heap}
def sp_p__most_taken (K : PySem.W.Frag) : Sp := fun vs H Q _ => ∃ (p d : Addr) (x : DyP) (D : Dy), vs = [.ref d] ∧ DayAt K H p d x D ∧ DyOk D ∧ ∀ (ta : Addr) (kvs : List (List Key × V)) (H' : Hp), Same H H' → H ta = none → H' ta = some (.dT kvs) → Told D kvs (fun p t => p ≤ D.ks.length ∧ t ≤ D.cs.length) → Q (.ref ta) H'
theorem ok_p__most_taken (T : All K mg) : FnOk P w K mg base CX0 2 T.f_p__most_taken T.fd_p__most_taken ["day"] (sp_p__most_taken K) := by
  refine T.d_p__most_taken.fn.ok sc_p__most_taken (fun vs H Q E h => ?_) (fun cdv A outer s H vs Q E hr h => ?_)
  · obtain ⟨p, d, x, D, rfl, _⟩ := h
    rfl
  · obtain ⟨p, d, x, D, rfl, hD, O, q⟩ := h
    refine ⟨_, (pss_cons (ps_set (i := 1) sc_p__most_taken.nd rfl (by first | exact Or.inl rfl | exact Or.inr rfl) pe_dnewT)
      (pss_cons (ps_for PassesOwn.never rfl (pi_range2 (by rfl) T.b_range (pa_cons (pe_glob (v := .int (-1)) rfl T.c_AHEAD_OF_ALL ⟨_, rfl⟩) (pa_cons (pe_call (ok_p_hours_in T) hr (by rfl) T.d_p_hours_in.mg T.d_p_hours_in.fn.kp T.d_p_hours_in.b .nil pass0 (pa_cons (pv 0) pa_nil)) pa_nil))) (pg_name (i := 2) sc_p__most_taken.nd rfl (by first | exact Or.inl rfl | exact Or.inr rfl)) (pss_one (ps_for PassesOwn.never rfl (pi_revR (by rfl) T.b_reversed (prg_1 (by rfl) T.b_range (pe_call (ok_p_places_in T) hr (by rfl) T.d_p_places_in.mg T.d_p_places_in.fn.kp T.d_p_places_in.b .nil pass0 (pa_cons (pv 0) pa_nil)))) (pg_name (i := 3) sc_p__most_taken.nd rfl (by first | exact Or.inl rfl | exact Or.inr rfl)) (pss_cons (ps_set (i := 4) sc_p__most_taken.nd rfl (by first | exact Or.inl rfl | exact Or.inr rfl) (pe_call (ok_p_bounds_at T) hr (by rfl) T.d_p_bounds_at.mg T.d_p_bounds_at.fn.kp T.d_p_bounds_at.b .nil pass0 (pa_cons (pv 0) (pa_cons (pv 3) (pa_cons (pv 2) pa_nil)))))
      (pss_one (ps_asg (pe_callB (minLK (K := K) rfl rfl) (by rfl) T.b_min (by decide +kernel) (pa_cons (pe_lock (pe_lc (own := [("bound", 5)]) (g := gName 5) (tt := tYes) (by rfl) sc_p__most_taken.nd (pi_values (pv 4)) (blkOk_by (own := [("bound", 5)]) (N := ["day", "taken", "hour", "place", "bounds", "bound"]) (sc := defScope s_p__most_taken) (by decide +kernel)) (fun _ _ _ _ _ => (pg_name (i := 5) sc_p__most_taken.nd rfl (by first | exact Or.inl rfl | exact Or.inr rfl))) (fun _ _ _ _ _ => pts_nil) (fun _ _ _ _ _ => (pe_call (ok_p_reached T) hr (by rfl) T.d_p_reached.mg T.d_p_reached.fn.kp T.d_p_reached.b .nil pass0 (pa_cons (pv 1) (pa_cons (pv 5) pa_nil)))))) pa_nil)) (pg_sub (pv 1) (pe_tupI (pa_cons (pv 3) (pa_cons (pv 2) pa_nil))) (set_dict (hu_of hr)))))))))
      (pss_one (ps_ret (pv 1))))), ?_⟩
    have k1 := O.k1
    have k2 := O.k2
    have h2 := O.h2
    refine fun ta nta => ?_
    refine ⟨_, rfl, p, d, x, D, rfl, hD.same (same_new nta), ?_⟩
    have eN : ((D.cs.length : Int) - -1).toNat = D.cs.length + 1 := by omega
    refine ⟨-1, (D.cs.length : Int), rfl, ⟨by decide, by decide, by omega, by omega⟩, for_range (lo := -1) (n := ((D.cs.length : Int) - -1).toNat) (fun i σ H' => ∃ (kvs : List (List Key × V)) (v2 v3 v4 : Option V), σ = [some (.ref d), some (.ref ta), v2, v3, v4, none] ∧ Same H H' ∧ H' ta = some (.dT kvs) ∧ kvs.length ≤ 9 * i ∧ Told D kvs fun p' t' => p' ≤ D.ks.length ∧ t' < i)
      ⟨[], none, none, none, rfl, same_new nta, upd_same, Nat.zero_le _, fun p' t' h => absurd h.2 (Nat.not_lt_zero _)⟩ ?_ ?_⟩
    · rintro i σ H1 hi ⟨kvs, v2, v3, v4, rfl, s1, hta, kl, told⟩
      have i48 : i ≤ D.cs.length := by omega
      refine ⟨_, rfl, p, d, x, D, rfl, hD.same s1, ?_⟩
      have eM : ((D.ks.length : Int) + 1 - 0).toNat = D.ks.length + 1 := by omega
      refine ⟨(D.ks.length : Int) + 1, rfl, by decide, by decide, by omega, by omega, for_rangeC (lo := 0 + ((((D.ks.length : Int) + 1 - 0).toNat : Nat) : Int) - 1) (c := -1) (n := ((D.ks.length : Int) + 1 - 0).toNat) (fun j σ H' => ∃ (kvs : List (List Key × V)) (v3 v4 : Option V), σ = [some (.ref d), some (.ref ta), some (.int (-1 + (i : Int))), v3, v4, none] ∧ Same H H' ∧ H' ta = some (.dT kvs) ∧ kvs.length ≤ 9 * i + j ∧ Told D kvs fun p' t' => p' ≤ D.ks.length ∧ (t' < i ∨ (t' = i ∧ D.ks.length < p' + j)))
        ⟨kvs, v3, v4, rfl, s1, hta, by omega, fun p' t' h => told p' t' ⟨h.1, by omega⟩⟩ ?_ ?_⟩
      · rintro j σ H1 hj ⟨kvs, v3, v4, rfl, s1, hta, kl, told⟩
        obtain ⟨pl, epl, lpl⟩ : ∃ pl : Nat, 0 + ((((D.ks.length : Int) + 1 - 0).toNat : Nat) : Int) - 1 + (j : Int) * -1 = (pl : Int) ∧ pl + j = D.ks.length := ⟨D.ks.length - j, by omega, by omega⟩
        rw [epl]
        refine ⟨_, rfl, _, rfl, _, rfl, p, d, x, D, pl, i, -1 + (i : Int), rfl, by omega, hD.same s1, O, by omega, i48, fun b kb H2 s2 nb hb ab => ?_⟩
        have hta2 := s2 _ _ hta
        have tab : ta ≠ b := ne_of_none hta nb
        have klen := ab.len
        refine ⟨b, .dK kb, hb, trivial, fun od => ?_⟩
        refine ⟨_, rfl, b, od, kb, rfl, upd_same, fun Dl hDl => ?_⟩
        have Dlb : Dl ≠ b := fun e => by
          rw [e, upd_same] at hDl
          cases hDl
        have hDl' : H2 Dl = none := by
          rw [upd_ne Dlb] at hDl
          exact hDl
        refine lc_it (walk_values (d := b) (o := od) (kvs := kb)) (fun a H' => ∃ zs : List Int, Fr b H2 H' ∧ H' b = some (.frz od (.dK kb)) ∧ H' Dl = some (.lst (zs.map V.int)) ∧ zs = ((bnds D pl i).map (valB D)).take a)
          ⟨[], (Fr.put Fr.refl).new hDl, by rw [upd_ne Dlb.symm]; exact upd_same, upd_same, rfl⟩ (fun a H' _ ⟨_, _, h, _⟩ => h) ?_ ?_
        · rintro a v H4 H5 ha ⟨zs, F, hfb, hD4, ez⟩ ⟨rfl, k, hk⟩
          obtain ⟨bd, ebd, e1, tt, ll, e2, htt, hll⟩ := ab.get hk
          obtain rfl : v = .ref tt := e2
          have ttb : tt ≠ b := ne_of htt hb (by intro z; cases z)
          have len3 := bnds_len3 D pl i
          refine ⟨rfl, yesT ?_⟩
          refine ⟨_, rfl, _, rfl, ta, tt, ll, D, bd, kvs, rfl, F _ _ ttb htt, hll.frb hb F, F _ _ tab hta2, fun p' h' el => ?_, ?_⟩
          · obtain ⟨pn, tn, rfl, rfl, pk, tt'⟩ := bnds_lead (by omega) (List.mem_of_getElem? ebd) el
            have g := told pn tn ⟨pk, by omega⟩
            rw [show ((tn : Int) - 1 + 1).toNat = tn by omega, Int.toNat_natCast]
            exact g
          · have zl : zs.length ≤ 3 := by
              rw [ez, List.length_take, List.length_map]
              omega
            refine ⟨_, hD4, by rw [List.length_map]; exact small' (by omega), zs ++ [valB D bd], F.put' hDl', ?_, by rw [upd_same, List.map_append] <;> rfl, ?_⟩
            · rw [upd_ne Dlb.symm]
              exact hfb
            · rw [ez, take_one (show ((bnds D pl i).map (valB D))[a]? = some (valB D bd) by rw [List.getElem?_map, ebd] <;> rfl)]
        · rintro H4 ⟨zs, F, hfb, hD4, ez⟩
          have ez' : zs = (bnds D pl i).map (valB D) := by
            rw [ez, klen, ← List.length_map (as := bnds D pl i) (valB D), List.take_length]
          obtain ⟨mm, ml⟩ := bnds_min (D := D) (p := pl) (t := i) k1 (by omega)
          refine ⟨hfb, ?_⟩
          refine ⟨Dl, zs, rfl, SqL.of (by rw [upd_ne Dlb]; exact hD4), by rw [ez', List.length_map]; exact bnds_len D pl i, fun m hm hle => ?_⟩
          rw [ez'] at hm hle
          obtain rfl := min_mem hm hle mm ml
          have F6 : Fr b H2 (upd H4 b (.dK kb)) := Fr.put F
          have s16 : Same H1 (upd H4 b (.dK kb)) := same_frb s2 nb F6
          generalize upd H4 b (.dK kb) = H6 at F6 s16
          refine ⟨_, rfl, _, rfl, _, rfl, rfl, fun ky H7 s7 n7 h7 => ?_⟩
          rw [show (-1 + (i : Int)) = (i : Int) - 1 by omega] at h7
          have s17 := s16.trans s7
          have hta7 := s17 _ _ hta
          refine ⟨ta, _, rfl, .t (k := kk pl i) hta7 h7 (small' (by omega)), ?_⟩
          have lp := length_putK kvs (kk pl i) (.int (tk D i pl))
          exact ⟨putK kvs (kk pl i) (.int (tk D i pl)), _, _, rfl, Same.put (s1.trans s17) nta, upd_same, by omega, told.put pl i fun p' t' h => by omega⟩
      · rintro σ H1' ⟨kvs, v3, v4, rfl, s1, hta, kl, told⟩
        rw [eM] at kl told
        exact ⟨kvs, _, _, _, rfl, s1, hta, by omega, fun p' t' h => told p' t' ⟨h.1, by omega⟩⟩
    · rintro σ H1 ⟨kvs, v2, v3, v4, rfl, s1, hta, kl, told⟩
      rw [eN] at told
      exact ⟨_, rfl, q ta kvs H1 s1 nta hta fun p' t' h => told p' t' ⟨h.1, by omega⟩⟩

end
end KR
namespace KR
open PySem PySem.Spec PyProof.Rows L2
section
variable {P : Program} {w : World} {K : PySem.W.Frag} {mg : Str → Option Value} {base : Heap}
def sp_p_most_plan (K : PySem.W.Frag) : Sp := fun vs H Q _ => ∃ (p d : Addr) (x : DyP) (D : Dy), vs = [.ref d] ∧ DayAt K H p d x D ∧ DyOk D ∧ ∀ (f : Addr) (rs : List Addr) (H' : Hp), Same H H' → H f = none → H' f = some (.lst (rs.map V.ref)) → rs.length = D.ks.length + 1 → rs.Nodup → (∀ (j : Nat) (r : Addr), rs[j]? = some r → H' r = some (.lst ((rowI D j).map V.int)) ∧ H r = none ∧ r ≠ f) → Q (.ref f) H'
theorem ok_p_most_plan (T : All K mg) : FnOk P w K mg base CX0 3 T.f_p_most_plan T.fd_p_most_plan ["day"] (sp_p_most_plan K) := by
  refine T.d_p_most_plan.fn.ok sc_p_most_plan (fun vs H Q E h => ?_) (fun cdv A outer s H vs Q E hr h => ?_)
  · obtain ⟨p, d, x, D, rfl, _⟩ := h
    rfl
  · obtain ⟨p, d, x, D, rfl, hD, O, q⟩ := h
    refine ⟨_, (pss_cons (ps_set (i := 1) sc_p_most_plan.nd rfl (by first | exact Or.inl rfl | exact Or.inr rfl) (pe_call (ok_p__most_taken T) hr (by rfl) T.d_p__most_taken.mg T.d_p__most_taken.fn.kp T.d_p__most_taken.b .nil pass0 (pa_cons (pv 0) pa_nil)))
      (pss_cons (ps_set (i := 2) sc_p_most_plan.nd rfl (by first | exact Or.inl rfl | exact Or.inr rfl) (pe_rngV (by rfl) T.b_range (pe_call (ok_p_hours_in T) (hr.mono (by decide)) (by rfl) T.d_p_hours_in.mg T.d_p_hours_in.fn.kp T.d_p_hours_in.b .nil pass0 (pa_cons (pv 0) pa_nil))))
      (pss_one (ps_ret (pe_lc (own := [("place", 4)]) (g := gName 4) (tt := tYes) (by rfl) sc_p_most_plan.nd (pi_range1 (by rfl) T.b_range (pa_cons (pe_call (ok_p_places_in T) (hr.mono (by decide)) (by rfl) T.d_p_places_in.mg T.d_p_places_in.fn.kp T.d_p_places_in.b .nil pass0 (pa_cons (pv 0) pa_nil)) pa_nil)) (blkOk_by (own := [("place", 4)]) (N := ["day", "taken", "hours", "hour", "place"]) (sc := defScope s_p_most_plan) (by decide +kernel)) (fun _ _ _ _ _ => (pg_name (i := 4) sc_p_most_plan.nd rfl (by first | exact Or.inl rfl | exact Or.inr rfl))) (fun _ _ _ _ _ => pts_nil) (fun _ _ _ _ _ => (pe_lc (own := [("hour", 3)]) (g := gName 3) (tt := tYes) (by rfl) sc_p_most_plan.nd (pi_rngV (pv 2)) (blkOk_in (own := [("hour", 3)]) (N := ["day", "taken", "hours", "hour", "place"]) (sc := defScope s_p_most_plan) rfl (by decide +kernel)) (fun _ _ _ _ _ => (pg_name (i := 3) sc_p_most_plan.nd rfl (by first | exact Or.inl rfl | exact Or.inr rfl))) (fun _ _ _ _ _ => pts_nil) (fun _ _ _ _ _ => (pe_op op_sub (pe_dget (hu_of hr) (pv 1) (pe_tupI (pa_cons (pv 4) (pa_cons (pv 3) pa_nil))) (fun _ _ => rfl)) (pe_dget (hu_of hr) (pv 1) (pe_tupI (pa_cons (pv 4) (pa_cons (pe_op op_sub (pv 3) pe_int) pa_nil))) (fun _ _ => rfl))))))))))), ?_⟩
    have k1 := O.k1
    have k2 := O.k2
    have h2 := O.h2
    refine ⟨_, rfl, p, d, x, D, rfl, hD, O, fun ta kvs H1 s1 nt ht told => ?_⟩
    refine ⟨_, rfl, p, d, x, D, rfl, hD.same s1, _, rfl, fun ra nra => ?_⟩
    have sr : Same H1 (upd H1 ra (.rng 0 (D.cs.length : Int))) := same_new nra
    have hra : (upd H1 ra (.rng 0 (D.cs.length : Int))) ra = some (.rng 0 (D.cs.length : Int)) := upd_same
    generalize upd H1 ra (.rng 0 (D.cs.length : Int)) = H2 at sr hra
    have s12 := s1.trans sr
    have ht2 := sr _ _ ht
    refine ⟨_, rfl, p, d, x, D, rfl, hD.same s12, (D.ks.length : Int) + 1, rfl, by omega, by omega, fun F hF => ?_⟩
    have nF : H F = none := same_none' s12 hF
    have eM : ((D.ks.length : Int) + 1).toNat = D.ks.length + 1 := by omega
    refine lc_range (lo := 0) (n := ((D.ks.length : Int) + 1).toNat) (fun i H' => ∃ rs : List Addr, Same H2 H' ∧ H' F = some (.lst (rs.map V.ref)) ∧ rs.length = i ∧ rs.Nodup ∧ ∀ (j : Nat) (r : Addr), rs[j]? = some r → H' r = some (.lst ((rowI D j).map V.int)) ∧ H2 r = none ∧ r ≠ F)
      ⟨[], same_new hF, upd_same, rfl, List.nodup_nil, fun j r e => by simp at e⟩ (fun i H3 hi z => ?_) (fun H3 z => ?_)
    · obtain ⟨rs, s3, hF3, lr, nd, rows⟩ := z
      rw [eM] at hi
      rw [Int.zero_add]
      refine ⟨rfl, yesT ?_⟩
      refine ⟨_, rfl, ra, 0, (D.cs.length : Int), rfl, s3 _ _ hra, ⟨by decide, by decide, by omega, by omega⟩, fun G hG => ?_⟩
      have eN : ((D.cs.length : Int) - 0).toNat = D.cs.length := by omega
      have hF4 : (upd H3 G (.lst [])) F = some (.lst (rs.map V.ref)) := by
        rw [upd_ne (ne_of_none hF3 hG)]
        exact hF3
      refine lc_range (lo := 0) (n := ((D.cs.length : Int) - 0).toNat) (fun t H' => Same H3 H' ∧ H' G = some (.lst (((rowI D i).take t).map V.int)))
        ⟨same_new hG, upd_same⟩ (fun t H4 hj z => ?_) (fun H4 z => ?_)
      · obtain ⟨s4, hG4⟩ := z
        rw [eN] at hj
        rw [Int.zero_add]
        refine ⟨rfl, yesT ?_⟩
        refine ⟨_, rfl, _, rfl, _, rfl, rfl, fun ky H5 s5 n5 h5 => ?_⟩
        have ek : [V.int (i : Int), V.int (t : Int)] = (kk i (t + 1)).map kV := by
          show _ = [V.int (i : Int), V.int (((t + 1 : Nat) : Int) - 1)]
          rw [show ((t + 1 : Nat) : Int) - 1 = (t : Int) by omega]
        rw [ek] at h5
        have g5 : DGet H5 ta (.ref ky) (some (.int (tk D (t + 1) i))) := by
          rw [← told i (t + 1) ⟨by omega, by omega⟩]
          exact .t ((s3.trans (s4.trans s5)) _ _ ht2) h5
        refine ⟨ta, _, rfl, g5, ?_⟩
        refine ⟨_, rfl, _, rfl, _, rfl, _, _, rfl, rfl, rfl, fun ky2 H6 s6 n6 h6 => ?_⟩
        have h6' : H6 ky2 = some (.tup ((kk i t).map kV)) := h6
        have g6 : DGet H6 ta (.ref ky2) (some (.int (tk D t i))) := by
          rw [← told i t ⟨by omega, by omega⟩]
          exact .t ((s3.trans (s4.trans (s5.trans s6))) _ _ ht2) h6'
        refine ⟨ta, _, rfl, g6, _, _, rfl, rfl, ?_⟩
        have s46 := s5.trans s6
        refine ⟨_, s46 _ _ hG4, by rw [List.length_map, List.length_take, row_len]; exact small' (by omega), Same.put (s4.trans s46) hG, ?_⟩
        rw [upd_same, take_one (row_get hj), List.map_append] <;> rfl
      · obtain ⟨s4, hG4⟩ := z
        rw [eN, List.take_of_length_le (by rw [row_len]; exact Nat.le_refl _)] at hG4
        have nG : H2 G = none := same_none' s3 hG
        have GF : G ≠ F := fun e => by
          rw [e, hF3] at hG
          cases hG
        have hF5 := s4 _ _ hF3
        refine ⟨_, hF5, by rw [List.length_map]; exact small' (by omega), rs ++ [G], Same.put (s3.trans s4) hF, by rw [upd_same, List.map_append] <;> rfl, by rw [List.length_append, lr] <;> rfl, ?_, fun j r e => ?_⟩
        · refine List.nodup_append.mpr ⟨nd, by simp, fun u hu v hv => ?_⟩
          rw [List.mem_singleton.mp hv]
          obtain ⟨j, hj⟩ := List.getElem?_of_mem hu
          exact ne_of_none (rows j u hj).1 hG
        · by_cases c : j < rs.length
          · rw [List.getElem?_append_left c] at e
            obtain ⟨a1, a2, a3⟩ := rows j r e
            exact ⟨by rw [upd_ne a3]; exact s4 _ _ a1, a2, a3⟩
          · have jl : j = rs.length := by
              have := (List.getElem?_eq_some_iff.mp e).1
              rw [List.length_append, List.length_singleton] at this
              omega
            subst jl
            rw [List.getElem?_append_right (Nat.le_refl _), Nat.sub_self] at e
            cases e
            exact ⟨by rw [upd_ne GF, lr]; exact hG4, nG, GF⟩
    · obtain ⟨rs, s3, hF3, lr, nd, rows⟩ := z
      exact q F rs H3 (s12.trans s3) nF hF3 (lr.trans eM) nd fun j r e => ⟨(rows j r e).1, same_none' s12 (rows j r e).2.1, (rows j r e).2.2⟩

end
end KR
namespace KR
open PySem PySem.Spec PyProof.Rows L2
section
variable {P : Program} {w : World} {K : PySem.W.Frag} {mg : Str → Option Value} {base : Heap}
def sp_p_law (K : PySem.W.Frag) : Sp := fun vs H Q _ => ∃ (a : Addr) (ns : List Int), vs = [.ref a] ∧ SqL K H a (ns.map V.int) ∧ ns.length ≤ 63 ∧ ∀ H', Q (.bl true) H'
theorem ok_p_law (T : All K mg) : FnOk P w K mg base CX0 5 T.f_p_law T.fd_p_law ["_law_script"] (sp_p_law K) := by
  refine T.d_p_law.fn.ok sc_p_law (fun vs H Q E h => ?_) (fun cdv A outer s H vs Q E hr h => ?_)
  · obtain ⟨a, ns, rfl, _⟩ := h
    rfl
  · obtain ⟨a, ns, rfl, hS, hlen, q⟩ := h
    refine ⟨_, (pss_cons (ps_for PassesOwn.never rfl (pi_range1 (by rfl) T.b_range (pa_cons (pe_callB (call_max2 rfl) (by rfl) T.b_max (by decide +kernel) (pa_cons pe_int (pa_cons (pe_callB (call_min2 rfl) (by rfl) T.b_min (by decide +kernel) (pa_cons (pe_callB (lenQ (K := K) rfl) (by rfl) T.b_len PySem.boot_len (pa_cons (pv 0) pa_nil)) (pa_cons pe_int pa_nil))) pa_nil))) pa_nil)) (pg_name (i := 1) sc_p_law.nd rfl (by first | exact Or.inl rfl | exact Or.inr rfl)) (pss_cons (ps_set (i := 2) sc_p_law.nd rfl (by first | exact Or.inl rfl | exact Or.inr rfl) (pe_call (ok_l_box T) (hr.mono (by decide)) (by rfl) T.d_l_box.mg T.d_l_box.fn.kp T.d_l_box.b .nil pass0 (pa_cons (pv 0) (pa_cons (pv 1) pa_nil))))
      (pss_cons (ps_set (i := 3) sc_p_law.nd rfl (by first | exact Or.inl rfl | exact Or.inr rfl) (pe_call (ok_l_small_day T) hr (by rfl) T.d_l_small_day.mg T.d_l_small_day.fn.kp T.d_l_small_day.b .nil pass0 (pa_cons (pv 2) pa_nil)))
      (pss_cons (ps_par (i := 4) (j := 5) (by rfl) sc_p_law.nd rfl rfl (by decide) rfl rfl (pa_cons (pe_call (ok_p_most_plan T) (hr.mono (by decide)) (by rfl) T.d_p_most_plan.mg T.d_p_most_plan.fn.kp T.d_p_most_plan.b .nil pass0 (pa_cons (pv 3) pa_nil)) (pa_cons (pe_call (ok_l_all T) (hr.mono (by decide)) (by rfl) T.d_l_all.mg T.d_l_all.fn.kp T.d_l_all.b .nil pass0 (pa_cons (pv 3) pa_nil)) pa_nil)) (by rfl))
      (pss_cons (ps_set (i := 6) sc_p_law.nd rfl (by first | exact Or.inl rfl | exact Or.inr rfl) (pe_lstI pa_nil))
      (pss_cons (ps_for PassesOwn.never rfl (pi_listK (K := K) rfl (pv 4)) (pg_name (i := 7) sc_p_law.nd rfl (by first | exact Or.inl rfl | exact Or.inr rfl)) (pss_one (ps_expr (pe_bm PySem.F.plainAttrs_list PySem.F.slot_list_append PySem.F.type_list_append mt_append (pv 6) (pa_cons (pe_lc (own := [("_law_hour", 8)]) (g := gName 8) (tt := tYes) (by rfl) sc_p_law.nd (pi_range1 (by rfl) T.b_range (pa_cons (pe_op op_add (pe_callB (lenQ (K := K) rfl) (by rfl) T.b_len PySem.boot_len (pa_cons (pv 7) pa_nil)) pe_int) pa_nil)) (blkOk_by (own := [("_law_hour", 8)]) (N := ["_law_script", "_law_k", "_law_box_here", "_law_day_here", "_law_plan", "_law_every", "_law_sums", "_law_row", "_law_hour", "_law_place", "_law_other"]) (sc := defScope s_p_law) (by decide +kernel)) (fun _ _ _ _ _ => (pg_name (i := 8) sc_p_law.nd rfl (by first | exact Or.inl rfl | exact Or.inr rfl))) (fun _ _ _ _ _ => pts_nil) (fun _ _ _ _ _ => (pe_callB (sumBK (K := K) rfl rfl) (by rfl) T.b_sum (by decide +kernel) (pa_cons (pe_slice (slL (K := K) rfl) (pv 7) po_none (po_some (pv 8))) pa_nil)))) pa_nil)))))
      (pss_cons (ps_if (pt_cmpR op_ne (pe_bm PySem.F.plainAttrs_list PySem.F.slot_list_count PySem.F.type_list_count (mt_cntD (K := K) rfl hr.units) (pv 5) (pa_cons (pv 6) pa_nil)) pe_int (nomark _)) (pss_one (ps_ret pe_bl)) pss_nil)
      (pss_one (ps_for PassesOwn.never rfl (pi_range1 (by rfl) T.b_range (pa_cons (pe_callB (lenQ (K := K) rfl) (by rfl) T.b_len PySem.boot_len (pa_cons (pv 6) pa_nil)) pa_nil)) (pg_name (i := 9) sc_p_law.nd rfl (by first | exact Or.inl rfl | exact Or.inr rfl)) (pss_one (ps_for PassesOwn.never rfl (pi_range1 (by rfl) T.b_range (pa_cons (pe_op op_add (pe_callB (lenA (K := K) rfl) (by rfl) T.b_len PySem.boot_len (pa_cons (pe_ix (ixT (K := K) rfl) (pv 3) pe_int (fun _ _ => rfl)) pa_nil)) pe_int) pa_nil)) (pg_name (i := 8) sc_p_law.nd rfl (by first | exact Or.inl rfl | exact Or.inr rfl)) (pss_one (ps_if (pt_cmpR op_ne (pe_callB (maxLK (K := K) rfl rfl) (by rfl) T.b_max (by decide +kernel) (pa_cons (pe_lc (own := [("_law_other", 10)]) (g := gName 10) (tt := tYes) (by rfl) sc_p_law.nd (pi_listK (K := K) rfl (pv 5)) (blkOk_by (own := [("_law_other", 10)]) (N := ["_law_script", "_law_k", "_law_box_here", "_law_day_here", "_law_plan", "_law_every", "_law_sums", "_law_row", "_law_hour", "_law_place", "_law_other"]) (sc := defScope s_p_law) (by decide +kernel)) (fun _ _ _ _ _ => (pg_name (i := 10) sc_p_law.nd rfl (by first | exact Or.inl rfl | exact Or.inr rfl))) (fun _ _ _ _ _ => pts_nil) (fun _ _ _ _ _ => (pe_ix (ixL (K := K) rfl) (pe_ix (ixL (K := K) rfl) (pv 10) (pv 9) (fun _ _ => rfl)) (pv 8) (fun _ _ => rfl)))) pa_nil)) (pe_ix (ixL (K := K) rfl) (pe_ix (ixL (K := K) rfl) (pv 6) (pv 9) (fun _ _ => rfl)) (pv 8) (fun _ _ => rfl)) (nomark _)) (pss_one (ps_ret pe_bl)) pss_nil)))))))))))))
      (pss_one (ps_ret pe_bl))), ?_⟩
    refine ⟨_, rfl, a, _, rfl, .inl hS, _, _, rfl, _, _, rfl, ?_⟩
    rw [List.length_map]
    obtain ⟨m, em, m1⟩ : ∃ m : Nat, (if (if (4 : Int) < (ns.length : Int) then (4 : Int) else (ns.length : Int)) > 2 then (if (4 : Int) < (ns.length : Int) then (4 : Int) else (ns.length : Int)) else 2) = (m : Int) ∧ m ≤ 4 := by
      refine ⟨(if (if (4 : Int) < (ns.length : Int) then (4 : Int) else (ns.length : Int)) > 2 then (if (4 : Int) < (ns.length : Int) then (4 : Int) else (ns.length : Int)) else 2).toNat, ?_, ?_⟩ <;> split <;> split <;> omega
    refine ⟨_, rfl, ?_⟩
    rw [em]
    refine ⟨by omega, by omega, for_range (lo := 0) (n := m) (fun i σ H' => ∃ v1 v2 v3 v4 v5 v6 v7 v8 v9 v10 : Option V, σ = [some (.ref a), v1, v2, v3, v4, v5, v6, v7, v8, v9, v10] ∧ Same H H')
      ⟨none, none, none, none, none, none, none, none, none, none, rfl, .refl _⟩ ?_ ?_⟩
    · rintro i σ H0 hi ⟨v1, v2, v3, v4, v5, v6, v7, v8, v9, v10, rfl, s0⟩
      rw [Int.zero_add]
      refine ⟨_, rfl, _, rfl, a, ns, (i : Int), rfl, s0.seq hS, by omega, by omega, fun p H1 s1 n1 B1 => ?_⟩
      refine ⟨_, rfl, p, 0, rfl, B1, by decide, fun d x D H2 hD2 O N h8 w1 w2 B2 F2 => ?_⟩
      have k1 := O.k1
      have k2 := O.k2
      have hh1 := O.h1
      have hh2 := O.h2
      refine ⟨_, rfl, p, d, x, D, rfl, hD2, O, fun f rs H3 s3 n3 hf3 lr nd rows => ?_⟩
      refine ⟨_, rfl, p, d, x, D, rfl, hD2.same s3, O, N, h8, w1, w2, fun g as H4 s4 n4 hg4 T4 => ?_⟩
      refine ⟨_, _, rfl, ?_⟩
      refine ⟨rfl, fun l H5 s5 n5 h5 => ?_⟩
      have s25 := s3.trans (s4.trans s5)
      have s35 := s4.trans s5
      have hf5 := s35 _ _ hf3
      have nl2 : H2 l = none := same_none' (s3.trans s4) n5
      have fl : f ≠ l := ne_of_none (s4 _ _ hf3) n5
      refine ⟨_, rfl, f, rfl, ⟨_, SqL.of hf5⟩, for_it (walk_list (K := K) (a := f) (xs := rs.map V.ref)) (fun j σ H' => ∃ (bs : List Addr) (v7 v8 v9 v10 : Option V), σ = [some (.ref a), some (.int (i : Nat)), some (.ref p), some (.ref d), some (.ref f), some (.ref g), some (.ref l), v7, v8, v9, v10] ∧ Fr l H5 H' ∧ H' l = some (.lst (bs.map V.ref)) ∧ Paired (RwAt H' l) bs ((topT D D.cs.length 0).take j))
        ⟨[], v7, v8, v9, v10, rfl, .refl, h5, .nil⟩ (fun j σ H' _ ⟨_, _, _, _, _, _, F, _⟩ => SqL.of (F _ _ fl hf5)) ?_ ?_⟩
      · rintro j v σ H6' H6 hj ⟨bs, u7, u8, u9, u10, rfl, F6, hl6, P6⟩ ⟨rfl, hv⟩
        rw [List.length_map] at hj
        rw [List.getElem?_map] at hv
        obtain ⟨r, er, rfl⟩ := Option.map_eq_some_iff.mp hv
        obtain ⟨hr3, nr, _⟩ := rows j r er
        have rl : r ≠ l := ne_of_none (s4 _ _ hr3) n5
        have hr6 := F6 _ _ rl (s35 _ _ hr3)
        have jk : j ≤ D.ks.length := by omega
        refine ⟨_, rfl, .inl ⟨rfl, _, SqL.of hl6⟩, ?_⟩
        refine ⟨_, rfl, r, _, rfl, .inl (SqL.of hr6), ?_⟩
        rw [List.length_map, row_len]
        refine ⟨_, _, rfl, rfl, _, rfl, by omega, by omega, fun G hG => ?_⟩
        have eN : ((D.cs.length : Int) + 1).toNat = D.cs.length + 1 := by omega
        refine lc_range (lo := 0) (n := ((D.cs.length : Int) + 1).toNat) (fun u H' => Same H6 H' ∧ H' G = some (.lst (((topR D (D.cs.length + 1) j).take u).map V.int)))
          ⟨same_new hG, by rw [List.take_zero]; exact upd_same⟩ (fun u H7 hu z => ?_) (fun H7 z => ?_)
        · obtain ⟨s7, hG7⟩ := z
          rw [eN] at hu
          rw [Int.zero_add]
          refine ⟨rfl, yesT ?_⟩
          refine ⟨_, rfl, _, rfl, _, rfl, r, _, rfl, SqL.of (s7 _ _ hr6), fun c H8 s8 n8 h8 => ?_⟩
          rw [cut_to' (by rw [List.length_map, row_len]; omega), ← List.map_take] at h8
          refine ⟨c, _, true, rfl, SqL.of h8, ?_⟩
          rw [row_sum D j u (by omega)]
          have hG8 := s8 _ _ hG7
          refine ⟨_, hG8, by rw [List.length_map, List.length_take]; exact small' (by omega), Same.put (s7.trans s8) hG, ?_⟩
          rw [upd_same, take_one (topR_take hu), List.map_append] <;> rfl
        · obtain ⟨s7, hG7⟩ := z
          rw [eN, List.take_of_length_le (by rw [topR_len]; exact Nat.le_refl _)] at hG7
          have hl7 := s7 _ _ hl6
          have lb := Paired.length P6
          rw [List.length_take, topT_len] at lb
          refine ⟨l, _, _, rfl, rfl, hl7, by rw [List.length_map]; exact small' (by omega), ?_⟩
          have Gl : G ≠ l := (ne_of_none hl6 hG).symm
          refine ⟨bs ++ [G], _, _, _, _, rfl, (F6.trans (.of s7)).put, by rw [upd_same, List.map_append] <;> rfl, ?_⟩
          rw [take_one (topT_end jk)]
          exact pair_map (fun _ _ z => RwAt.fr z fr_upd) (pair_app (pair_map (fun _ _ z => RwAt.fr z (.of s7)) P6) (.cons ⟨hG7, Gl⟩ .nil))
      · rintro σ H6 ⟨bs, u7, u8, u9, u10, rfl, F6, hl6, P6⟩
        rw [List.length_map, lr, List.take_of_length_le (by rw [topT_len]; omega)] at P6
        have gl : g ≠ l := ne_of_none hg4 n5
        have hg6 := F6 _ _ gl (s5 _ _ hg4)
        have T6 : Tbs H6 l as (genH D D.cs.length) := ((T4.to n5).fr (.of s5)).fr F6
        have S26 : Same H2 H6 := same_frb s25 nl2 F6
        have lb := Paired.length P6
        rw [topT_len] at lb
        refine ⟨_, rfl, .inl ⟨rfl, _, SqL.of hg6⟩, _, rfl, g, _, (genH D D.cs.length).map tabD, _, tabD (topT D D.cs.length 0), rfl, rfl, SqL.of hg6, T6.dps, .lst (SqL.of hl6) (rws_dp P6), tabs_plain _, dins_plain _, tab_deep _, ?_⟩
        rw [tab_cnt, genH_count N k1 (mono3 O N)]
        refine ⟨rfl, _, rfl, ?_⟩
        refine iteF ?_
        refine ⟨_, rfl, l, _, rfl, .inl (SqL.of hl6), ?_⟩
        rw [List.length_map, lb]
        refine ⟨_, rfl, by omega, by omega, for_range (lo := 0) (n := ((D.ks.length + 1 : Nat) : Int).toNat) (fun pl σ H' => ∃ u7 u8 u9 u10 : Option V, σ = [some (.ref a), some (.int (i : Nat)), some (.ref p), some (.ref d), some (.ref f), some (.ref g), some (.ref l), u7, u8, u9, u10] ∧ Same H6 H')
          ⟨_, _, _, _, rfl, .refl _⟩ ?_ ?_⟩
        · clear u7 u8 u9 u10
          rintro pl σ H7 hpl ⟨u7, u8, u9, u10, rfl, s7⟩
          rw [Int.toNat_natCast] at hpl
          rw [Int.zero_add]
          have hpk : pl ≤ D.ks.length := by omega
          have hD7 := hD2.same (S26.trans s7)
          refine ⟨_, rfl, d, _, 0, _, rfl, rfl, hD7.at_, at0, _, _, rfl, lenV_b hD7.cs.1, ?_⟩
          rw [List.length_map]
          have eN : ((D.cs.length : Int) + 1).toNat = D.cs.length + 1 := by omega
          refine ⟨_, _, rfl, rfl, _, rfl, by omega, by omega, for_range (lo := 0) (n := ((D.cs.length : Int) + 1).toNat) (fun u σ H' => ∃ u7 u8 u10 : Option V, σ = [some (.ref a), some (.int (i : Nat)), some (.ref p), some (.ref d), some (.ref f), some (.ref g), some (.ref l), u7, u8, some (.int (pl : Nat)), u10] ∧ Same H6 H')
            ⟨_, _, _, rfl, s7⟩ ?_ ?_⟩
          · clear u7 u8 u9 u10
            rintro u σ H8 hu ⟨u7, u8, u10, rfl, s8⟩
            rw [eN] at hu
            rw [Int.zero_add]
            have hg8 := s8 _ _ hg6
            have T8 := T6.fr (.of s8)
            refine ⟨_, rfl, g, rfl, ⟨_, SqL.of hg8⟩, fun G hG => ?_⟩
            have la := Paired.length T6
            have hl := genH_len w1 w2 D.cs.length
            have hl8 : (genH D D.cs.length).length ≤ 6561 := Nat.le_trans hl (Nat.le_trans (Nat.pow_le_pow_right (by decide) h8) (by decide))
            refine lc_it (walk_list (K := K) (a := g) (xs := as.map V.ref)) (fun j H' => Same H8 H' ∧ H' G = some (.lst ((((genH D D.cs.length).map fun S => (rowT S pl).getD u 0).take j).map V.int)))
              ⟨same_new hG, by rw [List.take_zero]; exact upd_same⟩ (fun j H' _ z => SqL.of (z.1 _ _ hg8)) ?_ ?_
            · rintro j v H9' H9 hj ⟨s9, hG9⟩ ⟨rfl, hv⟩
              rw [List.length_map] at hj
              rw [List.getElem?_map] at hv
              obtain ⟨b, eb, rfl⟩ := Option.map_eq_some_iff.mp hv
              obtain ⟨S, eS, tS⟩ := pair_get T8 eb
              obtain ⟨rs', hb9, bl, P9⟩ := tS.fr (.of s9)
              have sh := genH_shape k1 D.cs.length S (List.mem_of_getElem? eS)
              obtain ⟨r, er, hr9, rl⟩ := pair_getR P9 (rowT_get (S := S) (p := pl) (by rw [sh.len]; omega))
              refine ⟨rfl, yesT ?_⟩
              refine ⟨_, rfl, _, rfl, b, _, (pl : Int), .ref r, rfl, rfl, SqL.of hb9, at_of (j := pl) rfl (by rw [List.getElem?_map, er] <;> rfl), ?_⟩
              refine ⟨_, rfl, r, _, (u : Int), _, rfl, rfl, SqL.of hr9, at_of (j := u) rfl (ints_get (by rw [sh.row pl hpk, len_end hpk]; exact hu)), ?_⟩
              refine ⟨_, hG9, by rw [List.length_map, List.length_take, List.length_map]; exact small' (by omega), Same.put s9 hG, ?_⟩
              rw [upd_same, take_one (show ((genH D D.cs.length).map fun S => (rowT S pl).getD u 0)[j]? = some ((rowT S pl).getD u 0) by rw [List.getElem?_map, eS] <;> rfl), List.map_append] <;> rfl
            · rintro H9 ⟨s9, hG9⟩
              rw [List.length_map, la, List.take_of_length_le (by rw [List.length_map]; exact Nat.le_refl _)] at hG9
              have c1 := genH_count N k1 (mono3 O N) D.cs.length
              have ln0 : 0 < (genH D D.cs.length).length := List.length_pos_of_mem (List.count_pos_iff.mp (show 0 < (genH D D.cs.length).count (topT D D.cs.length 0) by omega))
              refine ⟨G, _, rfl, SqL.of hG9, by rw [List.length_map]; exact ln0, fun mx h1 h2 => ?_⟩
              obtain rfl := gen_max O N hpk (by omega) h1 h2
              have s69 := s8.trans s9
              obtain ⟨r, er, hr6, rl⟩ := pair_getR P6 (topT_end hpk)
              refine ⟨_, rfl, _, rfl, l, _, (pl : Int), .ref r, rfl, rfl, SqL.of (s69 _ _ hl6), at_of (j := pl) rfl (by rw [List.getElem?_map, er] <;> rfl), ?_⟩
              refine ⟨_, rfl, r, _, (u : Int), _, rfl, rfl, SqL.of (s69 _ _ hr6), at_of (j := u) rfl (ints_get (by rw [topR_len]; exact hu)), ?_⟩
              rw [topR_get hu]
              refine ⟨rfl, _, rfl, ?_⟩
              exact ite_nF rfl ⟨_, _, _, rfl, s69⟩
          · rintro σ H8 ⟨u7, u8, u10, rfl, s8⟩
            exact ⟨_, _, _, _, rfl, s8⟩
        · rintro σ H7 ⟨u7, u8, u9, u10, rfl, s7⟩
          exact ⟨_, _, _, _, _, _, _, _, _, _, rfl, s0.trans ((same_new_fr s1 n1 F2).trans (S26.trans s7))⟩
    · rintro σ H0 ⟨v1, v2, v3, v4, v5, v6, v7, v8, v9, v10, rfl, s0⟩
      exact q H0

end
end KR
namespace KR
open PySem PySem.Spec PyProof.Rows L2
theorem all_mk {l : PySem.W.OpenLaw} {w : World} {K : PySem.W.Frag} {h : Heap} {mg : Str → Option Value} {fa : Addr} (X : K.In h) (G : h.Ns mainGlobals mg) (hfa : mg "law" = some (.ref fa))
    {od0 an0 : Option Addr} {sl0 : Array (Option Value)} {oc0 kV0 dc0 pm0 cd0 ct0 : Value} {f0 : Addr}
    (a0 : PySem.W.nsIn K mainGlobals "places_in" = some (some (.ref f0))) (l0 : K.lookup f0 = some ⟨oc0, od0, .func (PySem.W.fnOf "places_in" "places_in" (defArgs s_p_places_in) (defBody s_p_places_in) (defScope s_p_places_in) .none kV0 dc0 pm0 an0 cd0 ct0), sl0⟩) (c0 : PySem.W.codeIn K cd0 "places_in" = true) (k0 : PySem.W.keepIn K (.ref f0) = true)
    {od1 an1 : Option Addr} {sl1 : Array (Option Value)} {oc1 kV1 dc1 pm1 cd1 ct1 : Value} {f1 : Addr}
    (a1 : PySem.W.nsIn K mainGlobals "hours_in" = some (some (.ref f1))) (l1 : K.lookup f1 = some ⟨oc1, od1, .func (PySem.W.fnOf "hours_in" "hours_in" (defArgs s_p_hours_in) (defBody s_p_hours_in) (defScope s_p_hours_in) .none kV1 dc1 pm1 an1 cd1 ct1), sl1⟩) (c1 : PySem.W.codeIn K cd1 "hours_in" = true) (k1 : PySem.W.keepIn K (.ref f1) = true)
    {od2 an2 : Option Addr} {sl2 : Array (Option Value)} {oc2 kV2 dc2 pm2 cd2 ct2 : Value} {f2 : Addr}
    (a2 : PySem.W.nsIn K mainGlobals "bounds_at" = some (some (.ref f2))) (l2 : K.lookup f2 = some ⟨oc2, od2, .func (PySem.W.fnOf "bounds_at" "bounds_at" (defArgs s_p_bounds_at) (defBody s_p_bounds_at) (defScope s_p_bounds_at) .none kV2 dc2 pm2 an2 cd2 ct2), sl2⟩) (c2 : PySem.W.codeIn K cd2 "bounds_at" = true) (k2 : PySem.W.keepIn K (.ref f2) = true)
    {od3 an3 : Option Addr} {sl3 : Array (Option Value)} {oc3 kV3 dc3 pm3 cd3 ct3 : Value} {f3 : Addr}
    (a3 : PySem.W.nsIn K mainGlobals "reached" = some (some (.ref f3))) (l3 : K.lookup f3 = some ⟨oc3, od3, .func (PySem.W.fnOf "reached" "reached" (defArgs s_p_reached) (defBody s_p_reached) (defScope s_p_reached) .none kV3 dc3 pm3 an3 cd3 ct3), sl3⟩) (c3 : PySem.W.codeIn K cd3 "reached" = true) (k3 : PySem.W.keepIn K (.ref f3) = true)
    {od4 an4 : Option Addr} {sl4 : Array (Option Value)} {oc4 kV4 dc4 pm4 cd4 ct4 : Value} {f4 : Addr}
    (a4 : PySem.W.nsIn K mainGlobals "most_plan" = some (some (.ref f4))) (l4 : K.lookup f4 = some ⟨oc4, od4, .func (PySem.W.fnOf "most_plan" "most_plan" (defArgs s_p_most_plan) (defBody s_p_most_plan) (defScope s_p_most_plan) .none kV4 dc4 pm4 an4 cd4 ct4), sl4⟩) (c4 : PySem.W.codeIn K cd4 "most_plan" = true) (k4 : PySem.W.keepIn K (.ref f4) = true)
    {od5 an5 : Option Addr} {sl5 : Array (Option Value)} {oc5 kV5 dc5 pm5 cd5 ct5 : Value} {f5 : Addr}
    (a5 : PySem.W.nsIn K mainGlobals "_most_taken" = some (some (.ref f5))) (l5 : K.lookup f5 = some ⟨oc5, od5, .func (PySem.W.fnOf "_most_taken" "_most_taken" (defArgs s_p__most_taken) (defBody s_p__most_taken) (defScope s_p__most_taken) .none kV5 dc5 pm5 an5 cd5 ct5), sl5⟩) (c5 : PySem.W.codeIn K cd5 "_most_taken" = true) (k5 : PySem.W.keepIn K (.ref f5) = true)
    {od6 an6 : Option Addr} {sl6 : Array (Option Value)} {oc6 kV6 dc6 pm6 cd6 ct6 : Value} {f6 : Addr}
    (a6 : PySem.W.nsIn K mainGlobals "_law_cell_at" = some (some (.ref f6))) (l6 : K.lookup f6 = some ⟨oc6, od6, .func (PySem.W.fnOf "_law_cell_at" "_law_cell_at" (defArgs s_l_cell_at) (defBody s_l_cell_at) (defScope s_l_cell_at) .none kV6 dc6 pm6 an6 cd6 ct6), sl6⟩) (c6 : PySem.W.codeIn K cd6 "_law_cell_at" = true) (k6 : PySem.W.keepIn K (.ref f6) = true)
    {od7 an7 : Option Addr} {sl7 : Array (Option Value)} {oc7 kV7 dc7 pm7 cd7 ct7 : Value} {f7 : Addr}
    (a7 : PySem.W.nsIn K mainGlobals "_law_box" = some (some (.ref f7))) (l7 : K.lookup f7 = some ⟨oc7, od7, .func (PySem.W.fnOf "_law_box" "_law_box" (defArgs s_l_box) (defBody s_l_box) (defScope s_l_box) .none kV7 dc7 pm7 an7 cd7 ct7), sl7⟩) (c7 : PySem.W.codeIn K cd7 "_law_box" = true) (k7 : PySem.W.keepIn K (.ref f7) = true)
    {od8 an8 : Option Addr} {sl8 : Array (Option Value)} {oc8 kV8 dc8 pm8 cd8 ct8 : Value} {f8 : Addr}
    (a8 : PySem.W.nsIn K mainGlobals "_law_take" = some (some (.ref f8))) (l8 : K.lookup f8 = some ⟨oc8, od8, .func (PySem.W.fnOf "_law_take" "_law_take" (defArgs s_l_take) (defBody s_l_take) (defScope s_l_take) .none kV8 dc8 pm8 an8 cd8 ct8), sl8⟩) (c8 : PySem.W.codeIn K cd8 "_law_take" = true) (k8 : PySem.W.keepIn K (.ref f8) = true)
    {od9 an9 : Option Addr} {sl9 : Array (Option Value)} {oc9 kV9 dc9 pm9 cd9 ct9 : Value} {f9 : Addr}
    (a9 : PySem.W.nsIn K mainGlobals "_law_ladles" = some (some (.ref f9))) (l9 : K.lookup f9 = some ⟨oc9, od9, .func (PySem.W.fnOf "_law_ladles" "_law_ladles" (defArgs s_l_ladles) (defBody s_l_ladles) (defScope s_l_ladles) .none kV9 dc9 pm9 an9 cd9 ct9), sl9⟩) (c9 : PySem.W.codeIn K cd9 "_law_ladles" = true) (k9 : PySem.W.keepIn K (.ref f9) = true)
    {od10 an10 : Option Addr} {sl10 : Array (Option Value)} {oc10 kV10 dc10 pm10 cd10 ct10 : Value} {f10 : Addr}
    (a10 : PySem.W.nsIn K mainGlobals "_law_day" = some (some (.ref f10))) (l10 : K.lookup f10 = some ⟨oc10, od10, .func (PySem.W.fnOf "_law_day" "_law_day" (defArgs s_l_day) (defBody s_l_day) (defScope s_l_day) .none kV10 dc10 pm10 an10 cd10 ct10), sl10⟩) (c10 : PySem.W.codeIn K cd10 "_law_day" = true) (k10 : PySem.W.keepIn K (.ref f10) = true)
    {od11 an11 : Option Addr} {sl11 : Array (Option Value)} {oc11 kV11 dc11 pm11 cd11 ct11 : Value} {f11 : Addr}
    (a11 : PySem.W.nsIn K mainGlobals "_law_all" = some (some (.ref f11))) (l11 : K.lookup f11 = some ⟨oc11, od11, .func (PySem.W.fnOf "_law_all" "_law_all" (defArgs s_l_all) (defBody s_l_all) (defScope s_l_all) .none kV11 dc11 pm11 an11 cd11 ct11), sl11⟩) (c11 : PySem.W.codeIn K cd11 "_law_all" = true) (k11 : PySem.W.keepIn K (.ref f11) = true)
    {od12 an12 : Option Addr} {sl12 : Array (Option Value)} {oc12 kV12 dc12 pm12 cd12 ct12 : Value} {f12 : Addr}
    (a12 : PySem.W.nsIn K mainGlobals "_law_small_day" = some (some (.ref f12))) (l12 : K.lookup f12 = some ⟨oc12, od12, .func (PySem.W.fnOf "_law_small_day" "_law_small_day" (defArgs s_l_small_day) (defBody s_l_small_day) (defScope s_l_small_day) .none kV12 dc12 pm12 an12 cd12 ct12), sl12⟩) (c12 : PySem.W.codeIn K cd12 "_law_small_day" = true) (k12 : PySem.W.keepIn K (.ref f12) = true)
    {od13 an13 : Option Addr} {sl13 : Array (Option Value)} {oc13 kV13 dc13 pm13 cd13 ct13 : Value} {f13 : Addr}
    (a13 : PySem.W.nsIn K mainGlobals "law" = some (some (.ref f13))) (l13 : K.lookup f13 = some ⟨oc13, od13, .func (PySem.W.fnOf "law" "law" (defArgs s_p_law) (defBody s_p_law) (defScope s_p_law) .none kV13 dc13 pm13 an13 cd13 ct13), sl13⟩) (c13 : PySem.W.codeIn K cd13 "law" = true) (k13 : PySem.W.keepIn K (.ref f13) = true)
    (z_abs : PySem.W.nsIn K mainGlobals "abs" = some none)
    (z_int : PySem.W.nsIn K mainGlobals "int" = some none)
    (z_len : PySem.W.nsIn K mainGlobals "len" = some none)
    (z_max : PySem.W.nsIn K mainGlobals "max" = some none)
    (z_min : PySem.W.nsIn K mainGlobals "min" = some none)
    (z_range : PySem.W.nsIn K mainGlobals "range" = some none)
    (z_reversed : PySem.W.nsIn K mainGlobals "reversed" = some none)
    (z_sum : PySem.W.nsIn K mainGlobals "sum" = some none)
    {t_AHEAD_OF_ALL : Tok} (z_AHEAD_OF_ALL : PySem.W.nsIn K mainGlobals "AHEAD_OF_ALL" = some (some (.int (-1) t_AHEAD_OF_ALL)))
    : ∃ fd : FuncData, (∀ (s : Shared) (v : Value), BindsTo s fd ⟨[v], []⟩ [("_law_script", v)]) ∧ ∀ base : Heap, K.In base → base.Ns mainGlobals mg → FnOk l.prog w K mg base CX0 5 fa fd ["_law_script"] (sp_p_law K) := by
  have e := hfa.symm.trans (PySem.W.mg_of X G a13)
  cases e
  have F0 := fun_mk (st := s_p_places_in) l0 c0 k0
  have F1 := fun_mk (st := s_p_hours_in) l1 c1 k1
  have F2 := fun_mk (st := s_p_bounds_at) l2 c2 k2
  have F3 := fun_mk (st := s_p_reached) l3 c3 k3
  have F4 := fun_mk (st := s_p_most_plan) l4 c4 k4
  have F5 := fun_mk (st := s_p__most_taken) l5 c5 k5
  have F6 := fun_mk (st := s_l_cell_at) l6 c6 k6
  have F7 := fun_mk (st := s_l_box) l7 c7 k7
  have F8 := fun_mk (st := s_l_take) l8 c8 k8
  have F9 := fun_mk (st := s_l_ladles) l9 c9 k9
  have F10 := fun_mk (st := s_l_day) l10 c10 k10
  have F11 := fun_mk (st := s_l_all) l11 c11 k11
  have F12 := fun_mk (st := s_l_small_day) l12 c12 k12
  have F13 := fun_mk (st := s_p_law) l13 c13 k13
  let T : All K mg := ⟨_, _, ⟨F0, PySem.W.mg_of X G a0, F0.binds (ps := ["day"]) fun _ _ _ _ _ _ us hl => match us, hl with | [_], _ => rfl⟩, _, _, ⟨F1, PySem.W.mg_of X G a1, F1.binds (ps := ["day"]) fun _ _ _ _ _ _ us hl => match us, hl with | [_], _ => rfl⟩, _, _, ⟨F2, PySem.W.mg_of X G a2, F2.binds (ps := ["day", "place", "hour"]) fun _ _ _ _ _ _ us hl => match us, hl with | [_, _, _], _ => rfl⟩, _, _, ⟨F3, PySem.W.mg_of X G a3, F3.binds (ps := ["taken", "bound"]) fun _ _ _ _ _ _ us hl => match us, hl with | [_, _], _ => rfl⟩, _, _, ⟨F4, PySem.W.mg_of X G a4, F4.binds (ps := ["day"]) fun _ _ _ _ _ _ us hl => match us, hl with | [_], _ => rfl⟩, _, _, ⟨F5, PySem.W.mg_of X G a5, F5.binds (ps := ["day"]) fun _ _ _ _ _ _ us hl => match us, hl with | [_], _ => rfl⟩, _, _, ⟨F6, PySem.W.mg_of X G a6, F6.binds (ps := ["_law_script", "_law_k"]) fun _ _ _ _ _ _ us hl => match us, hl with | [_, _], _ => rfl⟩, _, _, ⟨F7, PySem.W.mg_of X G a7, F7.binds (ps := ["_law_script", "_law_k"]) fun _ _ _ _ _ _ us hl => match us, hl with | [_, _], _ => rfl⟩, _, _, ⟨F8, PySem.W.mg_of X G a8, F8.binds (ps := ["_law_box_here", "_law_many"]) fun _ _ _ _ _ _ us hl => match us, hl with | [_, _], _ => rfl⟩, _, _, ⟨F9, PySem.W.mg_of X G a9, F9.binds (ps := ["_law_box_here", "_law_hours", "_law_wide"]) fun _ _ _ _ _ _ us hl => match us, hl with | [_, _, _], _ => rfl⟩, _, _, ⟨F10, PySem.W.mg_of X G a10, F10.binds (ps := ["_law_box_here", "_law_hours", "_law_pots", "_law_wide"]) fun _ _ _ _ _ _ us hl => match us, hl with | [_, _, _, _], _ => rfl⟩, _, _, ⟨F11, PySem.W.mg_of X G a11, F11.binds (ps := ["_law_day_here"]) fun _ _ _ _ _ _ us hl => match us, hl with | [_], _ => rfl⟩, _, _, ⟨F12, PySem.W.mg_of X G a12, F12.binds (ps := ["_law_box_here"]) fun _ _ _ _ _ _ us hl => match us, hl with | [_], _ => rfl⟩, _, _, ⟨F13, PySem.W.mg_of X G a13, F13.binds (ps := ["_law_script"]) fun _ _ _ _ _ _ us hl => match us, hl with | [_], _ => rfl⟩, PySem.W.mg_none_of X G z_abs, PySem.W.mg_none_of X G z_int, PySem.W.mg_none_of X G z_len, PySem.W.mg_none_of X G z_max, PySem.W.mg_none_of X G z_min, PySem.W.mg_none_of X G z_range, PySem.W.mg_none_of X G z_reversed, PySem.W.mg_none_of X G z_sum, _, PySem.W.mg_of X G z_AHEAD_OF_ALL⟩
  exact ⟨T.fd_p_law, fun s v => .of_eq rfl, fun base _ _ => ok_p_law T⟩
end KR
open PySem PySem.W PyProof.Rows
set_option maxRecDepth 100000 in
set_option maxHeartbeats 0 in
theorem PySem.Challenge.cw_kettlerow_k63_no_plan_has_more_holds : PySem.Challenge.rw_kettlerow_k63_no_plan_has_more.Holds := by
  w_on; o_law; k_head; (case hw => w_witness2)
  k_fill
  refine L2.walk_of (l := PySem.Challenge.rw_kettlerow_k63_no_plan_has_more) (n := 63) (k := 5) (x := "_law_script") (CX := fun _ => L2.CX0) (sp := fun w => KR.sp_p_law _) rfl (by decide) rfl ⟨rfl, by decide, by decide⟩ (fun w h Y => PySem.W.kIn_of Y) ?F (fun _ _ a ns hl _ hS => ⟨a, ns, rfl, hS, hl, fun _ => rfl⟩) (fun _ _ _ _ _ h => h)
  case F =>
    intro w mg fa h KX G hmg
    refine' KR.all_mk KX G hmg ?a0 ?l0 ?c0 ?k0 ?a1 ?l1 ?c1 ?k1 ?a2 ?l2 ?c2 ?k2 ?a3 ?l3 ?c3 ?k3 ?a4 ?l4 ?c4 ?k4 ?a5 ?l5 ?c5 ?k5 ?a6 ?l6 ?c6 ?k6 ?a7 ?l7 ?c7 ?k7 ?a8 ?l8 ?c8 ?k8 ?a9 ?l9 ?c9 ?k9 ?a10 ?l10 ?c10 ?k10 ?a11 ?l11 ?c11 ?k11 ?a12 ?l12 ?c12 ?k12 ?a13 ?l13 ?c13 ?k13 ?z_abs ?z_int ?z_len ?z_max ?z_min ?z_range ?z_reversed ?z_sum ?z_AHEAD_OF_ALL
    (case a0 => k_is)
    (case l0 => k_is)
    (case c0 => k_is)
    (case k0 => k_is)
    (case a1 => k_is)
    (case l1 => k_is)
    (case c1 => k_is)
    (case k1 => k_is)
    (case a2 => k_is)
    (case l2 => k_is)
    (case c2 => k_is)
    (case k2 => k_is)
    (case a3 => k_is)
    (case l3 => k_is)
    (case c3 => k_is)
    (case k3 => k_is)
    (case a4 => k_is)
    (case l4 => k_is)
    (case c4 => k_is)
    (case k4 => k_is)
    (case a5 => k_is)
    (case l5 => k_is)
    (case c5 => k_is)
    (case k5 => k_is)
    (case a6 => k_is)
    (case l6 => k_is)
    (case c6 => k_is)
    (case k6 => k_is)
    (case a7 => k_is)
    (case l7 => k_is)
    (case c7 => k_is)
    (case k7 => k_is)
    (case a8 => k_is)
    (case l8 => k_is)
    (case c8 => k_is)
    (case k8 => k_is)
    (case a9 => k_is)
    (case l9 => k_is)
    (case c9 => k_is)
    (case k9 => k_is)
    (case a10 => k_is)
    (case l10 => k_is)
    (case c10 => k_is)
    (case k10 => k_is)
    (case a11 => k_is)
    (case l11 => k_is)
    (case c11 => k_is)
    (case k11 => k_is)
    (case a12 => k_is)
    (case l12 => k_is)
    (case c12 => k_is)
    (case k12 => k_is)
    (case a13 => k_is)
    (case l13 => k_is)
    (case c13 => k_is)
    (case k13 => k_is)
    (case z_abs => k_is)
    (case z_int => k_is)
    (case z_len => k_is)
    (case z_max => k_is)
    (case z_min => k_is)
    (case z_range => k_is)
    (case z_reversed => k_is)
    (case z_sum => k_is)
    (case z_AHEAD_OF_ALL => k_is)
#print axioms PySem.Challenge.cw_kettlerow_k63_no_plan_has_more_holds
