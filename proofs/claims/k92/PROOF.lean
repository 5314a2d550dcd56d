import PyProof.Rows.All
import Wide.All
import OpenK.AllK
import Wide.FinOn
import HandS.ForMost
import HandS.Gcd
import HandS.Wide
import HandS.IsInst
import HandS.Zip
import HandS.More
import HandS.Style
import HandS.Rev
import HandS.MapJoin
import HandS.StrMore
import KE.KNest
import HandS.AnyAll
import HandS.EndTab
import HandS.GenOver
import KE.GoesEnum
import KE.GoesMore
import KE.GoesZip
import HandS.Walk
import HandS.Flt
import HandS.Dict
import HandS.TupAny
import HandS.RevRange
import HandS.Conv
import HandS.Small
import HandS.List
import PyProof.Rows.IntBool
import KE.DataFind
import PySem.Challenge.RW_kettlerow_k92_whole_a_day_beside_all_pla
set_option Elab.async false
set_option linter.all false
set_option maxRecDepth 100000
set_option maxHeartbeats 4000000
/-! ### own rules and words, of no law -/
namespace KR
open PySem PySem.Spec PyProof.Rows L2

/-- * of any two ints whose product is told to fit -/
theorem op_mulX {X : Cx} : OpR X (binaryOp .Mult) (rI IntMulOk fun i j => .int (i * j)) := opI fun _ _ _ _ _ _ _ hc q => mul_int q hc
/-- // by any divisor but 0, to some three thousand figures -/
def DivOk (_ j : Int) : Prop := j ≠ 0 ∧ j.natAbs.log2 < 9000
theorem op_fdivX {X : Cx} : OpR X (binaryOp .FloorDiv) (rI DivOk fun i j => .int (i.fdiv j)) := opI fun _ _ _ _ _ _ _ hc q => floordiv_int hc.1 q (.inl (PyProof.noPylong_of_log2 hc.2))
theorem mulL {i j : Int} (h : i.natAbs < 2 ^ 64) : IntMulOk i j := CMul.ok (.inl ⟨by omega, by omega⟩)
theorem mulR {i j : Int} (h : j.natAbs < 2 ^ 64) : IntMulOk i j := CMul.ok (.inr ⟨by omega, by omega⟩)
theorem mulW {i j : Int} {a b : Nat} (ha : i.natAbs < 2 ^ a) (hb : j.natAbs < 2 ^ b) (h0 : 0 < a) (h1 : 0 < b) (h : a + b ≤ 1000000) : IntMulOk i j := (wide_mul ha hb h0 h1 h).ok
theorem divOk {i j : Int} {b : Nat} (h : j ≠ 0) (hb : j.natAbs < 2 ^ b) (h0 : 0 < b) (h9 : b ≤ 9000) : DivOk i j := ⟨h, Nat.lt_of_lt_of_le (PySem.Flt.log2_lt_of h0 hb) h9⟩
theorem add_lt {i j : Int} {a : Nat} (ha : i.natAbs < 2 ^ a) (hb : j.natAbs < 2 ^ a) : (i + j).natAbs < 2 ^ (a + 1) := by
  rw [Nat.pow_succ]
  omega
theorem sub_lt {i j : Int} {a : Nat} (ha : i.natAbs < 2 ^ a) (hb : j.natAbs < 2 ^ a) : (i - j).natAbs < 2 ^ (a + 1) := by
  rw [Nat.pow_succ]
  omega
theorem lt_up {i : Int} {a b : Nat} (ha : i.natAbs < 2 ^ a) (h : a ≤ b) : i.natAbs < 2 ^ b := Nat.lt_of_lt_of_le ha (Nat.pow_le_pow_right (by decide) h)
theorem b40 {n : Nat} (h : n < 10 ^ 40) : n < 2 ^ 200 := Nat.lt_trans h (by decide)
theorem b41 {n : Nat} (h : n ≤ 10 ^ 41) : n < 2 ^ 200 := Nat.lt_of_le_of_lt h (by decide)
theorem bit_lt {c : Prop} [Decidable c] : (if c then (1 : Int) else 0).natAbs < 2 ^ 64 := by split <;> decide
theorem bit_nn {c : Prop} [Decidable c] : (0 : Int) ≤ (if c then (1 : Int) else 0) := by split <;> decide
theorem bit_or {c : Prop} [Decidable c] : (if c then (1 : Int) else 0) = 0 ∨ (if c then (1 : Int) else 0) = 1 := by split <;> simp
theorem small {n : Nat} (h : n ≤ 100000) : n ≤ sizeLine := Nat.le_trans h (by decide)
theorem small' {n : Nat} (h : n < 100000) : n < sizeLine := Nat.lt_of_lt_of_le h (by decide)

/-! the heap but for one object that is written -/
/-- all that was tracked but p is as it was -/
def Fr (p : Addr) (H H' : Hp) : Prop := ∀ b o, b ≠ p → H b = some o → H' b = some o
theorem Fr.refl {p : Addr} {H : Hp} : Fr p H H := fun _ _ _ h => h
theorem Fr.trans {p : Addr} {H H1 H2 : Hp} (a : Fr p H H1) (b : Fr p H1 H2) : Fr p H H2 := fun c o n h => b c o n (a c o n h)
theorem Fr.of {p : Addr} {H H1 : Hp} (a : Same H H1) : Fr p H H1 := fun c o _ h => a c o h
theorem same_new {H : Hp} {p : Addr} {o : HO} (h : H p = none) : Same H (upd H p o) := fun b x e => by
  rw [upd_ne (ne_of_none e h)]
  exact e
theorem Fr.new {p q : Addr} {H H1 : Hp} {o : HO} (a : Fr p H H1) (h : H1 q = none) : Fr p H (upd H1 q o) := a.trans (.of (same_new h))
theorem Fr.put {p : Addr} {H H1 : Hp} {o : HO} (a : Fr p H H1) : Fr p H (upd H1 p o) := fun c x n h => by
  rw [upd_ne n]
  exact a c x n h
theorem Fr.put' {p q : Addr} {H H1 : Hp} {o : HO} (a : Fr p H H1) (h : H q = none) : Fr p H (upd H1 q o) := fun c x n e => by
  rw [upd_ne (ne_of_none e h)]
  exact a c x n e
/-- what is new there was new ahead of it, if the written one stands -/
theorem Fr.free {p q : Addr} {H H1 : Hp} {o : HO} (a : Fr p H H1) (hp : H1 p = some o) (h : H1 q = none) : H q = none := by
  cases e : H q with
  | none => rfl
  | some u =>
    have n : q ≠ p := fun z => by
      rw [z, hp] at h
      cases h
    rw [a q u n e] at h
    cases h

/-! a reading may be asked for more than is wanted; displays whose new heap is a letter -/
def clA (t : TA) : TA := fun σ H Q => ∃ Q0 : List V → Hp → Prop, (∀ xs H1, Q0 xs H1 → Q xs H1) ∧ t σ H Q0
theorem pa_cl {X : Cx} {es : List Expr} {t : TA} (h : PA X es t) : PA X es (clA t) := ⟨fun pos pins s σ H Q I ⟨Q0, m, q⟩ =>
  thn (h.run pos pins s σ H Q0 I q) fun us s1 ⟨xs, H1, I1, r, z⟩ => ⟨xs, H1, I1, r, m _ _ z⟩⟩
def tTupI (t : TA) : TE := fun σ H Q => t σ H fun xs H1 => Nat.ble xs.length 100000 = true ∧ ∀ p H', Same H1 H' → H1 p = none → H' p = some (.tup xs) → Q (.ref p) H'
def tLstI (t : TA) : TE := fun σ H Q => t σ H fun xs H1 => Nat.ble xs.length 100000 = true ∧ ∀ p H', Same H1 H' → H1 p = none → H' p = some (.lst xs) → Q (.ref p) H'
theorem pe_tupI {X : Cx} {es : List Expr} {k : Nat} {pos : Pos} {t : TA} (h : PA X es t) : PE X (.Tuple es k pos) (tTupI t) := ⟨fun pins s σ H Q I q =>
  (pe_tup (pa_cl h)).run pins s σ H Q I ⟨_, fun _ _ ⟨z, w⟩ => ⟨small (Nat.le_of_ble_eq_true z), fun p hp => w p _ (same_new hp) hp upd_same⟩, q⟩⟩
theorem pe_lstI {X : Cx} {es : List Expr} {pos : Pos} {t : TA} (h : PA X es t) : PE X (.List es pos) (tLstI t) := ⟨fun pins s σ H Q I q =>
  (pe_lst (pa_cl h)).run pins s σ H Q I ⟨_, fun _ _ ⟨z, w⟩ => ⟨small (Nat.le_of_ble_eq_true z), fun p hp => w p _ (same_new hp) hp upd_same⟩, q⟩⟩
/-- ways that join behind a statement: R is what they come to -/
def tJ (t : TS) : TS := fun D σ H => ∃ R : L2.St → Hp → Prop, (∀ σ' H', R σ' H' → D.nx σ' H') ∧ t { D with nx := R } σ H
theorem ps_J {X : Cx} {st : Stmt} {t : TS} (h : PS X st t) : PS X st (tJ t) := ⟨fun pins s σ H D I ⟨R, m, q⟩ => thn (h.run pins s σ H { D with nx := R } I q) fun f s1 z =>
  match f, z with
  | .next, ⟨σ', H', J, r⟩ => ⟨σ', H', J, m _ _ r⟩
  | .ret _, z => z
  | .brk, z => z
  | .cont, z => z⟩
theorem ite_bT {b : Bool} {A B : Prop} (h : b = true) (q : A) : if b = true then A else B := by
  rw [if_pos h]
  exact q
theorem ite_bF {b : Bool} {A B : Prop} (h : b = false) (q : B) : if b = true then A else B := by
  rw [if_neg (by rw [h]; exact Bool.false_ne_true)]
  exact q
theorem ite_iT {i j : Int} {A B : Prop} (h : i = j) (q : A) : if decide (V.int i = V.int j) = true then A else B := by
  rw [if_pos (decide_eq_true (congrArg V.int h))]
  exact q
theorem ite_iF {i j : Int} {A B : Prop} (h : i ≠ j) (q : B) : if decide (V.int i = V.int j) = true then A else B := by
  rw [if_neg (by rw [decide_eq_false fun z => h (V.int.inj z)]; exact Bool.false_ne_true)]
  exact q
theorem ite_nT {i j : Int} {A B : Prop} (h : i ≠ j) (q : A) : if (!decide (V.int i = V.int j)) = true then A else B := by
  rw [if_pos (by rw [decide_eq_false fun z => h (V.int.inj z)] <;> rfl)]
  exact q
theorem ite_nF {i j : Int} {A B : Prop} (h : i = j) (q : B) : if (!decide (V.int i = V.int j)) = true then A else B := by
  rw [if_neg (by rw [decide_eq_true (congrArg V.int h)]; exact Bool.false_ne_true)]
  exact q
/-- the law's box of draws: n is more than have been mixed -/
def BoxAt (H : Hp) (p : Addr) (n : Nat) : Prop := ∃ a b c : Int, H p = some (.lst [.int a, .int b, .int c]) ∧ 0 ≤ a ∧ 0 ≤ b ∧ b < 2 ^ 62 ∧ 0 ≤ c ∧ c ≤ (n : Int)
theorem BoxAt.mono {H : Hp} {p : Addr} {n m : Nat} (h : BoxAt H p n) (le : n ≤ m) : BoxAt H p m := by
  obtain ⟨a, b, c, h1, h2, h3, h4, h5, h6⟩ := h
  exact ⟨a, b, c, h1, h2, h3, h4, h5, by omega⟩
theorem BoxAt.same {H H' : Hp} {p : Addr} {n : Nat} (h : BoxAt H p n) (s : Same H H') : BoxAt H' p n := by
  obtain ⟨a, b, c, h1, h2⟩ := h
  exact ⟨a, b, c, s _ _ h1, h2⟩
theorem BoxAt.ne {H : Hp} {p q : Addr} {n : Nat} {xs : List V} (h : BoxAt H p n) (t : H q = some (.tup xs)) : q ≠ p := by
  obtain ⟨a, b, c, h1, _⟩ := h
  exact ne_of t h1 (by intro z; cases z)
theorem BoxAt.some {H : Hp} {p : Addr} {n : Nat} (h : BoxAt H p n) : ∃ o, H p = some o := by
  obtain ⟨a, b, c, h1, _⟩ := h
  exact ⟨_, h1⟩
/-- a tuple stays -/
theorem Fr.tup {p q : Addr} {H H1 : Hp} {n : Nat} {xs : List V} (a : Fr p H H1) (hb : BoxAt H p n) (t : H q = some (.tup xs)) : H1 q = some (.tup xs) := a q _ (hb.ne t) t
/-- a pair of ints -/
def PrAt (H : Hp) (q : Addr) (t b : Int) : Prop := H q = some (.tup [.int t, .int b])
theorem at0 {x : V} {xs : List V} : atI (x :: xs) 0 = some x := atI_nat (j := 0) rfl
theorem at1 {x y : V} {xs : List V} : atI (x :: y :: xs) 1 = some y := atI_nat (j := 1) rfl
theorem at2 {x y z : V} {xs : List V} : atI (x :: y :: z :: xs) 2 = some z := atI_nat (j := 2) rfl

/-! fractions -/
/-- the law's own lowest terms -/
def low (t b : Int) : Int × Int := (t / (Nat.gcd t.natAbs b.natAbs : Nat) * (if b < 0 then -1 else 1), (b.natAbs : Int) / (Nat.gcd t.natAbs b.natAbs : Nat))
structure IsLow (t b : Int) : Prop where
  pos : 0 < b
  cop : Nat.gcd t.natAbs b.natAbs = 1
theorem dvd_mul {a b : Int} (h : a ∣ b) : a * (b / a) = b := Int.mul_ediv_cancel' h
theorem low_facts (t b : Int) (hb : b ≠ 0) : IsLow (low t b).1 (low t b).2 ∧ t * (low t b).2 = (low t b).1 * b := by
  have hg : 0 < Nat.gcd t.natAbs b.natAbs := Nat.gcd_pos_of_pos_right _ (by omega)
  generalize e : Nat.gcd t.natAbs b.natAbs = g at hg
  have d1 : g ∣ t.natAbs := e ▸ Nat.gcd_dvd_left _ _
  have d2 : g ∣ b.natAbs := e ▸ Nat.gcd_dvd_right _ _
  obtain ⟨x, hx⟩ := d1
  obtain ⟨y, hy⟩ := d2
  have hc : Nat.gcd x y = 1 := by
    rw [hx, hy, Nat.gcd_mul_left] at e
    exact Nat.eq_of_mul_eq_mul_left hg (by rw [e, Nat.mul_one])
  have hy0 : 0 < y := by
    rcases Nat.eq_zero_or_pos y with z | z
    · rw [z, Nat.mul_zero] at hy
      omega
    · exact z
  have h2 : (low t b).2 = (y : Int) := by
    show (b.natAbs : Int) / (Nat.gcd t.natAbs b.natAbs : Nat) = (y : Int)
    rw [e, hy, Int.natCast_mul]
    exact Int.mul_ediv_cancel_left _ (by omega)
  have ht : t = (g : Int) * x ∨ t = -((g : Int) * x) := by
    have q : (t.natAbs : Int) = (g : Int) * x := by rw [hx, Int.natCast_mul]
    omega
  have hbb : (b.natAbs : Int) = (g : Int) * y := by rw [hy, Int.natCast_mul]
  have h1 : (low t b).1 = (t / (g : Int)) * (if b < 0 then -1 else 1) := by
    show t / (Nat.gcd t.natAbs b.natAbs : Nat) * (if b < 0 then -1 else 1) = _
    rw [e]
  have h3 : t / (g : Int) = x ∨ t / (g : Int) = -(x : Int) := by
    rcases ht with q | q
    · left
      rw [q]
      exact Int.mul_ediv_cancel_left _ (by omega)
    · right
      rw [q, ← Int.mul_neg]
      exact Int.mul_ediv_cancel_left _ (by omega)
  have h4 : (g : Int) * (t / (g : Int)) = t := dvd_mul (by
    rcases ht with q | q
    · exact ⟨x, q⟩
    · exact ⟨-x, by rw [q, Int.mul_neg]⟩)
  refine ⟨⟨by rw [h2]; omega, ?_⟩, ?_⟩
  · rw [h2, h1]
    have q : ((t / (g : Int)) * (if b < 0 then -1 else 1)).natAbs = x := by
      split <;> rcases h3 with z | z <;> rw [z] <;> omega
    rw [q]
    exact hc
  · rw [h2, h1]
    by_cases c : b < 0
    · rw [if_pos c]
      have q : b = -((g : Int) * y) := by omega
      grind
    · rw [if_neg c]
      have q : b = (g : Int) * y := by omega
      grind
theorem low_pos (t b : Int) (hb : b ≠ 0) : 0 < (low t b).2 := (low_facts t b hb).1.pos
/-- two fractions in lowest terms that are alike across are one -/
theorem isLow_uniq {x y u v : Int} (h : IsLow x y) (k : IsLow u v) (e : x * v = u * y) : x = u ∧ y = v := by
  have h1 := h.pos
  have k1 := k.pos
  have e1 : x.natAbs * v.natAbs = u.natAbs * y.natAbs := by rw [← Int.natAbs_mul, ← Int.natAbs_mul, e]
  have d1 : y.natAbs ∣ v.natAbs := (Nat.Coprime.symm h.cop).dvd_of_dvd_mul_left (by rw [e1]; exact Nat.dvd_mul_left _ _)
  have d2 : v.natAbs ∣ y.natAbs := (Nat.Coprime.symm k.cop).dvd_of_dvd_mul_left (by rw [← e1]; exact Nat.dvd_mul_left _ _)
  have e2 : y.natAbs = v.natAbs := Nat.dvd_antisymm d1 d2
  have e3 : y = v := by omega
  subst e3
  exact ⟨Int.eq_of_mul_eq_mul_right (by omega) e, rfl⟩
theorem low_eq {t b x y : Int} (hb : b ≠ 0) (h : IsLow x y) (e : t * y = x * b) : low t b = (x, y) := by
  obtain ⟨h1, h2⟩ := low_facts t b hb
  have q : (low t b).1 * y = x * (low t b).2 := by
    have z : b * ((low t b).1 * y) = b * (x * (low t b).2) := by grind
    exact Int.eq_of_mul_eq_mul_left hb z
  obtain ⟨a1, a2⟩ := isLow_uniq h1 h q
  exact Prod.ext a1 a2
theorem low_id {t b : Int} (h : IsLow t b) : low t b = (t, b) := low_eq (by have := h.pos; omega) h rfl
theorem low_le (t b : Int) : (low t b).1.natAbs ≤ t.natAbs ∧ (low t b).2.natAbs ≤ b.natAbs := by
  generalize e : Nat.gcd t.natAbs b.natAbs = g
  have h1 : (low t b).1 = (t / (g : Int)) * (if b < 0 then -1 else 1) := by
    show t / (Nat.gcd t.natAbs b.natAbs : Nat) * (if b < 0 then -1 else 1) = _
    rw [e]
  have h2 : (low t b).2 = (b.natAbs : Int) / (g : Int) := by
    show (b.natAbs : Int) / (Nat.gcd t.natAbs b.natAbs : Nat) = _
    rw [e]
  have d1 : (g : Int) ∣ t := e ▸ Int.ofNat_dvd_left.mpr (Nat.gcd_dvd_left _ _)
  constructor
  · rw [h1]
    have q : (t / (g : Int) * (if b < 0 then -1 else 1)).natAbs = (t / (g : Int)).natAbs := by
      split <;> omega
    rw [q]
    obtain ⟨z, rfl⟩ := d1
    by_cases c : (g : Int) = 0
    · rw [c, Int.zero_mul, Int.zero_ediv]
      omega
    · rw [Int.mul_ediv_cancel_left _ c, Int.natAbs_mul]
      exact Nat.le_mul_of_pos_left _ (by omega)
  · rw [h2, ← Int.natCast_ediv, Int.natAbs_natCast]
    exact Nat.div_le_self _ _
theorem low_lt {t b : Int} {n : Nat} (h1 : t.natAbs < 2 ^ n) (h2 : b.natAbs < 2 ^ n) : (low t b).1.natAbs < 2 ^ n ∧ (low t b).2.natAbs < 2 ^ n :=
  ⟨Nat.lt_of_le_of_lt (low_le t b).1 h1, Nat.lt_of_le_of_lt (low_le t b).2 h2⟩
/-- a fraction in lowest terms, of fewer than sixty figures -/
structure FrAt (H : Hp) (x : Addr) (a b : Int) : Prop where
  at_ : H x = some (.tup [.int a, .int b])
  low : IsLow a b
  ta : a.natAbs < 2 ^ 200
  tb : b.natAbs < 2 ^ 200
theorem FrAt.same {H H' : Hp} {x : Addr} {a b : Int} (h : FrAt H x a b) (s : Same H H') : FrAt H' x a b := ⟨s _ _ h.at_, h.low, h.ta, h.tb⟩
theorem FrAt.fr {H H' : Hp} {x p : Addr} {a b : Int} {n : Nat} (h : FrAt H x a b) (B : BoxAt H p n) (f : Fr p H H') : FrAt H' x a b := ⟨f.tup B h.at_, h.low, h.ta, h.tb⟩
/-- a new pair of two numbers' lowest terms -/
def sp_low : Sp := fun vs H Q _ => ∃ t b : Int, vs = [.int t, .int b] ∧ b ≠ 0 ∧ t.natAbs < 2 ^ 2000 ∧ b.natAbs < 2 ^ 2000 ∧ ∀ p H', Same H H' → H p = none → H' p = some (.tup [.int (low t b).1, .int (low t b).2]) → Q (.ref p) H'
/-- two pairs in, low of what f and g say of them out -/
def sp_two (K : PySem.W.Frag) (f g : Int → Int → Int → Int → Int) : Sp := fun vs H Q _ => ∃ (x y : Addr) (a b c d : Int), vs = [.ref x, .ref y] ∧ SqT K H x [.int a, .int b] ∧ SqT K H y [.int c, .int d] ∧ g a b c d ≠ 0 ∧ a.natAbs < 2 ^ 900 ∧ b.natAbs < 2 ^ 900 ∧ c.natAbs < 2 ^ 900 ∧ d.natAbs < 2 ^ 900 ∧
  ∀ p H', Same H H' → H p = none → H' p = some (.tup [.int (low (f a b c d) (g a b c d)).1, .int (low (f a b c d) (g a b c d)).2]) → Q (.ref p) H'
/-- by a divisor turned about -/
theorem fdiv_neg {t g : Int} (h : g ∣ t) : t.fdiv (-g) = t / g * -1 := by
  obtain ⟨z, rfl⟩ := h
  by_cases c : g = 0
  · subst c
    simp
  · rw [Int.mul_ediv_cancel_left _ c, show g * z = (-g) * (-z) by grind, Int.mul_fdiv_cancel_left _ (by omega)]
    omega

/-! data of the law's own making, n deep -/
theorem Same.put {H0 H : Hp} {D : Addr} {o : HO} (s : Same H0 H) (h : H0 D = none) : Same H0 (upd H D o) := fun b u e => by
  rw [upd_ne (ne_of_none e h)]
  exact s b u e
inductive Dt (H : Hp) : Nat → V → PyData → Prop
  | non (n : Nat) : Dt H (n + 1) .non .none
  | bl (n : Nat) (b : Bool) : Dt H (n + 1) (.bl b) (.bool b)
  | int (n : Nat) (i : Int) : Dt H (n + 1) (.int i) (.int i)
  | str (n : Nat) (x : Str) (ok : PyData.canLay0 (.str x) = true) : Dt H (n + 1) (.str x) (.str x)
  | lst {n : Nat} {a : Addr} {xs : List V} {ds : List PyData} : H a = some (.lst xs) → xs.length = ds.length → xs.length ≤ 100000 → (∀ (i : Nat) (x : V) (d : PyData), xs[i]? = some x → ds[i]? = some d → Dt H n x d) → Dt H (n + 1) (.ref a) (.list ds)
  | tup {n : Nat} {a : Addr} {xs : List V} {ds : List PyData} : H a = some (.tup xs) → xs.length = ds.length → xs.length ≤ 100000 → (∀ (i : Nat) (x : V) (d : PyData), xs[i]? = some x → ds[i]? = some d → Dt H n x d) → Dt H (n + 1) (.ref a) (.tuple ds)
theorem Dt.same {H H' : Hp} (s : Same H H') : ∀ {n : Nat} {v : V} {d : PyData}, Dt H n v d → Dt H' n v d := by
  intro n v d h
  induction h with
  | non n => exact .non n
  | bl n b => exact .bl n b
  | int n i => exact .int n i
  | str n x ok => exact .str n x ok
  | lst h1 h2 h3 _ ih => exact .lst (s _ _ h1) h2 h3 ih
  | tup h1 h2 h3 _ ih => exact .tup (s _ _ h1) h2 h3 ih
theorem Dt.up {H : Hp} {n m : Nat} {v : V} {d : PyData} (h : Dt H n v d) : n ≤ m → Dt H m v d := by
  intro le
  induction h generalizing m with
  | non n => obtain ⟨k, rfl⟩ : ∃ k, m = k + 1 := ⟨m - 1, by omega⟩; exact .non k
  | bl n b => obtain ⟨k, rfl⟩ : ∃ k, m = k + 1 := ⟨m - 1, by omega⟩; exact .bl k b
  | int n i => obtain ⟨k, rfl⟩ : ∃ k, m = k + 1 := ⟨m - 1, by omega⟩; exact .int k i
  | str n x ok => obtain ⟨k, rfl⟩ : ∃ k, m = k + 1 := ⟨m - 1, by omega⟩; exact .str k x ok
  | lst h1 h2 h3 _ ih => obtain ⟨k, rfl⟩ : ∃ k, m = k + 1 := ⟨m - 1, by omega⟩; exact .lst h1 h2 h3 fun i x d a b => ih i x d a b (by omega)
  | tup h1 h2 h3 _ ih => obtain ⟨k, rfl⟩ : ∃ k, m = k + 1 := ⟨m - 1, by omega⟩; exact .tup h1 h2 h3 fun i x d a b => ih i x d a b (by omega)
theorem Dt.tup2 {H : Hp} {n : Nat} {a : Addr} {x y : V} {d e : PyData} (h : H a = some (.tup [x, y])) (h1 : Dt H n x d) (h2 : Dt H n y e) : Dt H (n + 1) (.ref a) (.tuple [d, e]) :=
  .tup h rfl (by show 2 ≤ 100000; decide) fun i u v hu hv => match i, hu, hv with
    | 0, hu, hv => by cases hu; cases hv; exact h1
    | 1, hu, hv => by cases hu; cases hv; exact h2
    | i + 2, hu, _ => by simp at hu
theorem Dt.pair {H : Hp} {a : Addr} {t b : Int} (h : H a = some (.tup [.int t, .int b])) : Dt H 2 (.ref a) (.tuple [.int t, .int b]) := .tup2 h (.int 0 t) (.int 0 b)
theorem Dt.lst2 {H : Hp} {n : Nat} {a : Addr} {x y : V} {d e : PyData} (h : H a = some (.lst [x, y])) (h1 : Dt H n x d) (h2 : Dt H n y e) : Dt H (n + 1) (.ref a) (.list [d, e]) :=
  .lst h rfl (by show 2 ≤ 100000; decide) fun i u v hu hv => match i, hu, hv with
    | 0, hu, hv => by cases hu; cases hv; exact h1
    | 1, hu, hv => by cases hu; cases hv; exact h2
    | i + 2, hu, _ => by simp at hu
theorem Dt.lst3 {H : Hp} {n : Nat} {a : Addr} {x y z : V} {d e f : PyData} (h : H a = some (.lst [x, y, z])) (h1 : Dt H n x d) (h2 : Dt H n y e) (h3 : Dt H n z f) : Dt H (n + 1) (.ref a) (.list [d, e, f]) :=
  .lst h rfl (by show 3 ≤ 100000; decide) fun i u v hu hv => match i, hu, hv with
    | 0, hu, hv => by cases hu; cases hv; exact h1
    | 1, hu, hv => by cases hu; cases hv; exact h2
    | 2, hu, hv => by cases hu; cases hv; exact h3
    | i + 3, hu, _ => by simp at hu
/-- a comprehension over pairs: J hands out a new tuple of px i and py i at each of n turns, while St stands -/
theorem lc_pair {J : It} {n : Nat} {St : Hp → Prop} {px py : Nat → V} (hgo : ∀ i H, i < n → St H → J.go i H) (hst : ∀ H, St H → J.stop n H)
    (hy : ∀ i H v H', i < n → St H → J.yld i H v H' → ∃ T, v = .ref T ∧ H T = none ∧ H' = upd H T (.tup [px i, py i]))
    {g : TG} {tt : TT} {te : TE} {vs : List Nat} {σ : L2.St} {H1 : Hp} {D : Addr} {Qd : Hp → Prop} (Pv : Nat → Hp → Prop) (h0 : Pv 0 (upd H1 D (.lst []))) (hq : ∀ i H, i ≤ n → Pv i H → St H)
    (hs : ∀ i T H, i < n → Pv i H → H T = none → g (.ref T) (wipe σ vs) (upd H T (.tup [px i, py i])) fun σ2 H2 => wipe σ2 vs = wipe σ vs ∧ tt σ2 H2 fun b H3 =>
      if b = true then te σ2 H3 fun y H4 => ∃ acc, H4 D = some (.lst acc) ∧ acc.length < sizeLine ∧ Pv (i + 1) (upd H4 D (.lst (acc ++ [y]))) else Pv (i + 1) H3) (hd : ∀ H, Pv n H → Qd H) :
    ∃ W : Nat → Nat → Hp → Prop, (∃ m, W 0 m (upd H1 D (.lst []))) ∧ ∀ i m H, W i m H →
      (J.stop i H ∧ Qd H) ∨ (J.go i H ∧ ∃ Nx : Hp → Prop, (∀ H', Nx H' → ∃ m', m' < m ∧ W (i + 1) m' H') ∧ ∀ x H', J.yld i H x H' → g x (wipe σ vs) H' fun σ2 H2 => wipe σ2 vs = wipe σ vs ∧ tt σ2 H2 fun b H3 =>
        if b = true then te σ2 H3 fun y H4 => ∃ acc, H4 D = some (.lst acc) ∧ acc.length < sizeLine ∧ Nx (upd H4 D (.lst (acc ++ [y]))) else Nx H3) := by
  refine ⟨fun i m H => i + m = n ∧ Pv i H, ⟨n, by omega, h0⟩, fun i m H w => ?_⟩
  obtain ⟨e, p⟩ := w
  have q := hq i H (by omega) p
  rcases Nat.lt_or_ge i n with lt | ge
  · refine Or.inr ⟨hgo i H lt q, Pv (i + 1), fun H' p' => ⟨m - 1, by omega, by omega, p'⟩, fun x H' y => ?_⟩
    obtain ⟨T, rfl, nT, rfl⟩ := hy i H x H' lt q y
    exact hs i T H lt p nT
  · obtain rfl : i = n := by omega
    exact Or.inl ⟨hst H q, hd H p⟩
theorem zipL_go {K : PySem.W.Frag} {a b : Addr} {xs ys : List V} {n : Nat} (h1 : xs.length = n) (h2 : ys.length = n) {i : Nat} {H : Hp} (lt : i < n) (q : SqL K H a xs ∧ SqL K H b ys) : (Itz K a b).go i H :=
  ⟨xs, ys, _, _, q.1, q.2, List.getElem?_eq_getElem (by omega), List.getElem?_eq_getElem (by omega)⟩
theorem zipL_stop {K : PySem.W.Frag} {a b : Addr} {xs ys : List V} {n : Nat} (h1 : xs.length = n) {H : Hp} (q : SqL K H a xs ∧ SqL K H b ys) : (Itz K a b).stop n H := ⟨xs, ys, q.1, q.2, .inl (by omega)⟩
theorem zipL_yld {K : PySem.W.Frag} {a b : Addr} {xs ys : List V} {n : Nat} (h1 : xs.length = n) (h2 : ys.length = n) {i : Nat} {H H' : Hp} {v : V} (lt : i < n) (q : SqL K H a xs ∧ SqL K H b ys) (y : (Itz K a b).yld i H v H') :
    ∃ T, v = .ref T ∧ H T = none ∧ H' = upd H T (.tup [xs.getD i .non, ys.getD i .non]) := by
  obtain ⟨T, x, y, rfl, nT, rfl, f1, f2⟩ := y
  refine ⟨T, rfl, nT, ?_⟩
  rw [List.getD_eq_getElem?_getD, List.getD_eq_getElem?_getD, f1 _ q.1, f2 _ q.2] <;> rfl
theorem zipT_go {K : PySem.W.Frag} {a b : Addr} {xs ys : List V} {n : Nat} (h1 : xs.length = n) (h2 : ys.length = n) {i : Nat} {H : Hp} (lt : i < n) (q : SqT K H a xs ∧ SqT K H b ys) : (RZ.ItzT K a b).go i H :=
  ⟨xs, ys, _, _, q.1, q.2, List.getElem?_eq_getElem (by omega), List.getElem?_eq_getElem (by omega)⟩
theorem zipT_stop {K : PySem.W.Frag} {a b : Addr} {xs ys : List V} {n : Nat} (h1 : xs.length = n) {H : Hp} (q : SqT K H a xs ∧ SqT K H b ys) : (RZ.ItzT K a b).stop n H := ⟨xs, ys, q.1, q.2, .inl (by omega)⟩
theorem zipT_yld {K : PySem.W.Frag} {a b : Addr} {xs ys : List V} {n : Nat} (h1 : xs.length = n) (h2 : ys.length = n) {i : Nat} {H H' : Hp} {v : V} (lt : i < n) (q : SqT K H a xs ∧ SqT K H b ys) (y : (RZ.ItzT K a b).yld i H v H') :
    ∃ T, v = .ref T ∧ H T = none ∧ H' = upd H T (.tup [xs.getD i .non, ys.getD i .non]) := by
  obtain ⟨T, x, y, rfl, nT, rfl, f1, f2⟩ := y
  refine ⟨T, rfl, nT, ?_⟩
  rw [List.getD_eq_getElem?_getD, List.getD_eq_getElem?_getD, f1 _ q.1, f2 _ q.2] <;> rfl
theorem getD_of {xs : List V} {i : Nat} (h : i < xs.length) : xs[i]? = some (xs.getD i .non) := by
  rw [List.getD_eq_getElem?_getD, List.getElem?_eq_getElem h] <;> rfl
theorem yesT {σ : L2.St} {H : Hp} {A B : Hp → Prop} (h : A H) : tYes σ H fun b H3 => if b = true then A H3 else B H3 := iteT (A := A H) (B := B H) h
/-- True so often -/
theorem all_true (n : Nat) : (List.replicate n true).map V.bl = List.replicate n (V.bl true) ∧ (List.replicate n true).all id = true := by
  refine ⟨List.map_replicate, ?_⟩
  induction n with
  | zero => rfl
  | succ n ih => rw [List.replicate_succ, List.all_cons, ih] <;> rfl

/-- a def of the text, where it stands and how it is called -/
structure Def (K : PySem.W.Frag) (mg : Str → Option Value) (name : Str) (st : Stmt) (f : Addr) (fd : FuncData) (ps : List Str) : Prop where
  fn : Fun K name name st f fd
  mg : mg name = some (.ref f)
  b : Binds K fd ps []
/-! rules whose written part is a letter -/
section
variable {X : Cx} {K : PySem.W.Frag}
theorem ixL (h : X.K = K) : IxR X (rIxL K) := h ▸ ix_list
theorem ixT (h : X.K = K) : IxR X (rIxT K) := h ▸ ix_tup
theorem ixQ (h : X.K = K) : IxR X (rIx K) := h ▸ ix_seq
def rLenQ (K : PySem.W.Frag) : List V → Hp → VK → Prop := fun xs H Q => ∃ p ys, xs = [.ref p] ∧ (SqL K H p ys ∨ SqT K H p ys) ∧ Q (.int (ys.length : Nat)) H
theorem lenQ (h : X.K = K) : CallR X (.builtin "len") (rLenQ K) := h ▸ call_len_seq
def rLenA (K : PySem.W.Frag) : List V → Hp → VK → Prop := fun xs H Q => ∃ x n, xs = [x] ∧ LenV K x H n ∧ Q (.int (n : Nat)) H
theorem lenA (h : X.K = K) : CallR X (.builtin "len") (rLenA K) := h ▸ call_len
theorem isiK (h : X.K = K) : CallR X (.builtin "isinstance") (rIsi K) := h ▸ call_isi
theorem isiTK (h : X.K = K) : CallR X (.builtin "isinstance") (rIsiT K) := h ▸ call_isiT
theorem allK (h : X.K = K) (hc : X.calm = true) : CallR X (.builtin "all") (rAll K) := h ▸ cr_all hc
theorem anyK (h : X.K = K) (hc : X.calm = true) : CallR X (.builtin "any") (rAny K) := h ▸ cr_any hc
theorem sumK (h : X.K = K) (hc : X.calm = true) : CallR X (.builtin "sum") (rSum K) := h ▸ cr_sum hc
theorem eqDK (h : X.K = K) (hu : X.A.units + 64 < cLine) : OpR X (compareOp .Eq) (rEqD K) := h ▸ op_eqD hu
theorem neDK (h : X.K = K) (hu : X.A.units + 64 < cLine) : OpR X (compareOp .NotEq) (rNeD K) := h ▸ op_neD hu
theorem inQ (h : X.K = K) : OpR X (compareOp .In) (rIn K false) := h ▸ op_in_seq
theorem notInQ (h : X.K = K) : OpR X (compareOp .NotIn) (rIn K true) := h ▸ op_notIn_seq
theorem pi_listK {tg l : Expr} {tl : TE} (h : X.K = K) (hl : PE X l tl) : PI X tg l (iList K tl) := h ▸ pi_list hl
theorem pi_tupK {tg l : Expr} {tl : TE} (h : X.K = K) (hl : PE X l tl) : PI X tg l (iTup K tl) := h ▸ pi_tup hl
theorem pi_zipK {e e2 : Expr} {ta : TA} {p pos tpos : Pos} {elts : List Expr} {kk : Nat} (h : X.K = K) (hg : Gl X "zip") (hm : X.mg "zip" = none) (ha : PA X [e, e2] ta)
    (hs : starEach [e, e2] X.env = (false, eval e X.env) :: starEach [e2] X.env := by rfl) (hpl : (backTo pos (starEach [e2] X.env)).any (·.1) = false := by rfl) :
    PI X (.Tuple elts kk tpos) (.Call (.Name "zip" p) [e, e2] [] pos) (RZ.iZipA K ta) := h ▸ RZ.pi_zipA hg hm ha hs hpl
theorem pi_enumK {e : Expr} {ta : TA} {p pos tpos : Pos} {elts : List Expr} {kk : Nat} (h : X.K = K) (hg : Gl X "enumerate") (hm : X.mg "enumerate" = none) (ha : PA X [e] ta) (hs : starEach [e] X.env = [(false, eval e X.env)] := by rfl) :
    PI X (.Tuple elts kk tpos) (.Call (.Name "enumerate" p) [e] [] pos) (iEnum K ta) := h ▸ pi_enum hg hm ha hs
theorem pg_tupK {es : List Expr} {k : Nat} {pos : Pos} {t : TGs} {n : Nat} (h : X.K = K) (hc : X.calm = true) (ht : PGs X es t) (hn : (assignEach es X.env).length = n := by rfl) (hst : (assignEach es X.env).findIdx? (·.1) = none := by rfl) :
    PG X (.Tuple es k pos) (gTup K n t) := h ▸ pg_tup hc ht hn hst
/-- a new slice, a new list of what a thing holds -/
def rSlLI (K : PySem.W.Frag) : V → Option Int → Option Int → Hp → VK → Prop := fun x lo hi H Q => ∃ a xs, x = .ref a ∧ SqL K H a xs ∧ ∀ p H', Same H H' → H p = none → H' p = some (.lst (cutV xs lo hi)) → Q (.ref p) H'
theorem slL (h : X.K = K) : SlR X (rSlLI K) := fun pins s σ H x v vl vu lo hi sl Q I rx hs pl pu ⟨a, xs, e, q, k⟩ =>
  sl_list pins s σ H x v vl vu lo hi sl Q I rx hs pl pu ⟨a, xs, e, h ▸ q, fun p hp => k p _ (same_new hp) hp upd_same⟩
def rListI (K : PySem.W.Frag) : List V → Hp → VK → Prop := fun xs H Q => ∃ p ys, xs = [.ref p] ∧ (SqL K H p ys ∨ SqT K H p ys) ∧ ∀ l H', Same H H' → H l = none → H' l = some (.lst ys) → Q (.ref l) H'
theorem listI (h : X.K = K) : CallR X (.type "list") (rListI K) := fun pins s σ H xs us Q I r ⟨p, ys, e, q, k⟩ =>
  call_list_of pins s σ H xs us Q I r ⟨p, ys, e, h ▸ q, fun l hl => k l _ (same_new hl) hl upd_same⟩
end
/-! lists of fractions: addresses, tops, bottoms -/
abbrev Fq := Addr × Int × Int
def refs (l : List Fq) : List V := l.map fun z => V.ref z.1
def dat (z : Fq) : PyData := .tuple [.int z.2.1, .int z.2.2]
structure FqAt (H : Hp) (n : Nat) (z : Fq) : Prop where
  at_ : H z.1 = some (.tup [.int z.2.1, .int z.2.2])
  low : IsLow z.2.1 z.2.2
  ta : z.2.1.natAbs ≤ 10 ^ 41 + n
  tb : z.2.2.natAbs ≤ 10 ^ 41 + n
def FrL (H : Hp) (n : Nat) (l : List Fq) : Prop := ∀ z ∈ l, FqAt H n z
theorem FqAt.fr {H H' : Hp} {p : Addr} {n m k : Nat} {z : Fq} (h : FqAt H n z) (B : BoxAt H p m) (f : Fr p H H') (le : n ≤ k) : FqAt H' k z := ⟨f.tup B h.at_, h.low, by have := h.ta; omega, by have := h.tb; omega⟩
theorem FqAt.same {H H' : Hp} {n : Nat} {z : Fq} (h : FqAt H n z) (s : Same H H') : FqAt H' n z := ⟨s _ _ h.at_, h.low, h.ta, h.tb⟩
theorem FrL.fr {H H' : Hp} {p : Addr} {n m k : Nat} {l : List Fq} (h : FrL H n l) (B : BoxAt H p m) (f : Fr p H H') (le : n ≤ k) : FrL H' k l := fun z hz => (h z hz).fr B f le
theorem FrL.same {H H' : Hp} {n : Nat} {l : List Fq} (h : FrL H n l) (s : Same H H') : FrL H' n l := fun z hz => (h z hz).same s
theorem FqAt.wide {H : Hp} {n : Nat} {z : Fq} (h : FqAt H n z) (le : n ≤ 1000) : z.2.1.natAbs < 2 ^ 200 ∧ z.2.2.natAbs < 2 ^ 200 := by
  have h1 := h.ta
  have h2 := h.tb
  have e : 10 ^ 41 + 1000 < 2 ^ 200 := by decide
  omega
theorem refs_len (l : List Fq) : (refs l).length = l.length := List.length_map _
theorem refs_get {l : List Fq} {i : Nat} {z : Fq} (h : l[i]? = some z) : (refs l)[i]? = some (.ref z.1) := by
  unfold refs
  rw [List.getElem?_map, h] <;> rfl
theorem refs_of {l : List Fq} {i : Nat} {x : V} (h : (refs l)[i]? = some x) : ∃ z, l[i]? = some z ∧ x = .ref z.1 := by
  unfold refs at h
  rw [List.getElem?_map] at h
  cases e : l[i]? with
  | none =>
    rw [e] at h
    cases h
  | some z =>
    rw [e] at h
    exact ⟨z, rfl, (Option.some.inj h).symm⟩
theorem dp_pair {K : PySem.W.Frag} {H : Hp} {a : Addr} {t b : Int} (h : H a = some (.tup [.int t, .int b])) : Dp K H (.ref a) (.tuple [.int t, .int b]) := .tup (SqT.of h) (.cons (.int _) (.cons (.int _) .nil))
theorem FrL.dps {K : PySem.W.Frag} {H : Hp} {n : Nat} : ∀ {l : List Fq}, FrL H n l → DpAll K H (refs l) (l.map dat)
  | [], _ => .nil
  | z :: r, h => .cons (dp_pair (h z List.mem_cons_self).at_) (FrL.dps fun y hy => h y (List.mem_cons_of_mem _ hy))
theorem dats_lay (l : List Fq) : PyData.canLayAll0 (l.map dat) = true ∧ PyData.depthAll (l.map dat) ≤ 1 := by
  induction l with
  | nil => exact ⟨rfl, by decide⟩
  | cons z r ih =>
    refine ⟨?_, ?_⟩
    · show (PyData.canLay0 (dat z) && PyData.canLayAll0 (r.map dat)) = true
      rw [ih.1]
      rfl
    · show max (PyData.depth (dat z)) (PyData.depthAll (r.map dat)) ≤ 1
      have e : PyData.depth (dat z) = 1 := rfl
      omega
theorem dats_shaped (l : List Fq) : SeqAt.shaped (.list (l.map dat)) = true := by
  obtain ⟨h1, h2⟩ := dats_lay l
  show (PyData.canLayAll0 (l.map dat) && decide (PyData.depthAll (l.map dat) + 1 ≤ 64)) = true
  rw [h1, decide_eq_true (by omega)] <;> rfl
theorem dats_nil (l : List Fq) : PyData.eqv (.list (l.map dat)) (.list []) = l.isEmpty := by
  cases l <;> rfl
theorem eqv_pair {a b c d : Int} : PyData.eqv (.tuple [.int a, .int b]) (.tuple [.int c, .int d]) = decide (a = c ∧ b = d) := by
  show ((a == c) && ((b == d) && true)) = decide (a = c ∧ b = d)
  rw [Bool.and_true, Bool.decide_and]
  rfl
/-! data of any make beside the box p -/
inductive Da (p : Addr) (H : Hp) : Nat → V → PyData → Prop
  | non (n : Nat) : Da p H (n + 1) .non .none
  | bl (n : Nat) (b : Bool) : Da p H (n + 1) (.bl b) (.bool b)
  | int (n : Nat) (i : Int) : Da p H (n + 1) (.int i) (.int i)
  | str (n : Nat) (x : Str) : Da p H (n + 1) (.str x) (.str x)
  | lst {n : Nat} {a : Addr} {xs : List V} {ds : List PyData} : a ≠ p → H a = some (.lst xs) → xs.length = ds.length → xs.length ≤ 100000 → (∀ (i : Nat) (x : V) (d : PyData), xs[i]? = some x → ds[i]? = some d → Da p H n x d) → Da p H (n + 1) (.ref a) (.list ds)
  | tup {n : Nat} {a : Addr} {xs : List V} {ds : List PyData} : a ≠ p → H a = some (.tup xs) → xs.length = ds.length → xs.length ≤ 100000 → (∀ (i : Nat) (x : V) (d : PyData), xs[i]? = some x → ds[i]? = some d → Da p H n x d) → Da p H (n + 1) (.ref a) (.tuple ds)
theorem Da.fr {p : Addr} {H H' : Hp} (s : Fr p H H') : ∀ {n : Nat} {v : V} {d : PyData}, Da p H n v d → Da p H' n v d := by
  intro n v d h
  induction h with
  | non n => exact .non n
  | bl n b => exact .bl n b
  | int n i => exact .int n i
  | str n x => exact .str n x
  | lst h0 h1 h2 h3 _ ih => exact .lst h0 (s _ _ h0 h1) h2 h3 ih
  | tup h0 h1 h2 h3 _ ih => exact .tup h0 (s _ _ h0 h1) h2 h3 ih
theorem Da.up {p : Addr} {H : Hp} {n m : Nat} {v : V} {d : PyData} (h : Da p H n v d) : n ≤ m → Da p H m v d := by
  intro le
  induction h generalizing m with
  | non n => obtain ⟨k, rfl⟩ : ∃ k, m = k + 1 := ⟨m - 1, by omega⟩; exact .non k
  | bl n b => obtain ⟨k, rfl⟩ : ∃ k, m = k + 1 := ⟨m - 1, by omega⟩; exact .bl k b
  | int n i => obtain ⟨k, rfl⟩ : ∃ k, m = k + 1 := ⟨m - 1, by omega⟩; exact .int k i
  | str n x => obtain ⟨k, rfl⟩ : ∃ k, m = k + 1 := ⟨m - 1, by omega⟩; exact .str k x
  | lst h0 h1 h2 h3 _ ih => obtain ⟨k, rfl⟩ : ∃ k, m = k + 1 := ⟨m - 1, by omega⟩; exact .lst h0 h1 h2 h3 fun i x d a b => ih i x d a b (by omega)
  | tup h0 h1 h2 h3 _ ih => obtain ⟨k, rfl⟩ : ∃ k, m = k + 1 := ⟨m - 1, by omega⟩; exact .tup h0 h1 h2 h3 fun i x d a b => ih i x d a b (by omega)
/-- each of a row is such data -/
def AllDa (p : Addr) (H : Hp) (n : Nat) (xs : List V) : Prop := ∀ x ∈ xs, ∃ d, Da p H n x d
theorem AllDa.fr {p : Addr} {H H' : Hp} {n : Nat} {xs : List V} (h : AllDa p H n xs) (s : Fr p H H') : AllDa p H' n xs := fun x hx => (h x hx).elim fun d q => ⟨d, q.fr s⟩
theorem AllDa.up {p : Addr} {H : Hp} {n m : Nat} {xs : List V} (h : AllDa p H n xs) (le : n ≤ m) : AllDa p H m xs := fun x hx => (h x hx).elim fun d q => ⟨d, q.up le⟩
theorem AllDa.nil {p : Addr} {H : Hp} {n : Nat} : AllDa p H n [] := fun x hx => absurd hx List.not_mem_nil
theorem AllDa.cons {p : Addr} {H : Hp} {n : Nat} {x : V} {xs : List V} (h : ∃ d, Da p H n x d) (t : AllDa p H n xs) : AllDa p H n (x :: xs) := fun y hy => by
  rcases List.mem_cons.mp hy with e | e
  · rw [e]
    exact h
  · exact t y e
theorem AllDa.append {p : Addr} {H : Hp} {n : Nat} {xs ys : List V} (h : AllDa p H n xs) (t : AllDa p H n ys) : AllDa p H n (xs ++ ys) := fun y hy => by
  rcases List.mem_append.mp hy with e | e
  · exact h y e
  · exact t y e
/-- what the datas of a row are -/
theorem AllDa.pick {p : Addr} {H : Hp} {n : Nat} : ∀ {xs : List V}, AllDa p H n xs → ∃ ds : List PyData, xs.length = ds.length ∧ ∀ (i : Nat) (x : V) (d : PyData), xs[i]? = some x → ds[i]? = some d → Da p H n x d
  | [], _ => ⟨[], rfl, fun i x d h => by simp at h⟩
  | x :: xs, h => by
    obtain ⟨d, q⟩ := h x List.mem_cons_self
    obtain ⟨ds, e, r⟩ := AllDa.pick (xs := xs) fun y hy => h y (List.mem_cons_of_mem _ hy)
    refine ⟨d :: ds, by rw [List.length_cons, List.length_cons, e], fun i y c h1 h2 => ?_⟩
    match i, h1, h2 with
    | 0, h1, h2 => cases h1; cases h2; exact q
    | i + 1, h1, h2 => exact r i y c h1 h2
theorem AllDa.tup {p : Addr} {H : Hp} {n : Nat} {xs : List V} {a : Addr} (h : AllDa p H n xs) (ne : a ≠ p) (e : H a = some (.tup xs)) (z : Nat.ble xs.length 100000 = true := by rfl) : ∃ d, Da p H (n + 1) (.ref a) d := by
  obtain ⟨ds, l, r⟩ := h.pick
  exact ⟨_, .tup ne e l (Nat.le_of_ble_eq_true z) r⟩
theorem AllDa.lst {p : Addr} {H : Hp} {n : Nat} {xs : List V} {a : Addr} (h : AllDa p H n xs) (ne : a ≠ p) (e : H a = some (.lst xs)) (z : Nat.ble xs.length 100000 = true := by rfl) : ∃ d, Da p H (n + 1) (.ref a) d := by
  obtain ⟨ds, l, r⟩ := h.pick
  exact ⟨_, .lst ne e l (Nat.le_of_ble_eq_true z) r⟩
theorem daI {p : Addr} {H : Hp} {n : Nat} (i : Int) : ∃ d, Da p H (n + 1) (.int i) d := ⟨_, .int n i⟩
theorem daB {p : Addr} {H : Hp} {n : Nat} (b : Bool) : ∃ d, Da p H (n + 1) (.bl b) d := ⟨_, .bl n b⟩
theorem daS {p : Addr} {H : Hp} {n : Nat} (x : Str) : ∃ d, Da p H (n + 1) (.str x) d := ⟨_, .str n x⟩
theorem daN {p : Addr} {H : Hp} {n : Nat} : ∃ d, Da p H (n + 1) .non d := ⟨_, .non n⟩
theorem AllDa.one {p : Addr} {H : Hp} {n m : Nat} {x : V} (h : ∃ d, Da p H n x d) (le : n ≤ m) : AllDa p H m [x] := .cons (h.elim fun d q => ⟨d, q.up le⟩) .nil
theorem AllDa.two {p : Addr} {H : Hp} {n : Nat} {x y : V} (h : ∃ d, Da p H n x d) (k : ∃ d, Da p H n y d) : AllDa p H n [x, y] := .cons h (.cons k .nil)
theorem da_fr {p : Addr} {H H' : Hp} {n : Nat} {v : V} (h : ∃ d, Da p H n v d) (s : Fr p H H') : ∃ d, Da p H' n v d := h.elim fun d q => ⟨d, q.fr s⟩
theorem da_up {p : Addr} {H : Hp} {n m : Nat} {v : V} (h : ∃ d, Da p H n v d) (le : n ≤ m) : ∃ d, Da p H m v d := h.elim fun d q => ⟨d, q.up le⟩
theorem BoxAt.new {H : Hp} {p a : Addr} {n : Nat} (h : BoxAt H p n) (e : H a = none) : a ≠ p := by
  obtain ⟨o, ho⟩ := h.some
  exact (ne_of_none ho e).symm
/-- an item at a place that is there -/
theorem at_some {xs : List V} {z : Int} (h0 : 0 ≤ z) (h1 : z < (xs.length : Int)) : ∃ v, atI xs z = some v ∧ v ∈ xs := by
  have g : xs[z.toNat]? = some xs[z.toNat] := List.getElem?_eq_getElem (by omega)
  exact ⟨_, at_of (j := z.toNat) (by omega) g, List.getElem_mem _⟩
/-- which kinds of built-in classes a data is of -/
def isTupD : PyData → Bool
  | .tuple _ => true
  | _ => false
def isIntD : PyData → Bool
  | .int _ => true
  | .bool _ => true
  | _ => false
def isBoolD : PyData → Bool
  | .bool _ => true
  | _ => false
def isListD : PyData → Bool
  | .list _ => true
  | _ => false
def isStrD : PyData → Bool
  | .str _ => true
  | _ => false
structure Kinds (K : PySem.W.Frag) (H : Hp) (v : V) (d : PyData) (t : String) : Prop where
  ty : TyX K H v (.type t)
  tup : kitB t "tuple" = some (isTupD d)
  lst : kitB t "list" = some (isListD d)
  int : kitB t "int" = some (isIntD d)
  bool : kitB t "bool" = some (isBoolD d)
  str : kitB t "str" = some (isStrD d)
theorem Da.kinds {K : PySem.W.Frag} {p : Addr} {H : Hp} {n : Nat} {v : V} {d : PyData} (h : Da p H n v d) : ∃ t, Kinds K H v d t := by
  cases h with
  | non => exact ⟨"NoneType", .base .non, by decide +kernel, by decide +kernel, by decide +kernel, by decide +kernel, by decide +kernel⟩
  | bl _ b => exact ⟨"bool", .base (.bl b), by show _ = some false; decide +kernel, by show _ = some false; decide +kernel, by show _ = some true; decide +kernel, by show _ = some true; decide +kernel, by show _ = some false; decide +kernel⟩
  | int _ i => exact ⟨"int", .base (.int i), by show _ = some false; decide +kernel, by show _ = some false; decide +kernel, by show _ = some true; decide +kernel, by show _ = some false; decide +kernel, by show _ = some false; decide +kernel⟩
  | str _ x => exact ⟨"str", .base (.str x), by show _ = some false; decide +kernel, by show _ = some false; decide +kernel, by show _ = some false; decide +kernel, by show _ = some false; decide +kernel, by show _ = some true; decide +kernel⟩
  | lst _ a1 => exact ⟨"list", .base (.lst a1), by show _ = some false; decide +kernel, by show _ = some true; decide +kernel, by show _ = some false; decide +kernel, by show _ = some false; decide +kernel, by show _ = some false; decide +kernel⟩
  | tup _ a1 => exact ⟨"tuple", .base (.tup a1), by show _ = some true; decide +kernel, by show _ = some false; decide +kernel, by show _ = some false; decide +kernel, by show _ = some false; decide +kernel, by show _ = some false; decide +kernel⟩
/-- repr of a truth -/
theorem cr_reprB {X : Cx} : CallR X (.builtin "repr") (fun xs H Q => ∃ b : Bool, xs = [.bl b] ∧ Q (.str (if b = true then "True" else "False")) H) := by
  intro pins s σ H xs us Q I r h
  obtain ⟨b, rfl, q⟩ := h
  cases r with
  | cons r1 r2 =>
    cases r2
    cases r1
    exact PySem.P.repr_of_bool ⟨.str _, H, I.tok _, ⟨_, rfl⟩, q⟩
/-- xs + ys, a new list -/
def rCatI : R2 := fun x y H Q => ∃ l b xs zs, x = .ref l ∧ y = .ref b ∧ H l = some (.lst xs) ∧ H b = some (.lst zs) ∧ xs.length + zs.length ≤ sizeLine ∧ ∀ p H', Same H H' → H p = none → H' p = some (.lst (xs ++ zs)) → Q (.ref p) H'
theorem op_catI {X : Cx} : OpR X (binaryOp .Add) rCatI := fun pins s σ H x y v u Q I rx ry ⟨l, b, xs, zs, e1, e2, h1, h2, z, k⟩ =>
  op_cat pins s σ H x y v u Q I rx ry ⟨l, b, xs, zs, e1, e2, h1, h2, z, fun p hp => k p _ (same_new hp) hp upd_same⟩
/-- a number; a fraction -/
def isNumD (d : PyData) : Bool := isIntD d && !isBoolD d
def isFracD : PyData → Bool
  | .tuple [.int t, .int b] => decide (0 < b) && decide (Nat.gcd t.natAbs b.natAbs = 1)
  | _ => false
theorem frac_no {d e : PyData} (h : isNumD d = false ∨ isNumD e = false) : isFracD (.tuple [d, e]) = false := by
  cases d <;> cases e <;> first | rfl | (rcases h with h | h <;> cases h)
theorem frac_len {ds : List PyData} (h : ds.length ≠ 2) : isFracD (.tuple ds) = false := by
  match ds, h with
  | [], _ => rfl
  | [d], _ => cases d <;> rfl
  | [_, _], h => exact absurd rfl h
  | d :: e :: _ :: _, _ => cases d <;> cases e <;> rfl
theorem num_int {p : Addr} {H : Hp} {n : Nat} {v : V} {d : PyData} (h : Da p H n v d) (k : isNumD d = true) : ∃ i, d = .int i ∧ v = .int i := by
  cases h with
  | int _ i => exact ⟨i, rfl, rfl⟩
  | non => cases k
  | bl => cases k
  | str => cases k
  | lst => cases k
  | tup => cases k
/-- rows of truths as data -/
theorem dps_bools {K : PySem.W.Frag} {H : Hp} : ∀ bs : List Bool, DpAll K H (bs.map V.bl) (bs.map PyData.bool)
  | [] => .nil
  | b :: r => .cons (.bl b) (dps_bools r)
theorem bools_shaped (bs : List Bool) : SeqAt.shaped (.list (bs.map PyData.bool)) = true := by
  have h : PyData.canLayAll0 (bs.map PyData.bool) = true ∧ PyData.depthAll (bs.map PyData.bool) = 0 := by
    induction bs with
    | nil => exact ⟨rfl, rfl⟩
    | cons b r ih =>
      refine ⟨?_, ?_⟩
      · show (PyData.canLay0 (.bool b) && PyData.canLayAll0 (r.map PyData.bool)) = true
        rw [ih.1] <;> rfl
      · show max (PyData.depth (.bool b)) (PyData.depthAll (r.map PyData.bool)) = 0
        rw [ih.2] <;> rfl
  show (PyData.canLayAll0 (bs.map PyData.bool) && decide (PyData.depthAll (bs.map PyData.bool) + 1 ≤ 64)) = true
  rw [h.1, h.2] <;> rfl
theorem take_one {α : Type} {l : List α} {i : Nat} {x : α} (h : l[i]? = some x) : l.take (i + 1) = l.take i ++ [x] := by
  rw [List.take_add_one, h] <;> rfl
end KR
/-! ### texts -/
namespace KR
open PySem PySem.Spec PyProof.Rows L2
theorem strs_of : ∀ {ys : List Str} {us : List Value}, Vals (ys.map V.str) us → StrsAre us ys
  | [], _, .nil => .nil
  | y :: r, _, .cons h t => by
    obtain ⟨k, rfl⟩ := h
    exact .cons y k (strs_of t)
section
variable {X : Cx} {K : PySem.W.Frag}
/-- sep.join(it), it a list walked from its end -/
theorem join_rev {prog : Program} {w : World} {A : Around} {E : Value → Shared → Prop} {s : Shared} {x : Str} {t : Tok} {it l : Addr} {items : Array Value} {ys : List Str} {Q : Value → Shared → Prop} (hh : A.handled = none)
    (hit : s.heap.IsRevIter it l ((items.size : Int) - 1)) (hl : s.heap.IsList l items) (hne : l ≠ it) (hn : items.size ≤ sizeLine)
    (hP : ∀ acc : Array Value, ItemsOf (fun i v => items[items.size - 1 - i]? = some v) acc items.size → StrsAre acc.toList ys) (hok : (ys.map (·.length)).sum + ys.length * x.length ≤ 16777216)
    (hq : ∀ (h' : Heap) (t' k : Nat), (∀ b o, b ≠ it → s.heap.get? b = some o → h'.get? b = some o) → Q (.str (Txt.join x ys) t') { s with heap := h', toks := k }) :
    wpAny (model prog w) A (call (.builtin "str.join") [.str x t, .ref it]) Q E s := by
  apply wpAny_call
  refine codeAny_call_builtin F.slot_str_join.plain F.entry_str_join (F.slot_str_join.check _ _ _ _ _ _ _ _ (typeIs_str _ _ _) (F.args_str_join_2 _ _) ?_)
  rw [join_tree_other]
  refine wpAny_bind (wpAny_typeOf hit.typeIs ?_)
  show wpAny _ A.in1 ((pyIter (.ref it)).tryCatch _ >>= fun j => collect j >>= fun vs => joinTail x vs) _ _ s
  refine wpAny_bind (wpAny_tryCatch (wpAny_pyIter_revIter hit (wpAny_bind (RT.collect_rev (A := A.in1) hh hit hl hne hn fun h' tk acc hk hacc => ?_))))
  obtain ⟨ps, e1, e2⟩ := strsAre_values (hP acc hacc)
  subst e2
  rw [e1]
  have fits := joinOk_of hok
  unfold JoinOk at fits
  rw [Bool.not_eq_true'] at fits
  have g : Gives (joinTail x (strValues ps)) (joinMade x ps) := by
    have g0 := gives_joinTail x ps fits
    rcases ps with _ | ⟨a, _ | ⟨b, r⟩⟩ <;> exact g0
  exact g prog w A (wants Q E) { s with heap := h', toks := tk } (post_join ps ⟨joinFit_length fits, fun t' k => hq h' t' k hk⟩)
/-- sep.join(reversed(xs)), xs a list of texts -/
def tJoinRev (K : PySem.W.Frag) (to te : TE) : TE := fun σ H Q => to σ H fun x H1 => (∃ a, x = .str a) ∧ te σ H1 fun v H2 => ∃ (a : Str) (q : Addr) (ys : List Str), x = .str a ∧ v = .ref q ∧ SqL K H2 q (ys.map V.str) ∧ (ys.map (·.length)).sum + ys.length * a.length ≤ 16777216 ∧ Q (.str (Txt.join a ys.reverse)) H2
theorem sum_rev (l : List Nat) : l.reverse.sum = l.sum := by
  induction l with
  | nil => rfl
  | cons a r ih =>
    rw [List.reverse_cons, List.sum_append, ih, List.sum_cons, List.sum_cons, List.sum_nil]
    omega
theorem pe_joinRev {o e : Expr} {to te : TE} {apos pos p pos2 : Pos} (hK : X.K = K) (hc : X.calm = true) (hg : Gl X "reversed") (hm : X.mg "reversed" = none) (ho : PE X o to) (he : PE X e te)
    (hs1 : starEach [.Call (.Name "reversed" p) [e] [] pos2] X.env = [(false, eval (.Call (.Name "reversed" p) [e] [] pos2) X.env)] := by rfl) (hs : starEach [e] X.env = (false, eval e X.env) :: starEach [] X.env := by rfl)
    (hbase : attributeBase o "join" X.env (eval o X.env) = eval o X.env := by rfl) (hline : (apos.endLine == pos.line) = true := by rfl) :
    PE X (.Call (.Attribute o "join" apos) [.Call (.Name "reversed" p) [e] [] pos2] [] pos) (tJoinRev K to te) := by
  subst hK
  constructor
  intro pins s σ H Q I want
  refine PySem.Call_method1 hbase hs1 hline (thn (ho.run pins s σ H _ I want) ?_)
  rintro v s1 ⟨x, H1, I1, r1, ⟨a, rfl⟩, q1⟩
  obtain ⟨t, rfl⟩ : ∃ t, v = Value.str a t := r1
  refine ⟨"str", "str.join", F.plainAttrs_str, F.slot_str_join, F.type_str_join, typeIs_str _ _ _, nofun, Calls.callWith_builtin rfl (Calls.evalArgs_plain (Calls.spliced_cons ?_))⟩
  refine Call_ (ld_blt I1 hg hm PyProof.Rows.boot_reversed (PyProof.Rows.callWith_type1 (args_cons (thn (he.run pins s1 σ H1 _ I1 q1) ?_) hs) hs rfl))
  rintro u s2 ⟨y, H2, I2, r2, a', q, ys, ea, rfl, hq, hz, k⟩
  cases ea
  cases r2
  obtain ⟨its, rv, pl, hsz⟩ := I2.list hq
  refine args_nil (call_reversed_list pl.isList (Calls.spliced_nil ?_))
  have old : ∀ b o, s2.heap.get? b = some o → (s2.heap.push (revObj q ((its.toArray.size : Int) - 1))).get? b = some o := fun b o g => Heap.get?_push_of_some _ g
  obtain ⟨oq, hoq, _⟩ := id pl.isList
  have neq : q ≠ s2.heap.objs.size := Nat.ne_of_lt (Heap.lt_size hoq)
  have len : its.toArray.size ≤ sizeLine := by rw [List.size_toArray, ← rv.length]; exact hsz
  refine join_rev (s := { s2 with heap := s2.heap.push (revObj q ((its.toArray.size : Int) - 1)) }) (ys := ys.reverse) (I2.ok.hd hc) ⟨_, Heap.get?_push_size _ rfl, rfl, rfl⟩ (pl.isList.push _) neq len (fun acc hacc => strs_of ?_) ?_ fun h' t' k' keep => ?_
  · rw [List.map_reverse]
    exact RT.vals_rev rv hacc
  · rw [List.map_reverse, sum_rev, List.length_reverse]
    exact hz
  · exact ⟨.str _, H2, I2.kept (t' := k') (fun b o g => keep b o (Nat.ne_of_lt (Heap.lt_size g)) (old b o g)), ⟨t', rfl⟩, k⟩
end
/-! texts as rows of codes -/
abbrev S (l : List Nat) : Str := ⟨l.toArray⟩
theorem tl_S (l : List Nat) : TL.tl (S l) = l := rfl
theorem S_tl (x : Str) : S (TL.tl x) = x := TL.mk_tl x
theorem S_len (l : List Nat) : (S l).length = l.length := by rw [TL.len_tl]
theorem S_app (l m : List Nat) : S l ++ S m = S (l ++ m) := TL.ext_tl (by rw [TL.tl_append])
theorem S_inj {l m : List Nat} (h : S l = S m) : l = m := congrArg TL.tl h
theorem lit_minus : ("-" : Str) = S [45] := by decide +kernel
theorem lit_stroke : ("/" : Str) = S [47] := by decide +kernel
theorem lit_one : ("1" : Str) = S [49] := by decide +kernel
theorem lit_zero : ("0" : Str) = S [48] := by decide +kernel
theorem lit_none : ("" : Str) = S [] := by decide +kernel
theorem lit_empty : Str.empty = S [] := by decide +kernel
theorem lit_digits : ("0123456789" : Str) = S [48, 49, 50, 51, 52, 53, 54, 55, 56, 57] := by decide +kernel
theorem num_S (n : Nat) : Str.ofString (toString ((n : Nat) : Int)) = S (TL.numL n) := TL.ext_tl (TL.tl_num n)
theorem numL_cut (n : Nat) : TL.numL n = (if n / 10 = 0 then [] else TL.numL (n / 10)) ++ [48 + n % 10] := by
  by_cases h : n < 10
  · rw [TL.numL_lt h, if_pos (by omega), show n % 10 = n by omega] <;> rfl
  · rw [TL.numL_step (by omega), if_neg (by omega)]
theorem dig_at {k : Int} (h0 : 0 ≤ k) (h1 : k < 10) : atI ("0123456789" : Str).cps.toList k = some (48 + k.toNat) := by
  rw [lit_digits]
  have ks : k = 0 ∨ k = 1 ∨ k = 2 ∨ k = 3 ∨ k = 4 ∨ k = 5 ∨ k = 6 ∨ k = 7 ∨ k = 8 ∨ k = 9 := by omega
  rcases ks with e | e | e | e | e | e | e | e | e | e <;> subst e <;> rfl
theorem lit_len : ("0123456789" : Str).length ≤ sizeLine := by decide +kernel
/-- text times a number from 0 -/
theorem op_mul_str {X : Cx} : OpR X (binaryOp .Mult) (fun x y H Q => ∃ (a : Str) (n : Nat), x = .str a ∧ y = .int (n : Int) ∧ a.length * n ≤ 100000 ∧ n ≤ 100000 ∧ Q (.str (Txt.mul a n)) H) := by
  intro pins s σ H x y v u Q I rx ry h
  obtain ⟨a, n, rfl, rfl, hz, hn, q⟩ := h
  obtain ⟨t, rfl⟩ := rx
  obtain ⟨t', rfl⟩ := ry
  refine SB.mul ⟨?_, fun h1 h2 => ?_, fun h1 h2 => ?_⟩ fun t2 k => ⟨.str _, H, I.tok _, ⟨_, rfl⟩, q⟩
  · rw [decide_eq_false (by omega), decide_eq_false (by omega)] <;> rfl
  · have n1 : (1 : Int) ≤ (n : Int) := by omega
    intro bad
    have b2 : ((2 ^ 63 - 1 : Int)) / (n : Int) ≥ (2 ^ 63 - 1 : Int) / 100000 := by
      refine Int.le_ediv_of_mul_le (by omega) ?_
      have e : (2 ^ 63 - 1 : Int) / 100000 * (n : Int) ≤ (2 ^ 63 - 1 : Int) / 100000 * 100000 := Int.mul_le_mul_of_nonneg_left (by omega) (by decide)
      exact Int.le_trans e (by decide)
    have a9 : a.length ≤ 100000 := by
      have : a.length * 1 ≤ a.length * n := Nat.mul_le_mul_left _ (by omega)
      omega
    have e3 : (2 ^ 63 - 1 : Int) / 100000 = 92233720368547 := by decide
    omega
  · rw [Int.toNat_natCast]
    exact decide_eq_false (by have := small hz; omega)
theorem mul_zero (a : Str) : Txt.mul a ((0 : Nat) : Int) = S [] := by
  unfold Txt.mul
  rw [if_pos (by decide), lit_empty]
theorem mul_one (a : Str) : Txt.mul a ((1 : Nat) : Int) = a := by
  unfold Txt.mul
  rw [if_neg (by decide), if_pos (by rfl)]
/-- a minus ahead, cut off -/
theorem sub_minus (l : List Nat) : Builtin.Str.subAt (S l) (S [45]) 0 = (l.head? == some 45) := by
  unfold Builtin.Str.subAt
  rcases l with _ | ⟨c, r⟩
  · rfl
  · have e : ((S (c :: r)).cps.extract 0 (0 + (S [45]).length)) = #[c] := by
      apply Array.toList_inj.mp
      rw [Array.toList_extract]
      rfl
    rw [e]
    show (#[c] == #[45]) = (some c == some 45)
    by_cases h : c = 45
    · subst h
      rfl
    · have e2 : (some c == some 45) = false := by
        rw [beq_eq_false_iff_ne]
        exact fun z => h (Option.some.inj z)
      rw [e2, beq_eq_false_iff_ne]
      intro z
      exact h (by have := congrArg (fun a => a[0]?) z; simpa using this)
theorem prefix_minus (l : List Nat) : Txt.removeprefix (S l) (S [45]) = S (if l.head? = some 45 then l.tail else l) := by
  unfold Txt.removeprefix
  rw [sub_minus]
  by_cases h : l.head? = some 45
  · rw [if_pos h, if_pos (by rw [h] <;> rfl)]
    rcases l with _ | ⟨c, r⟩
    · cases h
    · show (if ((S (c :: r)).length - (S [45]).length == (S (c :: r)).length) = true then S (c :: r) else Builtin.Str.strSub (S (c :: r)) (S [45]).length (S (c :: r)).length) = S r
      have e1 : (S (c :: r)).length = r.length + 1 := by rw [S_len] <;> rfl
      have e2 : (S [45]).length = 1 := rfl
      rw [if_neg (by rw [e1, e2, beq_iff_eq]; omega)]
      apply TL.ext_tl
      show ((S (c :: r)).cps.extract (S [45]).length (S (c :: r)).length).toList = r
      rw [Array.toList_extract, e1, e2]
      show List.take (r.length + 1 - 1) (List.drop 1 (c :: r)) = r
      rw [Nat.add_sub_cancel]
      exact List.take_length
  · rw [if_neg h, if_neg (by rw [beq_iff_eq]; exact h)]
    rfl
theorem starts_minus (l : List Nat) : Txt.startswith (S l) (S [45]) = (l.head? == some 45) := by
  unfold Txt.startswith
  rw [sub_minus]
  rcases l with _ | ⟨c, r⟩
  · rfl
  · rw [decide_eq_true (show 0 + (S [45]).length ≤ (S (c :: r)).length by rw [S_len, S_len]; show 0 + 1 ≤ r.length + 1; omega), Bool.true_and]
/-- one to so many figures -/
def figs (l : List Nat) : Bool := !l.isEmpty && l.all fun c => decide (48 ≤ c) && decide (c ≤ 57)
theorem ascii_S (l : List Nat) : Txt.isascii (S l) = l.all (· < 128) := by
  unfold Txt.isascii
  rw [← Array.all_toList]
theorem dig_code : ∀ c, c < 128 → Unicode.isDigit c = (decide (48 ≤ c) && decide (c ≤ 57)) := by decide +kernel
theorem digit_S {l : List Nat} (h : l.all (· < 128) = true) : Txt.isdigit (S l) = figs l := by
  unfold Txt.isdigit figs
  rw [← Array.all_toList, S_len]
  have e1 : decide (l.length > 0) = !l.isEmpty := by
    cases l <;> rfl
  have e2 : l.all Unicode.isDigit = l.all fun c => decide (48 ≤ c) && decide (c ≤ 57) := by
    rw [List.all_eq_true] at h
    clear e1
    induction l with
    | nil => rfl
    | cons c r ih =>
      rw [List.all_cons, List.all_cons, ih fun x hx => h x (List.mem_cons_of_mem _ hx), dig_code c (of_decide_eq_true (h c List.mem_cons_self))]
  rw [e1]
  exact congrArg _ e2
theorem figs_ascii {l : List Nat} (h : figs l = true) : l.all (· < 128) = true := by
  unfold figs at h
  rw [Bool.and_eq_true] at h
  have h3 := List.all_eq_true.mp h.2
  rw [List.all_eq_true]
  intro c hc
  have := h3 c hc
  rw [Bool.and_eq_true] at this
  have h2 := of_decide_eq_true this.2
  exact decide_eq_true (by omega)
theorem figs_num (n : Nat) : figs (TL.numL n) = true := by
  unfold figs
  rw [Bool.and_eq_true]
  refine ⟨?_, ?_⟩
  · have := TL.numL_ne n
    cases e : TL.numL n with
    | nil => exact absurd e this
    | cons _ _ => rfl
  · rw [List.all_eq_true]
    intro c hc
    have := TL.numL_digits n c hc
    rw [decide_eq_true this.1, decide_eq_true this.2] <;> rfl
theorem figs_int {l : List Nat} (h : figs l = true) (z : l.length ≤ 600) : PySem.intText? (S l) = some ((NumText.digitsVal l : Nat) : Int) := by
  unfold figs at h
  rw [Bool.and_eq_true] at h
  have d : NumText.AllDigits l := fun c hc => by
    have := List.all_eq_true.mp h.2 c hc
    rw [Bool.and_eq_true] at this
    exact ⟨of_decide_eq_true this.1, of_decide_eq_true this.2⟩
  have ne : l ≠ [] := by
    intro e
    rw [e] at h
    exact Bool.noConfusion h.1
  exact PySem.intText_digits (x := S l) d ne (by rw [S_len]; omega)
/-- a fraction's text -/
def fracL (t b : Int) : List Nat := (if t < 0 then [45] else []) ++ (TL.numL t.natAbs ++ (if b = 1 then [] else 47 :: TL.numL b.natAbs))
/-- ahead of the first stroke, whether there is one, behind it -/
def cutL : List Nat → List Nat × Bool × List Nat
  | [] => ([], false, [])
  | c :: r => if c = 47 then ([], true, r) else (c :: (cutL r).1, (cutL r).2)
theorem cut_app {a b : List Nat} (h : 47 ∉ a) : cutL (a ++ 47 :: b) = (a, true, b) := by
  induction a with
  | nil => rfl
  | cons c r ih =>
    have hc : c ≠ 47 := fun e => h (by rw [e]; exact List.mem_cons_self)
    have ih' := ih fun m => h (List.mem_cons_of_mem _ m)
    show (if c = 47 then _ else (c :: (cutL (r ++ 47 :: b)).1, (cutL (r ++ 47 :: b)).2)) = _
    rw [if_neg hc, ih']
theorem cut_none {a : List Nat} (h : 47 ∉ a) : cutL a = (a, false, []) := by
  induction a with
  | nil => rfl
  | cons c r ih =>
    have hc : c ≠ 47 := fun e => h (by rw [e]; exact List.mem_cons_self)
    have ih' := ih fun m => h (List.mem_cons_of_mem _ m)
    show (if c = 47 then _ else (c :: (cutL r).1, (cutL r).2)) = _
    rw [if_neg hc, ih']
/-- either no stroke, or the first one -/
theorem cut_ways (l : List Nat) : (47 ∉ l ∧ cutL l = (l, false, [])) ∨ ∃ a b, l = a ++ 47 :: b ∧ 47 ∉ a ∧ cutL l = (a, true, b) := by
  by_cases h : 47 ∈ l
  · obtain ⟨a, b, e, n⟩ := List.eq_append_cons_of_mem h
    exact .inr ⟨a, b, e, n, by rw [e]; exact cut_app n⟩
  · exact .inl ⟨h, cut_none h⟩
end KR
/-! ### defs that ask repr: no repr is under way around them -/
namespace KR
open PySem PySem.Spec PyProof.Rows L2
section
variable {P : Program} {w : World} {K : PySem.W.Frag} {mg : Str → Option Value} {base : Heap}
structure FnG (P : Program) (w : World) (K : PySem.W.Frag) (mg : Str → Option Value) (base : Heap) (k : Nat) (f : Addr) (fd : FuncData) (ps : List Str) (sp : Sp) : Prop where
  many : ∀ vs H Q E, sp vs H Q E → vs.length = ps.length
  does : ∀ (A : Around) (outer : List Env) (s : Shared) (H : Hp) (args : Args) (us : List Value) (vs : List V) (Q : VK) (E : XK), Room k A → A.guards = some [] → Env0 P w K mg base A outer s H → BindsTo s fd args (ps.zip us) → Vals vs us →
    sp vs H Q E → codeAny (model P w) A (.call (.ref f) args) (CR CX0 outer P w H s Q E) s
/-- the end of a def's body is the end of its call -/
theorem body_end {N : List Str} {qual : Str} {sc : Scope} {f : Addr} {cdv : Value} {A : Around} {outer : List Env} {s s' : Shared} {H : Hp} {Q : VK} {E : XK} {fl : Flow}
    (h : SP (cxOf CX0 P w K mg base N qual sc f cdv A outer s H E) [] { nx := fun _ H' => Q .non H', rt := Q } fl s') : CR CX0 outer P w H s Q E (.ok (.ret (match fl with | .ret u => u | _ => .none))) s' ∧ (∀ u, fl = .ret u ∨ fl = .next ∨ fl = .brk ∨ fl = .cont → True) ∧ fl ≠ .brk ∧ fl ≠ .cont := by
  cases fl <;> simp only [SP] at h
  case next => obtain ⟨_, H', J, q⟩ := h; exact ⟨⟨V.non, H', J.os, J.bare, J.base, J.hok, rfl, q⟩, fun _ _ => trivial, nofun, nofun⟩
  case ret u => obtain ⟨v, _, H', J, rv, q⟩ := h; exact ⟨⟨v, H', J.os, J.bare, J.base, J.hok, rv, q⟩, fun _ _ => trivial, nofun, nofun⟩
  case brk => exact absurd h.choose_spec.choose_spec.2 id
  case cont => exact absurd h.choose_spec.choose_spec.2 id
theorem okG {x qual : Str} {st : Stmt} {f : Addr} {fd : FuncData} {N ps : List Str} {k : Nat} {sp : Sp} (F : Fun K x qual st f fd) (S : FnScope N ps (defScope st)) (many : ∀ vs H Q E, sp vs H Q E → vs.length = ps.length)
    (body : ∀ (cdv : Value) (A : Around) (outer : List Env) (s : Shared) (H : Hp) (vs : List V) (Q : VK) (E : XK), Room k (A.deeper (envOfC qual (defScope st) s.heap.objs.size f cdv)) → A.guards = some [] → sp vs H Q E →
      ∃ t, PSs (cxOf CX0 P w K mg base N qual (defScope st) f cdv A outer s H E).nox (defBody st) t ∧ t { nx := fun _ H' => Q .non H', rt := Q } (start N vs) H) : FnG P w K mg base (k + 1) f fd ps sp := by
  obtain ⟨_, _, _, _, _, _, cdv, _, _, rfl, lk, hcd⟩ := F.ex
  refine ⟨many, ?_⟩
  intro A outer s H args us vs Q E hr hg e0 hb rv hsp
  obtain ⟨t, ht, hq⟩ := body cdv A outer s H vs Q E (hr.deeper _) hg hsp
  have inK : K.In s.heap := e0.mod.kin.keeps fun b o q => (e0.bs b o q).1
  apply codeAny_call_function hr.depth (inK _ _ lk) rfl S.co S.gen rfl (PySem.W.codeRec_of inK hcd)
  refine hb _ _ _ _ (wpAny_newFunctionEnv_cells S.kind ?_ ?_)
  · rintro ⟨n, v⟩ hy
    exact (S.par n (List.of_mem_zip hy).1).imp id fun q => ⟨q, PySem.W.cellsFrom_some _ _ _ (Or.inl q)⟩
  · rintro env rfl s1 made
    refine ⟨(e0.mod.nolimit.keeps fun b o q => (e0.bs b o q).1).keeps made.toInCall.keep, codeAny_func ?_⟩
    have I := inv_start (CX := CX0) (E := E) S hr.hd e0 (many _ _ _ _ hsp) rv made
    refine wpAny_mono (ht.nox.run [] s1 (start N vs) H _ I hq) (fun fl s' hs => ?_) fun _ _ z => z
    obtain ⟨r, _, n1, n2⟩ := body_end hs
    cases fl with
    | next => exact r
    | ret u => exact r
    | brk => exact absurd rfl n1
    | cont => exact absurd rfl n2
end
section
variable {X : Cx} {k : Nat} {f : Addr} {fd : FuncData} {ps : List Str} {sp : Sp} {ds : List Value} {dvs : List V} {E : XK} {x : Str} {p pos : Pos} {e : Expr} {es : List Expr} {t : TA}
/-- a call of such a def, where no repr is under way -/
theorem pe_callG (F : FnG X.prog X.w X.K X.mg X.base k f fd ps sp) (room : Room k X.A) (calm : X.A.guards = some []) (glob : Gl X x) (at_ : X.mg x = some (.ref f)) (keep : PySem.W.keepIn X.K (.ref f) = true) (binds : Binds X.K fd ps ds) (dflt : Vals dvs ds) (pass : Passes CX0 X E)
    (args : PA X (e :: es) t) (nd : (x == ("__debug__" : Str)) = false := by decide) (he : starEach (e :: es) X.env = (false, eval e X.env) :: starEach es X.env := by rfl) (hpl : (backTo pos (starEach es X.env)).any (·.1) = false := by rfl) :
    PE X (.Call (.Name x p) (e :: es) [] pos) (tCall sp dvs E t) := by
  constructor
  intro pins s σ H Q I want
  refine wpAny_Call_Name_kw (ld_glob I glob at_ (PySem.W.callWith_K (h₀ := X.base) I.ok.mod.kin keep (thn (args.run pos pins s σ H _ I want) ?_) he hpl) nd)
  rintro us s1 ⟨vs, H1, I1, r, q⟩
  have many := F.many _ _ _ _ q
  have both : Vals (vs ++ dvs) (us ++ ds) := r.append dflt
  refine ⟨I1.kIn, wpAny_call (codeAny_mono (F.does X.A X.stack s1 H1 ⟨us, []⟩ _ _ Q E room calm I1.env0 (binds s1 us I1.kIn (both.length ▸ many)) both q) ?_)⟩
  intro r s' post
  match r, post with
  | .error e, post => exact pass pins σ H1 s1 e s' I1 post
  | .ok (.ret u), post => exact I1.after post
  | .ok .next, post => exact post.elim
  | .ok .brk, post => exact post.elim
  | .ok .cont, post => exact post.elim
end
/-- a def that asks no repr is one -/
theorem FnG.of {P : Program} {w : World} {K : PySem.W.Frag} {mg : Str → Option Value} {base : Heap} {k : Nat} {f : Addr} {fd : FuncData} {ps : List Str} {sp : Sp} (F : FnOk P w K mg base CX0 k f fd ps sp) : FnG P w K mg base k f fd ps sp :=
  ⟨F.len, fun A outer s H args us vs Q E hr _ => F.run A outer s H args us vs Q E hr⟩
/-- repr of data that is no text -/
def rReprD (K : PySem.W.Frag) : List V → Hp → VK → Prop := fun xs H Q => ∃ (a : Addr) (d : PyData), xs = [.ref a] ∧ Dp K H (.ref a) d ∧ d.showable = true ∧ d.hasDict = false ∧ d.depth ≤ 60 ∧ d.shown.length ≤ sizeLine ∧ Q (.str d.shown) H
theorem cr_reprD {X : Cx} (hg : X.A.guards = some []) (hu : X.A.units + 64 < cLine) : CallR X (.builtin "repr") (rReprD X.K) := by
  intro pins s σ H xs us Q I r h
  obtain ⟨a, d, rfl, dp, sh, nd, dd, sz, q⟩ := h
  cases r with
  | cons r1 r2 =>
    cases r2
    cases r1
    obtain ⟨as, rd⟩ := Dp.reads I d _ _ dp rfl
    exact repr_of_reads' rd sh (PyData.noDict_hsm nd) hg (by omega) (fun _ _ e => e) (fun h' u tk hk => ⟨.str _, H, I.kept (fun b o e => hk b o e), ⟨_, rfl⟩, q⟩) sz
theorem cr_reprDK {X : Cx} {K : PySem.W.Frag} (h : X.K = K) (hg : X.A.guards = some []) (hu : X.A.units + 64 < cLine) : CallR X (.builtin "repr") (rReprD K) := h ▸ cr_reprD hg hu
section
variable {P : Program} {w : World} {K : PySem.W.Frag} {mg mb : Str → Option Value} {k : Nat} {fa a : Addr} {fd : FuncData} {x : Str} {sp : Sp} {s₁ : Shared} {vs : List Value} {ns : List Int}
/-- what is tracked when the law is called: the script, unless the module itself made it -/
def scr (K : PySem.W.Frag) (a : Addr) (ob : Obj) (ns : List Int) : Hp := fun b => if b = a ∧ K.lookup a = none then some (.frz ob (.lst (ns.map V.int))) else none
theorem scr_some {ob : Obj} {b : Addr} {u : HO} (h : scr K a ob ns b = some u) : b = a ∧ K.lookup a = none ∧ u = .frz ob (.lst (ns.map V.int)) := by
  unfold scr at h
  split at h
  · rename_i c
    exact ⟨c.1, c.2, (Option.some.inj h).symm⟩
  · cases h
theorem call_law (inK : K.In s₁.heap) (gl : s₁.heap.Ns mainGlobals mg) (bl : s₁.heap.Ns builtinsNs mb) (boot : ∀ x : Str, x ≠ "__name__" → mb x = bootBuiltins x) (lim : s₁.heap.NoLimit) (quiet : s₁.gens = #[])
    (there : s₁.heap.get? a = some { cls := .type "list", data := .seq vs.toArray }) (areInts : IntsAre vs ns) (len : ns.length ≤ sizeLine) (room : Room k callerA)
    (F : ∀ base : Heap, K.In base → base.Ns mainGlobals mg → FnG P w K mg base k fa fd [x] sp) (binds : ∀ (s : Shared) (u : Value), BindsTo s fd ⟨[u], []⟩ [(x, u)])
    (asked : ∀ H : Hp, Only H → SqL K H a (ns.map V.int) → sp [.ref a] H (fun v _ => v = .bl true) fun _ _ _ => False) :
    codeAny (model P w) callerA (.call (.ref fa) ⟨[.ref a], []⟩) (fun r s' => r = .ok (.ret (.bool true)) ∧ OldK s₁.heap s'.heap ∧ s'.os = s₁.os ∧ AllBare s'.gens) s₁ := by
  let ob : Obj := { cls := .type "list", data := .seq vs.toArray }
  let H := scr K a ob ns
  have at_ : ∀ {b u}, H b = some u → b = a ∧ K.lookup a = none ∧ u = .frz ob (.lst (ns.map V.int)) := scr_some
  have no : ∀ b o, s₁.heap.get? b = some o → (∀ q, o ≠ { cls := .type "list", data := .seq q }) → H b = none := fun b o e d => by
    cases c : H b with
    | none => rfl
    | some u =>
      obtain ⟨rfl, _⟩ := at_ c
      exact absurd (Option.some.inj (e.symm.trans there)) (d _)
  have keepNs : ∀ {b : Addr} {m : Str → Option Value}, s₁.heap.Ns b m → (hidT s₁.heap H).Ns b m := fun {b m} ⟨o, es, ep, e, d, r⟩ =>
    ⟨o, es, ep, hidT_get e (no b o e fun q z => by rw [z] at d; cases d), d, r⟩
  have keepK : K.In (hidT s₁.heap H) := fun b o e => hidT_get (inK b o e) (by
    cases c : H b with
    | none => rfl
    | some u =>
      obtain ⟨rfl, n, _⟩ := at_ c
      rw [n] at e
      cases e)
  have rel := vals_ints areInts
  have holds : HOk P w H s₁.heap := fun b u c => by
    obtain ⟨rfl, _, rfl⟩ := at_ c
    exact ⟨there, by rw [List.length_map]; exact len, vs, _, rel, there⟩
  have only : Only H := fun b => by
    cases c : H b with
    | none => exact Or.inl rfl
    | some u => exact Or.inr ⟨ob, _, by rw [(at_ c).2.2]⟩
  have script : SqL K H a (ns.map V.int) := by
    cases c : K.lookup a with
    | none => exact Or.inl (Or.inr ⟨ob, if_pos ⟨rfl, c⟩⟩)
    | some o =>
      have e := Option.some.inj ((inK a o c).symm.trans there)
      subst e
      exact Or.inr ⟨_, vs.toArray, _, c, rfl, rfl, rfl, by rw [List.size_toArray, areInts.length]; exact len, by simpa using rel⟩
  have modul : Mod K mg (hidT s₁.heap H) := ⟨keepK, keepNs gl, ⟨mb, keepNs bl, boot⟩, lim.elim fun mc z => ⟨mc, keepNs z.1, z.2⟩⟩
  have start0 : Env0 P w K mg (hidT s₁.heap H) callerA [] s₁ H := ⟨rfl, modul, fun b o e => of_hidT e, Nat.le_of_eq (hidT_size _ _), trivial, fun b hb => (List.not_mem_nil hb).elim, holds, .of_eq quiet⟩
  refine codeAny_mono ((F _ keepK (keepNs gl)).does callerA [] s₁ H _ [.ref a] [.ref a] _ _ room rfl start0 (binds s₁ (.ref a)) (.cons rfl .nil) (asked H only script)) ?_
  intro r s' post
  match r, post with
  | .error e, post => exact False.elim post
  | .ok .next, post => exact post.elim
  | .ok .brk, post => exact post.elim
  | .ok .cont, post => exact post.elim
  | .ok (.ret u), ⟨v, H', os, bare, un, held, rv, e⟩ =>
    cases (show v = V.bl true from e)
    cases (show u = Value.bool true from rv)
    refine ⟨rfl, OldK.of_keep fun b o g => ?_, os, bare⟩
    cases c : H b with
    | none => exact un.keep b o g c (fun z => (List.not_mem_nil z).elim) (fun z => (List.not_mem_nil z).elim)
    | some u =>
      obtain ⟨rfl, _, rfl⟩ := at_ c
      rw [Option.some.inj (g.symm.trans there)]
      exact (held b _ (un.frzs b ob _ c)).1
end
/-- the goal that is left of a law whose defs ask repr -/
theorem walk_ofG {l : PySem.W.OpenLaw} {n k : Nat} {q : Program} {loose : List Str} {XP : (Str → Option Value) → Heap → Prop} {YP : World → Heap → Prop} {d : DefRec} {K : Params → PySem.W.Frag} {sp : World → Sp} {x : Str}
    (most : l.most = some n) (n9 : n ≤ sizeLine) (nodf : d.params.defaults = []) (room : Room k callerA) (inK : ∀ (w : World) (h : Heap), YP w h → (K w.params).In h)
    (F : ∀ (w : World) (mg : Str → Option Value) (fa : Addr) (h : Heap), (K w.params).In h → h.Ns mainGlobals mg → mg d.name = some (.ref fa) →
      ∃ fd : FuncData, (∀ (s : Shared) (u : Value), BindsTo s fd ⟨[u], []⟩ [(x, u)]) ∧ ∀ base : Heap, (K w.params).In base → base.Ns mainGlobals mg → FnG l.prog w (K w.params) mg base k fa fd [x] (sp w))
    (asked : ∀ (w : World) (H : Hp) (a : Addr) (ns : List Int), ns.length ≤ n → Only H → SqL (K w.params) H a (ns.map V.int) → sp w [.ref a] H (fun v _ => v = .bl true) fun _ _ _ => False) :
    PySem.W.WalkO q loose XP YP l.row.toRowW d [] (fun f vs => PySem.call f vs) :=
  Att.attach_call most nodf fun w s₀ s₁ mg mb fa o pm cd doc a vs ns G Y ho hd hcd hmg hobj hints hlen hg => by
    obtain ⟨fd, b, f⟩ := F w mg fa _ (inK w _ Y) G.T.g hmg
    exact call_law (inK w _ Y) G.T.g G.T.b G.T.builtins G.T.nolimit hg hobj hints (Nat.le_trans hlen n9) room f b fun H only sc => asked w H a ns hlen only sc
end KR
/-! ### all(test for x in ..): the generator expression's own frame, its test read like a def's body -/
namespace KR
open PySem PySem.Spec PyProof.Rows L2
/-- the frame's scope: one name of its own, nothing captured -/
structure GnS (scope : Scope) (x : Str) : Prop where
  kind : scope.kind = .function
  co : scope.isCoroutine = false
  cell : ∀ y ∈ scope.names, y.2 ≠ .cell
  free : ∀ y ∈ scope.names, y.2 ≠ .free
  dot : scope.names.lookup (".0" : Str) = some NameKind.local
  loc : scope.names.lookup x = some .local
/-- the frame's environment, its around -/
abbrev gEnv (X : Cx) (scope : Scope) (C : Addr) (code : Value) : Env := genEnv scope [] C code builtinsNs X.env
abbrev gAr (X : Cx) (ge : Expr) (it : Addr) (env : Env) : Around := X.A.in1.in1.over (.compLoop ge 0 (.ref it) .none env) []
/-- the frame's context: it began at s, H; fp: what is walked -/
abbrev gCx (X : Cx) (ge : Expr) (it : Addr) (x : Str) (s : Shared) (H : Hp) (env : Env) (fp : List Addr) : Cx :=
  { prog := X.prog, w := X.w, K := X.K, mg := X.mg, base := X.base, A := gAr X ge it env, N := [x], s_0 := s, H_0 := H, env := env, outer := X.stack, stack := env :: X.stack, ex := fp, fn := fun _ => false, calm := true, pn := [], xe := fun _ _ => False }
section
variable {X : Cx} {pins : List (Addr × Obj)} {σ : L2.St} {H : Hp} {s : Shared}
theorem inv_gens {g' : Array GenState} (I : Inv X pins σ H s) (hg : AllBare g') : Inv X pins σ H { s with gens := g' } :=
  I.call (h' := s.heap) (g' := g') (t' := s.toks) (d' := s.drawn) (ch := []) Un.refl I.hok hg fun b z => absurd z List.not_mem_nil
theorem bare_set {a : Array GenState} {g : Nat} {x : GenState} (h : AllBare a) (hx : x.bare = true) : AllBare (a.setIfInBounds g x) := fun y hy => by
  rcases Array.mem_or_eq_of_mem_setIfInBounds hy with z | z
  · exact h y z
  · rw [z]
    exact hx
theorem inv_setGen {g : Nat} {x : GenState} (I : Inv X pins σ H s) (hx : x.bare = true) : Inv X pins σ H (s.setGen g x) := inv_gens I (bare_set I.bare hx)
theorem room_gen {k : Nat} (r : Room (k + 1) X.A) {elt : Expr} {cs : List Comprehension} {sc : Scope} {p : Pos} {it : Addr} {env : Env} : Room k (gAr X (.GeneratorExp elt cs sc p) it env) := by
  obtain ⟨h1, h2, h3⟩ := r
  refine ⟨h1, ?_, ?_⟩
  · show X.A.depth + 0 + 1 + 3 * k + 5 < recursionLimit
    omega
  · show X.A.units + 1 + 1 + 0 + 3 + 16 * k + 200 < cLine
    omega
theorem gen_ok {elt : Expr} {cs : List Comprehension} {sc : Scope} {gp : Pos} {it : Addr} {x : Str} {scope : Scope} {code : Value} {fp : List Addr} (I : Inv X pins σ H s) (S : GnS scope x) (hh : X.A.handled = none) (hfp : ∀ b ∈ fp, FpOk X pins H b ∧ b < s.heap.objs.size) :
    (gCx X (.GeneratorExp elt cs sc gp) it x s H (gEnv X scope s.heap.objs.size code) fp).Ok := by
  have kd : ∀ y k, scope.names.lookup y = some k → k ≠ .cell ∧ k ≠ .free := fun y k e => ⟨S.cell _ (PySem.mem_of_lookup e), S.free _ (PySem.mem_of_lookup e)⟩
  exact {
    mod := I.ok.mod, kind := S.kind, glob := I.ok.glob, blt := rfl, above := Nat.le_refl _
    inj := fun y z c e _ => (by cases e)
    has := fun y h => (by
      rcases h with h | h
      · exact absurd rfl (kd y _ h).1
      · exact absurd rfl (kd y _ h).2)
    cab := fun y c z _ => (by cases z)
    hd := fun _ => hh
    frames := (by
      show pushEnvs [gEnv X scope s.heap.objs.size code] (pushEnvs [] X.A.frames) = _
      rw [I.ok.frames] <;> rfl)
    stk := .inr ⟨rfl, rfl⟩
    exf := fun b hb => ⟨Nat.ne_of_lt (hfp b hb).2, fun y c e => (by cases e)⟩
    bs := I.bs, bsz := Nat.le_trans I.ok.bsz I.sz
    noex := fun b o e hb => (by
      obtain ⟨_, _, _, old | old, _⟩ := (hfp b hb).1
      · exact I.ok.noex b o e old
      · have z := Heap.lt_size e
        have z2 := I.ok.bsz
        exact Nat.lt_irrefl b (Nat.lt_of_lt_of_le z (Nat.le_trans z2 old)))
    exfs := fun b hb hf => (by
      obtain ⟨⟨_, n1, n2, _⟩, _⟩ := hfp b hb
      rcases List.mem_cons.mp (I.stkSub b hf) with e | e
      · exact n1 e
      · exact n2 e)
    funs := I.stack, frf := I.stkFree }
/-- the frame as it begins: its space at C, its generator behind it -/
theorem gen_inv {elt : Expr} {cs : List Comprehension} {sc : Scope} {gp : Pos} {it : Addr} {x : Str} {scope : Scope} {code : Value} {fp : List Addr} {h' : Heap} {G : Obj} {g' : Array GenState} {tk : Nat} {m : Str → Option Value} (I : Inv X pins σ H s) (S : GnS scope x) (hh : X.A.handled = none)
    (hfp : ∀ b ∈ fp, FpOk X pins H b ∧ b < s.heap.objs.size) (hn : h'.Ns s.heap.objs.size m) (hsz : h'.objs.size = s.heap.objs.size + 1) (kp : ∀ b o, s.heap.get? b = some o → h'.get? b = some o) (hg : AllBare g') (hG : ∀ v, G.data ≠ .cell v) (hF : G.isFreed = false) :
    Inv (gCx X (.GeneratorExp elt cs sc gp) it x s H (gEnv X scope s.heap.objs.size code) fp) [(h'.objs.size, G)] [none] H { s with heap := h'.push G, gens := g', toks := tk } := by
  have kp2 : ∀ b o, s.heap.get? b = some o → (h'.push G).get? b = some o := fun b o e => Heap.get?_push_of_some _ (kp b o e)
  have gt : s.heap.objs.size ≤ h'.objs.size := by omega
  exact {
    ok := gen_ok I S hh hfp, os := rfl, bare := hg, base := Un.kept kp2
    loc := ⟨m, hn.push _, fun i y v _ e _ => (by
      match i, e with
      | 0, e => cases e
      | j + 1, e => cases e)⟩
    cell := fun y c e => (by cases e)
    free := I.hok.fresh (Nat.le_refl _)
    freeC := fun y c e => (by cases e)
    pin := fun p hp => (by
      obtain rfl := List.mem_singleton.mp (show p ∈ [(h'.objs.size, G)] from hp)
      refine ⟨Heap.get?_push_size _ hF, I.hok.fresh gt, fun z => ?_, fun z => ?_, hG⟩
      · have z2 : h'.objs.size = s.heap.objs.size := z
        omega
      · rcases List.mem_cons.mp (I.stkSub _ z) with e | e
        · have z2 := I.lt
          rw [← e] at z2
          have z3 : h'.objs.size < s.heap.objs.size := z2
          omega
        · exact I.nofs gt e)
    hok := I.hok.kept kp2, len := rfl }
end
/-- what is so between two steps of the generator, i things taken -/
def GSt (Y : Cx) (pn : List (Addr × Obj)) (tn : Nat → Heap → Prop) (fp : List Addr) (W : Nat → Hp → Prop) (i : Nat) (s : Shared) : Prop :=
  ∃ H', Inv Y pn [none] H' s ∧ tn i s.heap ∧ (∀ b ∈ fp, H' b = none) ∧ W i H'
/-- how it ends, how it hands out -/
def gFin (Y : Cx) (pn : List (Addr × Obj)) (Q : VK) (b : Bool) (s : Shared) : Prop := ∃ H', Inv Y pn [none] H' s ∧ Q (.bl b) H'
abbrev gEnd (Y : Cx) (pn : List (Addr × Obj)) (Q : VK) : GenEnd := fun _ _ r s1 => r = .ok .next ∧ gFin Y pn Q true s1
def gPro (Y : Cx) (pn : List (Addr × Obj)) (tn : Nat → Heap → Prop) (fp : List Addr) (W : Nat → Hp → Prop) (Q : VK) : Protocol := fun _ _ v s kap =>
  ∃ b : Bool, v = .bool b ∧ (b = true → ∃ i, GSt Y pn tn fp W i s ∧ ∀ s', GSt Y pn tn fp W i s' → kap (.send .none) s') ∧ (b = false → gFin Y pn Q false s)
/-- one turn's reading -/
def GTurn (J : It) (te : TE) (n : Nat) (W : Nat → Hp → Prop) (Q : VK) : Prop := ∀ i H2, W i H2 →
  (J.stop i H2 ∧ Q (.bl true) H2) ∨ (J.go i H2 ∧ i < n ∧ ∀ x H3, J.yld i H2 x H3 → te [some x] H3 fun u H4 => ∃ b, u = .bl b ∧ if b = true then W (i + 1) H4 else Q (.bl false) H4)
section
variable {X : Cx} {elt iter : Expr} {x : Str} {px gp : Pos} {sc : Scope} {it C : Addr} {s₁ : Shared} {H₁ : Hp} {code : Value} {fp : List Addr} {pn : List (Addr × Obj)} {tn : Nat → Heap → Prop} {J : It} {te : TE} {n : Nat} {W : Nat → Hp → Prop} {Q : VK}
theorem gen_seg {Y : Cx} {env : Env} (hY : Y = gCx X (.GeneratorExp elt [⟨.Name x px, iter, [], 0⟩] sc gp) it x s₁ H₁ env fp) (hco : env.scope.isCoroutine = false) (T : Turn X.prog X.w X.K (.Name x px) J fp it tn)
    (pg : PG Y (.Name x px) (gName 0)) (pe : PE Y elt te) (turn : GTurn J te n W Q) (hpn : ∀ b ∈ fp, ∀ p ∈ pn, p.1 ≠ b) :
    ∀ (m i : Nat) (s s₀ : Shared), n - i = m → GSt Y pn tn fp W i s → Seg (model X.prog X.w) X.A.in1.in1 (gEnd Y pn Q) (gPro Y pn tn fp W Q) m s₀
      (.compLoop (.GeneratorExp elt [⟨.Name x px, iter, [], 0⟩] sc gp) 0 (.ref it) .none env) ((model X.prog X.w).den (.compLoop (.GeneratorExp elt [⟨.Name x px, iter, [], 0⟩] sc gp) 0 (.ref it) .none env)) [] s := by
  have hA : Y.A = X.A.in1.in1.over (.compLoop (.GeneratorExp elt [⟨.Name x px, iter, [], 0⟩] sc gp) 0 (.ref it) .none env) [] := by rw [hY]
  have hP : Y.prog = X.prog := by rw [hY]
  have hW : Y.w = X.w := by rw [hY]
  have hK : Y.K = X.K := by rw [hY]
  have hC : Y.calm = true := by rw [hY]
  have hE : Y.env = env := by rw [hY]
  have hX : Y.ex = fp := by rw [hY]
  have hN : Y.pn = [] := by rw [hY]
  have hxe : Y.xe = fun _ _ => False := by rw [hY]
  have stat : ∀ {σ' : L2.St} {H' : Hp} {s' : Shared}, Inv Y pn σ' H' s' → (∀ b ∈ fp, H' b = none) → ∀ b ∈ fp, FpOk Y pn H' b := fun {σ' H' s'} I' hn b hb => by
    have hb2 : b ∈ Y.ex := by rw [hX]; exact hb
    refine ⟨hn b hb, (I'.ok.exf b hb2).1, I'.ok.exfs b hb2, .inl hb2, fun y c e => (I'.ok.exf b hb2).2 y c e, fun p hp => ?_⟩
    rw [hN] at hp
    exact hpn b hb p hp
  have runG := fun pins s σ H v u Q => pg.run pins s σ H v u Q
  have runE := fun pins s σ H Q => pe.run pins s σ H Q
  rw [hA, hP, hW, hE, hxe] at runG runE
  intro m
  induction m with
  | zero =>
    rintro i s s₀ hm ⟨H, I, st, nf, w⟩
    show Seg _ _ _ _ _ s₀ _ ((compTurn _ 0 (.ref it) .none env).onRaise (leaving env)) [] s
    rw [compTurn_gen, Sem.onRaise_eq_wrap]
    refine seg_bind_wrap (wpAny_standAt ?_)
    rcases turn i H w with ⟨stop, q⟩ | ⟨_, lt, _⟩
    · have td := T.done Y hP hW hK hC i pn s _ H (fun _ _ => False) I (stat I nf) st stop
      rw [hA] at td
      refine seg_bind_wrap (thnF td fun r s2 ⟨e, I2⟩ => ?_)
      rw [e]
      exact seg_end (.ok .next) ⟨rfl, H, I2, q⟩
    · exact absurd lt (by omega)
  | succ m ih =>
    rintro i s s₀ hm ⟨H, I, st, nf, w⟩
    show Seg _ _ _ _ _ s₀ _ ((compTurn _ 0 (.ref it) .none env).onRaise (leaving env)) [] s
    rw [compTurn_gen, Sem.onRaise_eq_wrap]
    refine seg_bind_wrap (wpAny_standAt ?_)
    rcases turn i H w with ⟨stop, q⟩ | ⟨go, lt, step⟩
    · have td := T.done Y hP hW hK hC i pn s _ H (fun _ _ => False) I (stat I nf) st stop
      rw [hA] at td
      refine seg_bind_wrap (thnF td fun r s2 ⟨e, I2⟩ => ?_)
      rw [e]
      exact seg_end (.ok .next) ⟨rfl, H, I2, q⟩
    · have ti := T.item Y hP hW hK hC i pn s _ H (fun _ _ => False) I (stat I nf) st go
      rw [hA] at ti
      refine seg_bind_wrap (thnF ti fun r s2 ⟨u, e, h2⟩ => ?_)
      rw [e]
      refine seg_bind_wrap (thnF h2 fun _ s3 ⟨y, H3, I3, r3, y3, st3, n3⟩ => ?_)
      have I3' := I3.pinned (stat I3 n3) (T.obj _ _ st3)
      refine seg_bind_wrap (thnF (runG _ s3 _ H3 y u _ I3' r3 (show gName 0 y [none] H3 (fun σ' H' => σ' = [some y] ∧ H' = H3) from ⟨rfl, rfl⟩)) fun _ s4 ⟨σ4, H4, I4, e4, e5⟩ => ?_)
      subst e4 e5
      refine seg_bind_wrap (wpAny_tests_nil ?_)
      simp only [if_true]
      have yo : ∀ v, yieldOut env v = yieldValue v := fun v => by
        unfold yieldOut
        rw [hco] <;> rfl
      simp only [yo]
      rw [Sem.bind_eq_wrap', Sem.bind_eq_wrap', Sem.wrap_wrap, Sem.wrap_wrap]
      refine seg_wrap (thnF (runE _ s4 _ _ _ I4 (step y _ y3)) fun v s5 ⟨yv, H5, I5, r5, b, e5, q5⟩ => ?_)
      subst e5
      obtain rfl : v = Value.bool b := r5
      have pin' : ∀ b ∈ fp, ∀ o, s3.heap.get? b = some o → s5.heap.get? b = some o ∧ H5 b = none := fun b hb o e =>
        let z := I5.pin (b, o) (List.mem_append_right _ (List.mem_append_right _ (mem_pinsAt hb e)))
        ⟨z.1, z.2.1⟩
      have I6 : Inv Y pn [none] H5 s5 := I5.unpinned.weak rfl fun j v e => by
        match j, e with
        | 0, e => cases e
        | j + 1, e => cases e
      have done : W (i + 1) H5 → GSt Y pn tn fp W (i + 1) s5 := fun w5 => ⟨H5, I6, T.keep _ _ _ st3 fun b hb o e => (pin' b hb o e).1, fun b hb => (by
        obtain ⟨o, e, _⟩ := T.obj _ _ st3 b hb
        exact (pin' b hb o e).2), w5⟩
      refine seg_at (seg_yield rfl rfl rfl ⟨b, rfl, fun hb => ?_, fun hb => ?_⟩)
      · rw [if_pos hb] at q5
        exact ⟨i + 1, done q5, fun s' hj => seg_again rfl (ih (i + 1) s' s' (by omega) hj)⟩
      · rw [if_neg (by rw [hb]; exact Bool.false_ne_true)] at q5
        exact ⟨H5, I6, q5⟩
/-- the generator at a, its number g: what it does next -/
def GAt (M : Model) (A : Around) (Y : Cx) (pn : List (Addr × Obj)) (tn : Nat → Heap → Prop) (fp : List Addr) (W : Nat → Hp → Prop) (Q : VK) (g m : Nat) (s : Shared) : Prop :=
  ∃ i gs, GSt Y pn tn fp W i s ∧ s.gens[g]? = some gs ∧ ∀ s', GSt Y pn tn fp W i s' → gs.Goes M A (gEnd Y pn Q) (gPro Y pn tn fp W Q) m (.send .none) s'
theorem gst_set {Y : Cx} {i g : Nat} {s : Shared} {y : GenState} (h : GSt Y pn tn fp W i s) (hy : y.bare = true) : GSt Y pn tn fp W i (s.setGen g y) := by
  obtain ⟨H', I, r⟩ := h
  exact ⟨H', inv_setGen I hy, r⟩
theorem fin_set {Y : Cx} {g : Nat} {s : Shared} {y : GenState} {b : Bool} (h : gFin Y pn Q b s) (hy : y.bare = true) : gFin Y pn Q b (s.setGen g y) := by
  obtain ⟨H', I, r⟩ := h
  exact ⟨H', inv_setGen I hy, r⟩
theorem fin_kept {Y : Cx} {s : Shared} {b : Bool} {h' : Heap} (h : gFin Y pn Q b s) (k : ∀ b o, s.heap.get? b = some o → h'.get? b = some o) : gFin Y pn Q b { s with heap := h' } := by
  obtain ⟨H', I, r⟩ := h
  exact ⟨H', I.kept (t' := s.toks) k, r⟩
theorem set_at {s : Shared} {g : Nat} {y : GenState} (h : g + 1 ≤ (s.setGen g y).gens.size) : (s.setGen g y).gens[g]? = some y := by
  have z : g < s.gens.size := by
    have e : (s.setGen g y).gens.size = s.gens.size := Array.size_setIfInBounds
    omega
  show (s.gens.setIfInBounds g y)[g]? = some y
  rw [Array.getElem?_setIfInBounds, if_pos rfl, if_pos z]
theorem all_run {Y : Cx} {a : Addr} {g : Nat} {G : Obj} {R : Result → Shared → Prop} (hp : (a, G) ∈ pn) (hG : ∀ h : Heap, h.get? a = some G → h.IsGen a g) (hh : X.A.handled = none) (hd : X.A.depth + 2 < recursionLimit)
    (hR : ∀ b s', gFin Y pn Q b s' → R (.ok (.ret (.bool b))) s') :
    ∀ (m : Nat) (s : Shared), GAt (model X.prog X.w) X.A.in1.in1 Y pn tn fp W Q g m s → codeAny (model X.prog X.w) X.A (.builtin "all.loop" ⟨[.ref a], []⟩) R s := by
  have turn : ∀ (m : Nat) (s : Shared), GAt (model X.prog X.w) X.A.in1.in1 Y pn tn fp W Q g m s →
      (∀ s', (∃ k, m = k + 1 ∧ GAt (model X.prog X.w) X.A.in1.in1 Y pn tn fp W Q g k s') → codeAny (model X.prog X.w) X.A (.builtin "all.loop" ⟨[.ref a], []⟩) R s') → codeAny (model X.prog X.w) X.A (.builtin "all.loop" ⟨[.ref a], []⟩) R s := by
    rintro m s ⟨i, gs, st, hgs, goes⟩ next
    obtain ⟨H, I, _⟩ := id st
    have gen : s.heap.IsGen a g := hG _ (I.pin (a, G) (List.mem_append_right _ hp)).1
    have hgl : g + 1 ≤ s.gens.size := (Array.getElem?_eq_some_iff.mp hgs).1
    refine codeAny_builtin (F.entry_all_loop) ?_
    rw [Around.under_plainId (F.plain_all_loop) _]
    show wpAny (model X.prog X.w) X.A.in1 (pyNext (.ref a) >>= _) _ _ s
    refine wpAny_bind (GenW.wpAny_gsz (n := g + 1) hgl (wpAny_pyNext_genexpQ (n := m) (P := fun _ _ s1 => gFin Y pn Q true s1) (Y := gPro Y pn tn fp W Q) hh I.nolimit (by show X.A.depth < recursionLimit; omega) gen hgs (goes _ (gst_set st rfl)) (fun v s1 gs' hb hv => ?_) (fun s1 hf h' hk => ?_)))
    · intro hgl2
      obtain ⟨b, rfl, yes, no⟩ := hv
      refine wpAny_bind (wpAny_holding (wpAny_truthy_bool ?_))
      refine wpAny_bind (wpAny_letGo ?_)
      cases b with
      | true =>
        obtain ⟨i2, st2, kap⟩ := yes rfl
        simp only [if_true]
        cases m with
        | zero => exact (kap s1 st2).elim
        | succ k => exact wpAny_pure ⟨plainId_quiet (F.plain_all_loop) _, next _ ⟨k, rfl, i2, gs', gst_set st2 hb, set_at hgl2, fun s' h => kap s' h⟩⟩
      | false =>
        simp only [Bool.false_eq_true, if_false]
        exact wpAny_bind (wpAny_rule (wpAny_pure (hR false _ (fin_set (no rfl) hb))))
    · intro _
      refine wpAny_bind (wpAny_rule (wpAny_pure ?_))
      exact hR true _ (fin_kept (fin_set hf rfl) hk)
  intro m
  induction m with
  | zero => exact fun s h => turn 0 s h fun s' ⟨k, e, _⟩ => (by cases e)
  | succ m ih => exact fun s h => turn (m + 1) s h fun s' ⟨k, e, z⟩ => ih s' (by cases e; exact z)
end
/-- .. in the def: the table of the def's code may have grown ahead of it -/
def tAllG (P : Addr) (wi : TI) (te : TE) : TE := fun σ H Q => wi σ H fun J H1 => GxR.TabG H1 P ∧ ∃ (n : Nat) (W : Nat → Hp → Prop), (∀ H2, GxR.Tabbed P H1 H2 → W 0 H2) ∧ GTurn J te n W Q
theorem gen_den {X : Cx} {elt iter : Expr} {x : Str} {px gp : Pos} {sc : Scope} {it : Addr} {env : Env} {fp : List Addr} {pn : List (Addr × Obj)} {tn : Nat → Heap → Prop} {W : Nat → Hp → Prop} {Q : VK} {Y : Cx} {J : It} {n : Nat} (T : Turn X.prog X.w X.K (.Name x px) J fp it tn)
    (loop : ∀ (s s₀ : Shared), GSt Y pn tn fp W 0 s → Seg (model X.prog X.w) X.A.in1.in1 (gEnd Y pn Q) (gPro Y pn tn fp W Q) n s₀ (.compLoop (.GeneratorExp elt [⟨.Name x px, iter, [], 0⟩] sc gp) 0 (.ref it) .none env)
      ((model X.prog X.w).den (.compLoop (.GeneratorExp elt [⟨.Name x px, iter, [], 0⟩] sc gp) 0 (.ref it) .none env)) [] s) (s s₀ : Shared) (st : GSt Y pn tn fp W 0 s) :
    Seg (model X.prog X.w) X.A.in1.in1 (gEnd Y pn Q) (gPro Y pn tn fp W Q) n s₀ (.compStart (.GeneratorExp elt [⟨.Name x px, iter, [], 0⟩] sc gp) 0 (.ref it) .none env)
      ((model X.prog X.w).den (.compStart (.GeneratorExp elt [⟨.Name x px, iter, [], 0⟩] sc gp) 0 (.ref it) .none env)) [] s := by
  have go := loop s s₀ st
  obtain ⟨H', I, st0, _⟩ := id st
  show Seg _ _ _ _ _ s₀ _ ((compStart _ 0 (.ref it) .none env).onRaise (leaving env)) [] s
  unfold compStart
  rw [Sem.onRaise_eq_wrap]
  show Seg _ _ _ _ _ s₀ _ ((ask >>= _).wrap _ _ _ _) [] s
  refine seg_bind_wrap (wpAny_askSetting ?_)
  split
  · exact seg_again rfl go
  · refine seg_bind_wrap (wpAny_rule ?_)
    show Seg _ _ _ _ _ s₀ _ ((standAt iter.pos >>= _).wrap _ _ _ _) [] s
    refine seg_bind_wrap (wpAny_standAt (seg_bind_wrap ?_))
    exact T.self _ 0 s _ _ st0 (seg_again rfl go)
theorem no_clo {cells : List (Str × Addr)} : ∀ (l : List (Str × NameKind)), (∀ y ∈ l, y.2 ≠ .free) → cloFrom cells l [] = []
  | [], _ => rfl
  | (n, k) :: r, h => by
    have z := no_clo (cells := cells) r fun y hy => h y (List.mem_cons_of_mem _ hy)
    have hk : k ≠ .free := h (n, k) List.mem_cons_self
    unfold cloFrom
    cases k <;> first | exact z | exact absurd rfl hk
theorem pe_allG {X : Cx} {c P : Addr} {elt iter : Expr} {x : Str} {px p pos gp : Pos} {scope : Scope} {wi : TI} {te : TE} {k : Nat}
    (hr : Room k X.A) (hg : Gl X "all") (hm : X.mg "all" = none) (hb : bootBuiltins "all" = some (.builtin "all")) (TB : GxR.TabB X.base X.mg c P) (hcode : X.env.code = .ref c) (S : GnS scope x) (hi : PI X (.Name x px) iter wi)
    (hel : ∀ (it C : Addr) (s : Shared) (H : Hp) (code : Value) (fp : List Addr), PE (gCx X (.GeneratorExp elt [⟨.Name x px, iter, [], 0⟩] scope gp) it x s H (gEnv X scope C code) fp) elt te)
    (hs : ∀ v, genFold iter X.env v = pure v)
    (he : starEach [.GeneratorExp elt [⟨.Name x px, iter, [], 0⟩] scope gp] X.env = (false, eval (.GeneratorExp elt [⟨.Name x px, iter, [], 0⟩] scope gp) X.env) :: starEach [] X.env := by rfl) :
    PE X (.Call (.Name "all" p) [.GeneratorExp elt [⟨.Name x px, iter, [], 0⟩] scope gp] [] pos) (tAllG P wi te) := by
  have dep := hr.dp
  refine ⟨fun pins s σ H Q I h => ?_⟩
  refine wpAny_Call_Name_kw (ld_blt I hg hm hb ?_)
  refine PyProof.Rows.callWith_builtin1 ?_ he (by rfl)
  rw [he]
  refine Calls.spliced_cons (wpAny_GeneratorExp_make (cl := []) S.co ?_ S.cell S.dot S.kind (by omega) ?_ hs)
  · rw [closure_ok (fun y hy e => absurd e (S.free y hy)), no_clo _ S.free]
  refine thn (hi.run pins s σ H _ I h) fun xv s1 hx => thn hx fun itv s2 ⟨it, fp, tn, J, H2, e, I2, T, st2, f2, TG, n, W, w0, turn⟩ => ⟨I2.nolimit, ?_⟩
  subst e
  obtain ⟨ps, hP, ht⟩ := TG
  have hPs : s2.heap.get? P = some { cls := .none, data := .fields ps } := I2.hok P _ hP
  have cd : PySem.W.CodeHd s2.heap c P := TB.code.keeps I2.bk
  have fpP : ∀ b ∈ fp, b ≠ P := fun b hb z => by
    have q := (f2 b hb).1
    rw [z, hP] at q
    cases q
  have cont : ∀ (code : Value) (h3 : Heap) (tk : Nat) (ps' : Array Value), Heap.ExtBut P s2.heap h3 → s2.heap.objs.size ≤ h3.objs.size → h3.get? P = some { cls := .none, data := .fields ps' } → (∃ more, ps' = ps ++ more) → TriplesOk ps'.toList →
      wpAny (model X.prog X.w) X.A (builtinsFor X.env.globals X.env.builtins) (fun bi s₄ => ∀ h', h'.Ns s₄.heap.objs.size (fun y => if y = ".0" then some (.ref it) else none) →
        Heap.SameBut s₄.heap.objs.size (s₄.heap.push { cls := .type "frame", data := .dict #[] }) h' → wpAny (model X.prog X.w) X.A (spliced (backTo pos (starEach [] X.env))) (fun us s' => wpAny (model X.prog X.w) X.A (call (.builtin "all") (.ref h'.objs.size :: us)) (EP X pins σ Q) X.xe s') X.xe
          { s₄ with gens := s₄.gens.push (.fresh (.compStart (.GeneratorExp elt [⟨.Name x px, iter, [], 0⟩] scope gp) 0 (.ref it) .none (genEnv scope [] s₄.heap.objs.size code bi X.env))), toks := s₄.toks + 1 + 1 + 1,
                    heap := h'.push { cls := .type "generator", data := .fields #[.int s₄.gens.size 0, .str "<genexpr>" (s₄.toks + 1), .str (X.env.qual ++ "<genexpr>") (s₄.toks + 1 + 1)] } }) X.xe { s2 with heap := h3, toks := tk } := by
    intro code h3 tk ps' hx hsz hP3 hmore ht3
    obtain ⟨bm, ob, e1, e2, e3, e4, e5, e6, e7, e8⟩ := TB.bm
    have keep3 : ∀ b u, b ≠ P → s2.heap.get? b = some u → h3.get? b = some u := fun b u hb e => hx b u hb e
    refine wpAny_builtinsFor (m := X.mg) (by rw [I2.ok.glob]; exact (I2.mod.glob.keeps I2.bk).extBut hx TB.gP) e1 e2 (keep3 _ _ e4 (I2.bk _ _ e5)) e6 e7 e8 ?_
    obtain ⟨more, em⟩ := hmore
    have I4 := GxR.inv_tab (more := more) (h' := h3) (g' := s2.gens) (d' := s2.drawn) (t' := tk) I2 hP (fun b u hb e => keep3 b u hb e) (by rw [← em]; exact hP3) I2.bare
    generalize hs4 : ({ s2 with heap := h3, toks := tk } : Shared) = s4 at I4 ⊢
    have h4 : s4.heap = h3 := by rw [← hs4]
    have tabbed : GxR.Tabbed P H2 (upd H2 P (.tbl (ps ++ more))) := ⟨⟨_, upd_same, by rw [← em]; exact ht3⟩, fun b hb => upd_ne hb⟩
    generalize upd H2 P (.tbl (ps ++ more)) = H4 at I4 tabbed
    have lt4 : ∀ b ∈ fp, b < s4.heap.objs.size := fun b hb => by
      obtain ⟨o, e, _⟩ := T.obj _ _ st2 b hb
      have z := Heap.lt_size e
      rw [h4]
      exact Nat.lt_of_lt_of_le z hsz
    have f4 : ∀ b ∈ fp, FpOk X pins H4 b ∧ b < s4.heap.objs.size := fun b hb => ⟨⟨(tabbed.2 b (fpP b hb)).trans (f2 b hb).1, (f2 b hb).2⟩, lt4 b hb⟩
    intro h' hn' hs'
    have sz' : h'.objs.size = s4.heap.objs.size + 1 := by rw [hs'.1, Heap.size_push]
    have kp : ∀ b o, s4.heap.get? b = some o → h'.get? b = some o := fun b o e => hs'.extBut b o (Nat.ne_of_lt (Heap.lt_size e)) (Heap.get?_push_of_some _ e)
    generalize hG : ({ cls := .type "generator", data := .fields #[.int s4.gens.size 0, .str "<genexpr>" (s4.toks + 1), .str (X.env.qual ++ "<genexpr>") (s4.toks + 1 + 1)] } : Obj) = G
    have IG := gen_inv (elt := elt) (cs := [⟨.Name x px, iter, [], 0⟩]) (sc := scope) (gp := gp) (it := it) (code := code) (G := G) (g' := s4.gens.push (.fresh (.compStart (.GeneratorExp elt [⟨.Name x px, iter, [], 0⟩] scope gp) 0 (.ref it) .none (gEnv X scope s4.heap.objs.size code)))) (tk := s4.toks + 1 + 1 + 1)
      I4 S hr.hd f4 hn' sz' kp (I4.bare.push rfl) (fun v z => by rw [← hG] at z; cases z) (by rw [← hG] <;> rfl)
    have st5 : tn 0 (h'.push G) := T.keep _ _ _ st2 fun b hb o e => Heap.get?_push_of_some _ (kp b o (by rw [h4]; exact keep3 b o (fpP b hb) e))
    refine Calls.spliced_nil ?_
    have isG : ∀ hp : Heap, hp.get? h'.objs.size = some G → hp.IsGen h'.objs.size s4.gens.size := fun hp e => ⟨G, _, _, e, by rw [← hG], by rw [← hG], by rw [← hG]⟩
    have hpn : ∀ b ∈ fp, ∀ p ∈ [(h'.objs.size, G)], p.1 ≠ b := fun b hb p hp z => by
      obtain rfl := List.mem_singleton.mp hp
      have q : b < s4.heap.objs.size := lt4 b hb
      have z2 : h'.objs.size = b := z
      rw [← z2, sz'] at q
      exact Nat.lt_irrefl _ (Nat.lt_of_succ_lt q)
    have loop := gen_seg (elt := elt) (iter := iter) (px := px) (gp := gp) (sc := scope) (Q := Q) (tn := tn) (n := n) rfl S.co T (pg_name (X := gCx X (.GeneratorExp elt [⟨.Name x px, iter, [], 0⟩] scope gp) it x s4 H4 (gEnv X scope s4.heap.objs.size code) fp) (List.nodup_cons.mpr ⟨List.not_mem_nil, List.nodup_nil⟩) rfl (.inl S.loc) (.inr S.loc))
      (hel it s4.heap.objs.size s4 H4 code fp) turn hpn
    refine call_function_tree (F.kind_all) (F.plain_all) (F.entry_all) (F.args_all1 _) ?_
    unfold Builtin.«all»
    refine wpAny_bind (m := oneArg "all" _) (wpAny_pure ?_)
    refine wpAny_bind (wpAny_pyIter_gen (isG _ (IG.pin (h'.objs.size, G) (List.mem_singleton.mpr rfl)).1) ?_)
    refine wpAny_pure ⟨plainId_quiet (F.plain_all_loop) _, all_run (pn := [(h'.objs.size, G)]) (tn := tn) (fp := fp) (W := W) (Q := Q) (List.mem_singleton.mpr rfl) isG hr.hd (by omega) (fun b s' hf => ?_) n _ ⟨0, _, ⟨H4, IG, st5, fun b hb => (f4 b hb).1.1, w0 H4 tabbed⟩, Array.getElem?_push_size .., fun s' hst => ⟨rfl, gen_den T (fun s s₀ q => loop n 0 s s₀ (Nat.sub_zero n) q) s' s' hst⟩⟩⟩
    obtain ⟨H', IY, q⟩ := hf
    have J := I4.call' (ch := fp) IY.os IY.base IY.hok IY.bare fun b hb => ⟨(f4 b hb).1.2.2.2.1, (f4 b hb).1.2.1, (f4 b hb).1.2.2.2.2.1, (f4 b hb).1.2.2.2.2.2⟩
    exact ⟨.bl b, H', J, rfl, q⟩
  cases hf : codeAmong gp ps.toList with
  | none =>
    refine wpAny_genexprCodeX hcode (cd.code hPs ht) (cd.tab hPs) hf fun c' h' tk hx hge hlt hco' _ htab' _ => ?_
    obtain ⟨o1, vs, f1, tf, fl, tg, inF, tx, tt, op, _, _, _, _, _, _, _, _, _, htr, _⟩ := hco'
    exact cont _ h' tk _ hx (Nat.le_trans hge (Nat.le_of_lt hlt)) htab'.2 ⟨_, rfl⟩ htr
  | some cv =>
    refine wpAny_genexprCode_hit hcode (cd.code hPs ht) hf ?_
    exact cont cv s2.heap s2.toks ps (Heap.ExtBut.refl _ _) (Nat.le_refl _) hPs ⟨#[], by simp⟩ ht
end KR
/-! ### defs whose code has a table (a generator expression stands in them): what is kept around their calls, and the law's end with such tables -/
namespace KR
open PySem PySem.Spec PyProof.Rows L2
/-- what was tracked is as it was; tables may have grown -/
structure Sm (H H' : Hp) : Prop where
  keep : ∀ b o, H b = some o → (∀ q, o ≠ .tbl q) → H' b = some o
  tab : ∀ b, GxR.TabG H b → GxR.TabG H' b
theorem tab_at {H : Hp} {b : Addr} (h : GxR.TabG H b) : ∃ q, H b = some (.tbl q) := h.elim fun q z => ⟨q, z.1⟩
theorem Sm.refl {H : Hp} : Sm H H := ⟨fun _ _ h _ => h, fun _ h => h⟩
theorem Sm.trans {H H1 H2 : Hp} (a : Sm H H1) (b : Sm H1 H2) : Sm H H2 := ⟨fun c o h n => b.keep c o (a.keep c o h n) n, fun c h => b.tab c (a.tab c h)⟩
theorem Sm.of {H H1 : Hp} (a : Same H H1) : Sm H H1 := ⟨fun c o h _ => a c o h, fun c ⟨q, e, t⟩ => ⟨q, a _ _ e, t⟩⟩
theorem Sm.tabbed {H H1 : Hp} {P : Addr} (a : GxR.Tabbed P H H1) (h : GxR.TabG H P) : Sm H H1 := by
  obtain ⟨q, e, _⟩ := h
  refine ⟨fun c o h n => ?_, fun c ⟨q2, e2, t2⟩ => ?_⟩
  · have ne : c ≠ P := fun z => by
      rw [z, e] at h
      exact n q (Option.some.inj h).symm
    rw [a.2 c ne]
    exact h
  · by_cases z : c = P
    · rw [z]
      exact a.1
    · exact ⟨q2, (a.2 c z).trans e2, t2⟩
theorem Sm.tup {K : PySem.W.Frag} {H H' : Hp} {a : Addr} {xs : List V} (e : Sm H H') (h : SqT K H a xs) : SqT K H' a xs := by
  rcases h with (h | ⟨o, h⟩) | h
  · exact .inl (.inl (e.keep _ _ h nofun))
  · exact .inl (.inr ⟨o, e.keep _ _ h nofun⟩)
  · exact .inr h
theorem Sm.seq {K : PySem.W.Frag} {H H' : Hp} {a : Addr} {xs : List V} (e : Sm H H') (h : SqL K H a xs) : SqL K H' a xs := by
  rcases h with (h | ⟨o, h⟩) | h
  · exact .inl (.inl (e.keep _ _ h nofun))
  · exact .inl (.inr ⟨o, e.keep _ _ h nofun⟩)
  · exact .inr h
theorem Sm.lst {H H' : Hp} {a : Addr} {xs : List V} (e : Sm H H') (h : H a = some (.lst xs)) : H' a = some (.lst xs) := e.keep _ _ h nofun
theorem BoxAt.sm {H H' : Hp} {p : Addr} {n : Nat} (h : BoxAt H p n) (s : Sm H H') : BoxAt H' p n := by
  obtain ⟨a, b, c, h1, h2⟩ := h
  exact ⟨a, b, c, s.lst h1, h2⟩
/-- .. but the box p -/
structure Fs (p : Addr) (H H' : Hp) : Prop where
  keep : ∀ b o, b ≠ p → H b = some o → (∀ q, o ≠ .tbl q) → H' b = some o
  tab : ∀ b, b ≠ p → GxR.TabG H b → GxR.TabG H' b
theorem Fs.refl {p : Addr} {H : Hp} : Fs p H H := ⟨fun _ _ _ h _ => h, fun _ _ h => h⟩
theorem Fs.trans {p : Addr} {H H1 H2 : Hp} (a : Fs p H H1) (b : Fs p H1 H2) : Fs p H H2 := ⟨fun c o e h n => b.keep c o e (a.keep c o e h n) n, fun c e h => b.tab c e (a.tab c e h)⟩
theorem Fs.of {p : Addr} {H H1 : Hp} (a : Fr p H H1) : Fs p H H1 := ⟨fun c o e h _ => a c o e h, fun c e ⟨q, g, t⟩ => ⟨q, a _ _ e g, t⟩⟩
theorem Fs.sm {p : Addr} {H H1 : Hp} (a : Sm H H1) : Fs p H H1 := ⟨fun c o _ h n => a.keep c o h n, fun c _ h => a.tab c h⟩
/-- so many tables are there -/
def Tbs (Ps : List Addr) (H : Hp) : Prop := ∀ P ∈ Ps, GxR.TabG H P
theorem Tbs.sm {Ps : List Addr} {H H' : Hp} (h : Tbs Ps H) (s : Sm H H') : Tbs Ps H' := fun P hP => s.tab P (h P hP)
theorem Tbs.fs {Ps : List Addr} {p : Addr} {H H' : Hp} {xs : List V} (h : Tbs Ps H) (hp : H p = some (.lst xs)) (s : Fs p H H') : Tbs Ps H' := fun P hP => s.tab P (fun z => by
  obtain ⟨q, e⟩ := tab_at (h P hP)
  rw [z, hp] at e
  cases e) (h P hP)
theorem box_lst {H : Hp} {p : Addr} {n : Nat} (h : BoxAt H p n) : ∃ xs, H p = some (.lst xs) := by
  obtain ⟨a, b, c, h1, _⟩ := h
  exact ⟨_, h1⟩
theorem Tbs.fr {Ps : List Addr} {p : Addr} {n : Nat} {H H' : Hp} (h : Tbs Ps H) (B : BoxAt H p n) (f : Fr p H H') : Tbs Ps H' := (box_lst B).elim fun _ e => h.fs e (.of f)
theorem Tbs.same {Ps : List Addr} {H H' : Hp} (h : Tbs Ps H) (s : Same H H') : Tbs Ps H' := h.sm (.of s)
/-- what is written into a list of the def's own touches no table -/
theorem Tbs.put {Ps : List Addr} {H : Hp} {D : Addr} {xs ys : List V} (h : Tbs Ps H) (hd : H D = some (.lst xs)) : Tbs Ps (upd H D (.lst ys)) := h.fs hd (.of fr_updL)
where fr_updL : Fr D H (upd H D (.lst ys)) := fun b o n e => by rw [upd_ne n]; exact e
theorem Sm.put {H0 H : Hp} {D : Addr} {o : HO} (s : Sm H0 H) (h : H0 D = none) : Sm H0 (upd H D o) :=
  ⟨fun b u e n => by rw [upd_ne (ne_of_none e h)]; exact s.keep b u e n, fun b ⟨q, e, t⟩ => by
    obtain ⟨q2, e2, t2⟩ := s.tab b ⟨q, e, t⟩
    exact ⟨q2, by rw [upd_ne (ne_of_none e h)]; exact e2, t2⟩⟩
/-- a def of the text whose code object is known -/
structure FunC (K : PySem.W.Frag) (x qual : Str) (st : Stmt) (f : Addr) (fd : FuncData) (c : Addr) : Prop where
  ex : ∃ (oc : Value) (od : Option Addr) (kV doc pm : Value) (an : Option Addr) (ct : Value) (osl : Array (Option Value)),
    fd = PySem.W.fnOf x qual (defArgs st) (defBody st) (defScope st) .none kV doc pm an (.ref c) ct ∧ K.lookup f = some ⟨oc, od, .func fd, osl⟩ ∧ PySem.W.codeIn K (.ref c) qual = true
theorem funC_mk {K : PySem.W.Frag} {x qual : Str} {st : Stmt} {f c : Addr} {oc : Value} {od an : Option Addr} {osl : Array (Option Value)} {kV doc pm ct : Value} (l : K.lookup f = some ⟨oc, od, .func (PySem.W.fnOf x qual (defArgs st) (defBody st) (defScope st) .none kV doc pm an (.ref c) ct), osl⟩)
    (h : PySem.W.codeIn K (.ref c) qual = true) : FunC K x qual st f (PySem.W.fnOf x qual (defArgs st) (defBody st) (defScope st) .none kV doc pm an (.ref c) ct) c := ⟨⟨oc, od, kV, doc, pm, an, ct, osl, rfl, l, h⟩⟩
section
variable {P : Program} {w : World} {K : PySem.W.Frag} {mg : Str → Option Value} {base : Heap}
theorem FunC.ok {x qual : Str} {st : Stmt} {f c : Addr} {fd : FuncData} {N ps : List Str} {k : Nat} {sp : Sp} (F : FunC K x qual st f fd c) (S : FnScope N ps (defScope st)) (len : ∀ vs H Q E, sp vs H Q E → vs.length = ps.length)
    (body : ∀ (cdv : Value) (A : Around) (outer : List Env) (s : Shared) (H : Hp) (vs : List V) (Q : VK) (E : XK), cdv = .ref c → Room k (A.deeper (envOfC qual (defScope st) s.heap.objs.size f cdv)) → sp vs H Q E →
      ∃ t, PSs (cxOf CX0 P w K mg base N qual (defScope st) f cdv A outer s H E).nox (defBody st) t ∧ t { nx := fun _ H' => Q .non H', rt := Q } (start N vs) H) : FnOk P w K mg base CX0 (k + 1) f fd ps sp := by
  obtain ⟨_, _, _, _, _, _, _, _, rfl, lk, hcd⟩ := F.ex
  exact fn_of lk hcd S len fun A outer s H vs Q E hr hsp => (body (.ref c) A outer s H vs Q E rfl hr hsp).elim fun t z => ⟨t, z.1.nox, z.2⟩
end
section
variable {P : Program} {w : World} {K : PySem.W.Frag} {mg mb : Str → Option Value} {k : Nat} {fa a : Addr} {fd : FuncData} {x : Str} {sp : Sp} {s₁ : Shared} {vs : List Value} {ns : List Int}
/-- what is tracked when the law is called: the script and the tables -/
def scrT (K : PySem.W.Frag) (a : Addr) (ob : Obj) (ns : List Int) (Ps : List Addr) : Hp := fun b => if b ∈ Ps then some (.tbl #[]) else scr K a ob ns b
theorem scrT_some {ob : Obj} {Ps : List Addr} {b : Addr} {u : HO} (h : scrT K a ob ns Ps b = some u) : (b ∈ Ps ∧ u = .tbl #[]) ∨ (b ∉ Ps ∧ b = a ∧ K.lookup a = none ∧ u = .frz ob (.lst (ns.map V.int))) := by
  unfold scrT at h
  split at h
  · rename_i c
    exact .inl ⟨c, (Option.some.inj h).symm⟩
  · rename_i c
    exact .inr ⟨c, scr_some h⟩
abbrev eob : Obj := { cls := .none, data := .fields #[] }
theorem call_lawT {cs : List (Addr × Addr)} (inK : K.In s₁.heap) (gl : s₁.heap.Ns mainGlobals mg) (bl : s₁.heap.Ns builtinsNs mb) (boot : ∀ x : Str, x ≠ "__name__" → mb x = bootBuiltins x) (lim : s₁.heap.NoLimit) (quiet : s₁.gens = #[])
    (empty : ∀ p ∈ cs, s₁.heap.get? p.2 = some eob) (noK : ∀ p ∈ cs, K.lookup p.2 = none) (head : ∀ p ∈ cs, PySem.W.CodeHd s₁.heap p.1 p.2)
    (bmain : ∃ (bm : Addr) (ob : Obj), mg "__builtins__" = some (.ref bm) ∧ bm ≠ builtinsNs ∧ s₁.heap.get? bm = some ob ∧ ob.cls = .type "module" ∧ ob.dict = some builtinsNs ∧ ob.data = .plain)
    (there : s₁.heap.get? a = some { cls := .type "list", data := .seq vs.toArray }) (areInts : IntsAre vs ns) (len : ns.length ≤ sizeLine) (room : Room k callerA)
    (F : ∀ base : Heap, K.In base → base.Ns mainGlobals mg → (∀ p ∈ cs, GxR.TabB base mg p.1 p.2) → FnG P w K mg base k fa fd [x] sp) (binds : ∀ (s : Shared) (u : Value), BindsTo s fd ⟨[u], []⟩ [(x, u)])
    (asked : ∀ H : Hp, Tbs (cs.map (·.2)) H → SqL K H a (ns.map V.int) → sp [.ref a] H (fun v _ => v = .bl true) fun _ _ _ => False) :
    codeAny (model P w) callerA (.call (.ref fa) ⟨[.ref a], []⟩) (fun r s' => r = .ok (.ret (.bool true)) ∧ OldK s₁.heap s'.heap ∧ s'.os = s₁.os ∧ AllBare s'.gens) s₁ := by
  let ob : Obj := { cls := .type "list", data := .seq vs.toArray }
  let Ps := cs.map (·.2)
  let H := scrT K a ob ns Ps
  have at_ : ∀ {b u}, H b = some u → (b ∈ Ps ∧ u = .tbl #[]) ∨ (b ∉ Ps ∧ b = a ∧ K.lookup a = none ∧ u = .frz ob (.lst (ns.map V.int))) := scrT_some
  have isT : ∀ b ∈ Ps, s₁.heap.get? b = some eob := fun b hb => by
    obtain ⟨p, hp, e⟩ := List.mem_map.mp hb
    rw [← e]
    exact empty p hp
  have aT : a ∉ Ps := fun z => by
    have q := Option.some.inj ((isT a z).symm.trans there)
    have q2 : Data.fields #[] = Data.seq vs.toArray _ := congrArg Obj.data q
    cases q2
  have no : ∀ b o, s₁.heap.get? b = some o → (∀ q n, o.data ≠ .seq q n) → o.data ≠ .fields #[] → H b = none := fun b o e d1 d2 => by
    cases c : H b with
    | none => rfl
    | some u =>
      rcases at_ c with ⟨hb, _⟩ | ⟨_, rfl, _⟩
      · have q := Option.some.inj (e.symm.trans (isT b hb))
        exact absurd (by rw [q]) d2
      · have q := Option.some.inj (e.symm.trans there)
        exact absurd (by rw [q]) (d1 vs.toArray _)
  have keepNs : ∀ {b : Addr} {m : Str → Option Value}, s₁.heap.Ns b m → (hidT s₁.heap H).Ns b m := fun {b m} ⟨o, es, ep, e, d, r⟩ =>
    ⟨o, es, ep, hidT_get e (no b o e (fun q n z => by rw [d] at z; cases z) fun z => by rw [d] at z; cases z), d, r⟩
  have keepK : K.In (hidT s₁.heap H) := fun b o e => hidT_get (inK b o e) (by
    cases c : H b with
    | none => rfl
    | some u =>
      rcases at_ c with ⟨hb, _⟩ | ⟨_, rfl, n, _⟩
      · obtain ⟨p, hp, e2⟩ := List.mem_map.mp hb
        rw [← e2, noK p hp] at e
        cases e
      · rw [n] at e
        cases e)
  have rel := vals_ints areInts
  have holds : HOk P w H s₁.heap := fun b u c => by
    rcases at_ c with ⟨hb, rfl⟩ | ⟨_, rfl, _, rfl⟩
    · exact isT b hb
    · exact ⟨there, by rw [List.length_map]; exact len, vs, _, rel, there⟩
  have tbs : Tbs Ps H := fun b hb => ⟨#[], if_pos hb, by first | trivial | simp [TriplesOk]⟩
  have script : SqL K H a (ns.map V.int) := by
    cases c : K.lookup a with
    | none => exact Or.inl (Or.inr ⟨ob, (if_neg aT).trans (if_pos ⟨rfl, c⟩)⟩)
    | some o =>
      have e := Option.some.inj ((inK a o c).symm.trans there)
      subst e
      exact Or.inr ⟨_, vs.toArray, _, c, rfl, rfl, rfl, by rw [List.size_toArray, areInts.length]; exact len, by simpa using rel⟩
  have modul : Mod K mg (hidT s₁.heap H) := ⟨keepK, keepNs gl, ⟨mb, keepNs bl, boot⟩, lim.elim fun mc z => ⟨mc, keepNs z.1, z.2⟩⟩
  have tabB : ∀ p ∈ cs, GxR.TabB (hidT s₁.heap H) mg p.1 p.2 := fun p hp => by
    refine ⟨?_, ?_, fun z => ?_⟩
    · obtain ⟨o, us, file, tf, flags, tg, inF, text, tt, e1, r0, r1, r2, rest⟩ := head p hp
      refine ⟨o, us, file, tf, flags, tg, inF, text, tt, hidT_get e1 (no _ _ e1 (fun q n z => ?_) fun z => ?_), r0, r1, r2, rest⟩
      · rw [r1] at z
        cases z
      · rw [r1] at z
        cases z
        simp at r2
    · obtain ⟨bm, o, b1, b2, b3, b4, b5, b6⟩ := bmain
      refine ⟨bm, o, b1, b2, fun q => ?_, fun q => ?_, hidT_get b3 (no _ _ b3 (fun q n z => ?_) fun z => ?_), b4, b5, b6⟩
      · obtain ⟨o2, es, ep, e, d, _⟩ := gl
        rw [q, e] at b3
        cases b3
        rw [d] at b6
        cases b6
      · rw [q, empty p hp] at b3
        cases b3
        cases b6
      · rw [b6] at z
        cases z
      · rw [b6] at z
        cases z
    · obtain ⟨o2, es, ep, e, d, _⟩ := gl
      rw [z, empty p hp] at e
      cases e
      cases d
  have start0 : Env0 P w K mg (hidT s₁.heap H) callerA [] s₁ H := ⟨rfl, modul, fun b o e => of_hidT e, Nat.le_of_eq (hidT_size _ _), trivial, fun b hb => (List.not_mem_nil hb).elim, holds, .of_eq quiet⟩
  refine codeAny_mono ((F _ keepK (keepNs gl) tabB).does callerA [] s₁ H _ [.ref a] [.ref a] _ _ room rfl start0 (binds s₁ (.ref a)) (.cons rfl .nil) (asked H tbs script)) ?_
  intro r s' post
  match r, post with
  | .error e, post => exact False.elim post
  | .ok .next, post => exact post.elim
  | .ok .brk, post => exact post.elim
  | .ok .cont, post => exact post.elim
  | .ok (.ret u), ⟨v, H', os, bare, un, held, rv, e⟩ =>
    cases (show v = V.bl true from e)
    cases (show u = Value.bool true from rv)
    have key : ∀ b o, b ∉ Ps → s₁.heap.get? b = some o → s'.heap.get? b = some o := fun b o nb g => by
      cases c : H b with
      | none => exact un.keep b o g c (fun z => (List.not_mem_nil z).elim) (fun z => (List.not_mem_nil z).elim)
      | some u =>
        rcases at_ c with ⟨hb, _⟩ | ⟨_, rfl, _, rfl⟩
        · exact absurd hb nb
        · rw [Option.some.inj (g.symm.trans there)]
          exact (held b _ (un.frzs b ob _ c)).1
    have grown : ∀ p ∈ cs, ∃ more : Array Value, s'.heap.get? p.2 = some { cls := .none, data := .fields more } := fun p hp =>
      (un.tbls p.2 #[] (if_pos (List.mem_map.mpr ⟨p, hp, rfl⟩))).elim fun more z => ⟨_, held p.2 _ z⟩
    refine ⟨rfl, ⟨fun b o g => ?_, fun b o g => ?_⟩, os, bare⟩
    · by_cases hb : b ∈ Ps
      · obtain ⟨p, hp, e2⟩ := List.mem_map.mp hb
        obtain ⟨more, hm⟩ := grown p hp
        subst e2
        cases Option.some.inj (g.symm.trans (empty p hp))
        exact .inr (.inl ⟨((head p hp).tab (empty p hp)).isCodeTable, rfl, #[], more, rfl, by rw [Array.empty_append]; exact hm⟩)
      · exact .inl (key b o hb g)
    · by_cases hb : b ∈ Ps
      · obtain ⟨p, hp, e2⟩ := List.mem_map.mp hb
        subst e2
        exact (grown p hp).elim fun _ z => ⟨_, z⟩
      · exact ⟨o, key b o hb g⟩
end
/-- the goal that is left of a law: xs, the defs in which a generator expression stands -/
theorem walk_ofT {l : PySem.W.OpenLaw} {n k : Nat} {q : Program} {loose : List Str} {XP : (Str → Option Value) → Heap → Prop} {YP : World → Heap → Prop} {d : DefRec} {K : Params → PySem.W.Frag} {sp : World → List Addr → Sp} {x : Str} (xs : List Str)
    (most : l.most = some n) (n9 : n ≤ sizeLine) (nodf : d.params.defaults = []) (room : Room k callerA) (inK : ∀ (w : World) (h : Heap), YP w h → (K w.params).In h) (recs : ∀ y ∈ xs, ((recsOf q).any fun e => e.name == y) = true)
    (F : ∀ (w : World) (mg : Str → Option Value) (fa : Addr) (h : Heap), (K w.params).In h → h.Ns mainGlobals mg → mg d.name = some (.ref fa) →
      ∃ (fd : FuncData) (cs : List (Addr × Addr)), (∀ p ∈ cs, ∃ y ∈ xs, PySem.W.tabIn (K w.params) y = some p) ∧ (∀ p ∈ cs, (K w.params).lookup p.2 = none) ∧ (∀ (s : Shared) (u : Value), BindsTo s fd ⟨[u], []⟩ [(x, u)]) ∧
        ∀ base : Heap, (K w.params).In base → base.Ns mainGlobals mg → (∀ p ∈ cs, GxR.TabB base mg p.1 p.2) → FnG l.prog w (K w.params) mg base k fa fd [x] (sp w (cs.map (·.2))))
    (asked : ∀ (w : World) (Ps : List Addr) (H : Hp) (a : Addr) (ns : List Int), ns.length ≤ n → Tbs Ps H → SqL (K w.params) H a (ns.map V.int) → sp w Ps [.ref a] H (fun v _ => v = .bl true) fun _ _ _ => False) :
    PySem.W.WalkO q loose XP YP l.row.toRowW d [] (fun f vs => PySem.call f vs) :=
  Att.attach_call most nodf fun w s₀ s₁ mg mb fa o pm cd doc a vs ns G Y ho hd hcd hmg hobj hints hlen hg => by
    obtain ⟨fd, cs, ht, hn, b, f⟩ := F w mg fa _ (inK w _ Y) G.T.g hmg
    have tab : ∀ p ∈ cs, PySem.W.CodeHd s₁.heap p.1 p.2 ∧ s₁.heap.get? p.2 = some eob := fun p hp => by
      obtain ⟨y, hy, e⟩ := ht p hp
      obtain ⟨r, hr⟩ : ∃ r, (recsOf q).find? (fun e => e.name == y) = some r := Option.isSome_iff_exists.mp (by
        rw [List.find?_isSome]
        exact List.any_eq_true.mp (recs y hy))
      exact PySem.W.tab_of G.T (inK w _ Y) hr e
    exact call_lawT (inK w _ Y) G.T.g G.T.b G.T.builtins G.T.nolimit hg (fun p hp => (tab p hp).2) hn (fun p hp => (tab p hp).1) G.T.bmain hobj hints (Nat.le_trans hlen n9) room f b fun H tbs sc => asked w _ H a ns hlen tbs sc
/-- a comprehension in a comprehension -/
theorem blkOk_nest {N : List Str} {outer scope sc : Scope} {own : List (Str × Nat)} {cl : List (Str × Addr)} {C : Addr} {env : Env} (hs : env.scope = sc) (h : blkC N (relS outer sc) scope own = true) : BlkOk N (compEnvC outer cl C env).scope scope own := by
  subst hs
  exact blkOk_by h
/-- tuple(x) of a list or a tuple -/
def rTupI (K : PySem.W.Frag) : List V → Hp → VK → Prop := fun xs H Q => ∃ p ys, xs = [.ref p] ∧ ((SqL K H p ys ∧ ∀ l H', Same H H' → H l = none → H' l = some (.tup ys) → Q (.ref l) H') ∨ (SqT K H p ys ∧ Q (.ref p) H))
theorem tupI {X : Cx} {K : PySem.W.Frag} (h : X.K = K) : CallR X (.type "tuple") (rTupI K) := fun pins s σ H xs us Q I r ⟨p, ys, e, q⟩ =>
  call_tuple_of pins s σ H xs us Q I r ⟨p, ys, e, h ▸ q.imp (fun z => ⟨z.1, fun l hl => z.2 l _ (same_new hl) hl upd_same⟩) id⟩
theorem tabIn_of {K : PySem.W.Frag} {x : Str} {f c P : Addr} {oc e : Value} {od dd : Option Addr} {fd : FuncData} {osl sl : Array (Option Value)} {vs : Array Value} (a : PySem.W.nsIn K mainGlobals x = some (some (.ref f))) (l : K.lookup f = some ⟨oc, od, .func fd, osl⟩)
    (hc : fd.code = .ref c) (q : K.lookup c = some ⟨e, dd, .fields vs, sl⟩) (p : vs[11]? = some (.ref P)) : PySem.W.tabIn K x = some (c, P) := by
  unfold PySem.W.tabIn
  rw [a]
  dsimp only
  rw [l]
  dsimp only
  rw [hc]
  dsimp only
  rw [q]
  dsimp only
  rw [p]
end KR
/-! ### all(test for x in ..) whose test names one local of the def (a cell) -/
namespace KR
open PySem PySem.Spec PyProof.Rows L2
/-- the frame's scope: one name of its own, one captured -/
structure GnF (scope : Scope) (x y : Str) : Prop where
  kind : scope.kind = .function
  co : scope.isCoroutine = false
  cell : ∀ z ∈ scope.names, z.2 ≠ .cell
  free : ∀ z ∈ scope.names, z.2 = .free → z.1 = y
  clo : ∀ cells : List (Str × Addr), cloFrom cells scope.names [] = [(y, (cells.lookup y).getD 0)]
  fy : scope.names.lookup y = some .free
  dot : scope.names.lookup (".0" : Str) = some NameKind.local
  loc : scope.names.lookup x = some .local
theorem GnF.ne {scope : Scope} {x y : Str} (S : GnF scope x y) : x ≠ y := fun e => by
  have := S.loc.symm.trans (e ▸ S.fy)
  cases this
/-- the frame's environment, its around -/
abbrev gEnvF (X : Cx) (scope : Scope) (y : Str) (cy C : Addr) (code : Value) : Env := genEnv scope [(y, cy)] C code builtinsNs X.env
/-- the frame's context: it began at s, H; fp: what is walked -/
abbrev gCxF (X : Cx) (ge : Expr) (it : Addr) (x y : Str) (s : Shared) (H : Hp) (env : Env) (fp : List Addr) : Cx :=
  { prog := X.prog, w := X.w, K := X.K, mg := X.mg, base := X.base, A := gAr X ge it env, N := [x, y], s_0 := s, H_0 := H, env := env, outer := X.stack, stack := env :: X.stack, ex := fp, fn := fun _ => false, calm := true, pn := [], xe := fun _ _ => False }
section
variable {X : Cx} {pins : List (Addr × Obj)} {σ : L2.St} {H : Hp} {s : Shared}
theorem gen_okF {elt : Expr} {cs : List Comprehension} {sc : Scope} {gp : Pos} {it : Addr} {x y : Str} {cy : Addr} {scope : Scope} {code : Value} {fp : List Addr} (I : Inv X pins σ H s) (S : GnF scope x y) (hcy : X.env.cells.lookup y = some cy) (hh : X.A.handled = none) (hfp : ∀ b ∈ fp, FpOk X pins H b ∧ b < s.heap.objs.size) :
    (gCxF X (.GeneratorExp elt cs sc gp) it x y s H (gEnvF X scope y cy s.heap.objs.size code) fp).Ok := by
  have one : ∀ z c, ([(y, cy)] : List (Str × Addr)).lookup z = some c → z = y ∧ c = cy := fun z c e => by
    rw [List.lookup_cons] at e
    cases hz : z == y with
    | true =>
      rw [hz] at e
      exact ⟨by simpa using hz, (Option.some.inj e).symm⟩
    | false =>
      rw [hz] at e
      cases e
  exact {
    mod := I.ok.mod, kind := S.kind, glob := I.ok.glob, blt := rfl, above := Nat.le_refl _
    inj := fun z u c e1 e2 => (one z c e1).1.trans (one u c e2).1.symm
    has := fun z h => (by
      rcases h with h | h
      · exact absurd rfl (S.cell _ (PySem.mem_of_lookup h))
      · have e := S.free _ (PySem.mem_of_lookup h) rfl
        have e : z = y := e
        subst e
        exact ⟨cy, by show ([(z, cy)] : List (Str × Addr)).lookup z = some cy; rw [List.lookup_cons, beq_self_eq_true]⟩)
    cab := fun y c z _ => (by cases z)
    hd := fun _ => hh
    frames := (by
      show pushEnvs [gEnvF X scope y cy s.heap.objs.size code] (pushEnvs [] X.A.frames) = _
      rw [I.ok.frames] <;> rfl)
    stk := .inr ⟨rfl, rfl⟩
    exf := fun b hb => ⟨Nat.ne_of_lt (hfp b hb).2, fun z c e => (by
      have e2 := (one z c e).2
      rw [e2]
      exact (hfp b hb).1.2.2.2.2.1 y cy hcy)⟩
    bs := I.bs, bsz := Nat.le_trans I.ok.bsz I.sz
    noex := fun b o e hb => (by
      obtain ⟨_, _, _, old | old, _⟩ := (hfp b hb).1
      · exact I.ok.noex b o e old
      · have z := Heap.lt_size e
        have z2 := I.ok.bsz
        exact Nat.lt_irrefl b (Nat.lt_of_lt_of_le z (Nat.le_trans z2 old)))
    exfs := fun b hb hf => (by
      obtain ⟨⟨_, n1, n2, _⟩, _⟩ := hfp b hb
      rcases List.mem_cons.mp (I.stkSub b hf) with e | e
      · exact n1 e
      · exact n2 e)
    funs := I.stack, frf := I.stkFree }
/-- the frame as it begins: its space at C, its generator behind it -/
theorem gen_invF {elt : Expr} {cs : List Comprehension} {sc : Scope} {gp : Pos} {it : Addr} {x y : Str} {cy : Addr} {w : V} {scope : Scope} {code : Value} {fp : List Addr} {h' : Heap} {G : Obj} {g' : Array GenState} {tk : Nat} {m : Str → Option Value} (I : Inv X pins σ H s) (S : GnF scope x y) (hcy : X.env.cells.lookup y = some cy) (hw : ∃ u, RelV w u ∧ s.heap.IsCell cy (some u)) (hh : X.A.handled = none)
    (hfp : ∀ b ∈ fp, FpOk X pins H b ∧ b < s.heap.objs.size) (hn : h'.Ns s.heap.objs.size m) (hsz : h'.objs.size = s.heap.objs.size + 1) (kp : ∀ b o, s.heap.get? b = some o → h'.get? b = some o) (hg : AllBare g') (hG : ∀ v, G.data ≠ .cell v) (hF : G.isFreed = false) :
    Inv (gCxF X (.GeneratorExp elt cs sc gp) it x y s H (gEnvF X scope y cy s.heap.objs.size code) fp) [(h'.objs.size, G)] [none, some w] H { s with heap := h'.push G, gens := g', toks := tk } := by
  have gone : ∀ z c, ([(y, cy)] : List (Str × Addr)).lookup z = some c → z = y ∧ c = cy := fun z c e => by
    rw [List.lookup_cons] at e
    cases hz : z == y with
    | true =>
      rw [hz] at e
      exact ⟨by simpa using hz, (Option.some.inj e).symm⟩
    | false =>
      rw [hz] at e
      cases e
  have kp2 : ∀ b o, s.heap.get? b = some o → (h'.push G).get? b = some o := fun b o e => Heap.get?_push_of_some _ (kp b o e)
  have gt : s.heap.objs.size ≤ h'.objs.size := by omega
  exact {
    ok := gen_okF I S hcy hh hfp, os := rfl, bare := hg, base := Un.kept kp2
    loc := ⟨m, hn.push _, fun i z v e0 e vis => (by
      match i, e0, e with
      | 0, _, e => cases e
      | 1, e0, e =>
        cases e0
        cases e
        obtain ⟨u, ru, hu⟩ := hw
        exact ⟨u, ru, .inr ⟨.inr S.fy, cy, by show ([(y, cy)] : List (Str × Addr)).lookup y = some cy; rw [List.lookup_cons, beq_self_eq_true], hu.imp fun o ho => ⟨kp2 _ _ ho.1, ho.2⟩⟩⟩
      | j + 2, e0, _ => cases e0)⟩
    cell := fun z c e => (by
      have e2 := (gone z c e).2
      rw [e2]
      obtain ⟨u, _, hu⟩ := hw
      exact ⟨_, hu.imp fun o ho => ⟨kp2 _ _ ho.1, ho.2⟩⟩)
    free := I.hok.fresh (Nat.le_refl _)
    freeC := fun z c e => (by
      have e2 := (gone z c e).2
      rw [e2]
      exact I.freeC y cy hcy)
    pin := fun p hp => (by
      obtain rfl := List.mem_singleton.mp (show p ∈ [(h'.objs.size, G)] from hp)
      refine ⟨Heap.get?_push_size _ hF, I.hok.fresh gt, fun z => ?_, fun z => ?_, hG⟩
      · have z2 : h'.objs.size = s.heap.objs.size := z
        omega
      · rcases List.mem_cons.mp (I.stkSub _ z) with e | e
        · have z2 := I.lt
          rw [← e] at z2
          have z3 : h'.objs.size < s.heap.objs.size := z2
          omega
        · exact I.nofs gt e)
    hok := I.hok.kept kp2, len := rfl }
end
/-- what is so between two steps of the generator, i things taken -/
def GStF (w : V) (Y : Cx) (pn : List (Addr × Obj)) (tn : Nat → Heap → Prop) (fp : List Addr) (W : Nat → Hp → Prop) (i : Nat) (s : Shared) : Prop :=
  ∃ H', Inv Y pn [none, some w] H' s ∧ tn i s.heap ∧ (∀ b ∈ fp, H' b = none) ∧ W i H'
/-- how it ends, how it hands out -/
def gFinF (w : V) (Y : Cx) (pn : List (Addr × Obj)) (Q : VK) (b : Bool) (s : Shared) : Prop := ∃ H', Inv Y pn [none, some w] H' s ∧ Q (.bl b) H'
abbrev gEndF (w : V) (Y : Cx) (pn : List (Addr × Obj)) (Q : VK) : GenEnd := fun _ _ r s1 => r = .ok .next ∧ gFinF w Y pn Q true s1
def gProF (w : V) (Y : Cx) (pn : List (Addr × Obj)) (tn : Nat → Heap → Prop) (fp : List Addr) (W : Nat → Hp → Prop) (Q : VK) : Protocol := fun _ _ v s kap =>
  ∃ b : Bool, v = .bool b ∧ (b = true → ∃ i, GStF w Y pn tn fp W i s ∧ ∀ s', GStF w Y pn tn fp W i s' → kap (.send .none) s') ∧ (b = false → gFinF w Y pn Q false s)
/-- one turn's reading -/
def GTurnF (w : V) (J : It) (te : TE) (n : Nat) (W : Nat → Hp → Prop) (Q : VK) : Prop := ∀ i H2, W i H2 →
  (J.stop i H2 ∧ Q (.bl true) H2) ∨ (J.go i H2 ∧ i < n ∧ ∀ x H3, J.yld i H2 x H3 → te [some x, some w] H3 fun u H4 => ∃ b, u = .bl b ∧ if b = true then W (i + 1) H4 else Q (.bl false) H4)
section
variable {X : Cx} {elt iter : Expr} {x y : Str} {w : V} {px gp : Pos} {sc : Scope} {it C : Addr} {s₁ : Shared} {H₁ : Hp} {code : Value} {fp : List Addr} {pn : List (Addr × Obj)} {tn : Nat → Heap → Prop} {J : It} {te : TE} {n : Nat} {W : Nat → Hp → Prop} {Q : VK}
theorem gen_segF {Y : Cx} {env : Env} (hY : Y = gCxF X (.GeneratorExp elt [⟨.Name x px, iter, [], 0⟩] sc gp) it x y s₁ H₁ env fp) (hco : env.scope.isCoroutine = false) (T : Turn X.prog X.w X.K (.Name x px) J fp it tn)
    (pg : PG Y (.Name x px) (gName 0)) (pe : PE Y elt te) (turn : GTurnF w J te n W Q) (hpn : ∀ b ∈ fp, ∀ p ∈ pn, p.1 ≠ b) :
    ∀ (m i : Nat) (s s₀ : Shared), n - i = m → GStF w Y pn tn fp W i s → Seg (model X.prog X.w) X.A.in1.in1 (gEndF w Y pn Q) (gProF w Y pn tn fp W Q) m s₀
      (.compLoop (.GeneratorExp elt [⟨.Name x px, iter, [], 0⟩] sc gp) 0 (.ref it) .none env) ((model X.prog X.w).den (.compLoop (.GeneratorExp elt [⟨.Name x px, iter, [], 0⟩] sc gp) 0 (.ref it) .none env)) [] s := by
  have hA : Y.A = X.A.in1.in1.over (.compLoop (.GeneratorExp elt [⟨.Name x px, iter, [], 0⟩] sc gp) 0 (.ref it) .none env) [] := by rw [hY]
  have hP : Y.prog = X.prog := by rw [hY]
  have hW : Y.w = X.w := by rw [hY]
  have hK : Y.K = X.K := by rw [hY]
  have hC : Y.calm = true := by rw [hY]
  have hE : Y.env = env := by rw [hY]
  have hX : Y.ex = fp := by rw [hY]
  have hN : Y.pn = [] := by rw [hY]
  have hxe : Y.xe = fun _ _ => False := by rw [hY]
  have stat : ∀ {σ' : L2.St} {H' : Hp} {s' : Shared}, Inv Y pn σ' H' s' → (∀ b ∈ fp, H' b = none) → ∀ b ∈ fp, FpOk Y pn H' b := fun {σ' H' s'} I' hn b hb => by
    have hb2 : b ∈ Y.ex := by rw [hX]; exact hb
    refine ⟨hn b hb, (I'.ok.exf b hb2).1, I'.ok.exfs b hb2, .inl hb2, fun y c e => (I'.ok.exf b hb2).2 y c e, fun p hp => ?_⟩
    rw [hN] at hp
    exact hpn b hb p hp
  have runG := fun pins s σ H v u Q => pg.run pins s σ H v u Q
  have runE := fun pins s σ H Q => pe.run pins s σ H Q
  rw [hA, hP, hW, hE, hxe] at runG runE
  intro m
  induction m with
  | zero =>
    rintro i s s₀ hm ⟨H, I, st, nf, wv⟩
    show Seg _ _ _ _ _ s₀ _ ((compTurn _ 0 (.ref it) .none env).onRaise (leaving env)) [] s
    rw [compTurn_gen, Sem.onRaise_eq_wrap]
    refine seg_bind_wrap (wpAny_standAt ?_)
    rcases turn i H wv with ⟨stop, q⟩ | ⟨_, lt, _⟩
    · have td := T.done Y hP hW hK hC i pn s _ H (fun _ _ => False) I (stat I nf) st stop
      rw [hA] at td
      refine seg_bind_wrap (thnF td fun r s2 ⟨e, I2⟩ => ?_)
      rw [e]
      exact seg_end (.ok .next) ⟨rfl, H, I2, q⟩
    · exact absurd lt (by omega)
  | succ m ih =>
    rintro i s s₀ hm ⟨H, I, st, nf, wv⟩
    show Seg _ _ _ _ _ s₀ _ ((compTurn _ 0 (.ref it) .none env).onRaise (leaving env)) [] s
    rw [compTurn_gen, Sem.onRaise_eq_wrap]
    refine seg_bind_wrap (wpAny_standAt ?_)
    rcases turn i H wv with ⟨stop, q⟩ | ⟨go, lt, step⟩
    · have td := T.done Y hP hW hK hC i pn s _ H (fun _ _ => False) I (stat I nf) st stop
      rw [hA] at td
      refine seg_bind_wrap (thnF td fun r s2 ⟨e, I2⟩ => ?_)
      rw [e]
      exact seg_end (.ok .next) ⟨rfl, H, I2, q⟩
    · have ti := T.item Y hP hW hK hC i pn s _ H (fun _ _ => False) I (stat I nf) st go
      rw [hA] at ti
      refine seg_bind_wrap (thnF ti fun r s2 ⟨u, e, h2⟩ => ?_)
      rw [e]
      refine seg_bind_wrap (thnF h2 fun _ s3 ⟨y0, H3, I3, r3, y3, st3, n3⟩ => ?_)
      have I3' := I3.pinned (stat I3 n3) (T.obj _ _ st3)
      refine seg_bind_wrap (thnF (runG _ s3 _ H3 y0 u _ I3' r3 (show gName 0 y0 [none, some w] H3 (fun σ' H' => σ' = [some y0, some w] ∧ H' = H3) from ⟨rfl, rfl⟩)) fun _ s4 ⟨σ4, H4, I4, e4, e5⟩ => ?_)
      subst e4 e5
      refine seg_bind_wrap (wpAny_tests_nil ?_)
      simp only [if_true]
      have yo : ∀ v, yieldOut env v = yieldValue v := fun v => by
        unfold yieldOut
        rw [hco] <;> rfl
      simp only [yo]
      rw [Sem.bind_eq_wrap', Sem.bind_eq_wrap', Sem.wrap_wrap, Sem.wrap_wrap]
      refine seg_wrap (thnF (runE _ s4 _ _ _ I4 (step y0 _ y3)) fun v s5 ⟨yv, H5, I5, r5, b, e5, q5⟩ => ?_)
      subst e5
      obtain rfl : v = Value.bool b := r5
      have pin' : ∀ b ∈ fp, ∀ o, s3.heap.get? b = some o → s5.heap.get? b = some o ∧ H5 b = none := fun b hb o e =>
        let z := I5.pin (b, o) (List.mem_append_right _ (List.mem_append_right _ (mem_pinsAt hb e)))
        ⟨z.1, z.2.1⟩
      have I6 : Inv Y pn [none, some w] H5 s5 := I5.unpinned.weak rfl fun j v e => by
        match j, e with
        | 0, e => cases e
        | 1, e => exact e
        | j + 2, e => cases e
      have done : W (i + 1) H5 → GStF w Y pn tn fp W (i + 1) s5 := fun w5 => ⟨H5, I6, T.keep _ _ _ st3 fun b hb o e => (pin' b hb o e).1, fun b hb => (by
        obtain ⟨o, e, _⟩ := T.obj _ _ st3 b hb
        exact (pin' b hb o e).2), w5⟩
      refine seg_at (seg_yield rfl rfl rfl ⟨b, rfl, fun hb => ?_, fun hb => ?_⟩)
      · rw [if_pos hb] at q5
        exact ⟨i + 1, done q5, fun s' hj => seg_again rfl (ih (i + 1) s' s' (by omega) hj)⟩
      · rw [if_neg (by rw [hb]; exact Bool.false_ne_true)] at q5
        exact ⟨H5, I6, q5⟩
/-- the generator at a, its number g: what it does next -/
def GAtF (w : V) (M : Model) (A : Around) (Y : Cx) (pn : List (Addr × Obj)) (tn : Nat → Heap → Prop) (fp : List Addr) (W : Nat → Hp → Prop) (Q : VK) (g m : Nat) (s : Shared) : Prop :=
  ∃ i gs, GStF w Y pn tn fp W i s ∧ s.gens[g]? = some gs ∧ ∀ s', GStF w Y pn tn fp W i s' → gs.Goes M A (gEndF w Y pn Q) (gProF w Y pn tn fp W Q) m (.send .none) s'
theorem gst_setF {Y : Cx} {i g : Nat} {s : Shared} {gs0 : GenState} (h : GStF w Y pn tn fp W i s) (hy : gs0.bare = true) : GStF w Y pn tn fp W i (s.setGen g gs0) := by
  obtain ⟨H', I, r⟩ := h
  exact ⟨H', inv_setGen I hy, r⟩
theorem fin_setF {Y : Cx} {g : Nat} {s : Shared} {gs0 : GenState} {b : Bool} (h : gFinF w Y pn Q b s) (hy : gs0.bare = true) : gFinF w Y pn Q b (s.setGen g gs0) := by
  obtain ⟨H', I, r⟩ := h
  exact ⟨H', inv_setGen I hy, r⟩
theorem fin_keptF {Y : Cx} {s : Shared} {b : Bool} {h' : Heap} (h : gFinF w Y pn Q b s) (k : ∀ b o, s.heap.get? b = some o → h'.get? b = some o) : gFinF w Y pn Q b { s with heap := h' } := by
  obtain ⟨H', I, r⟩ := h
  exact ⟨H', I.kept (t' := s.toks) k, r⟩
theorem all_runF {Y : Cx} {a : Addr} {g : Nat} {G : Obj} {R : Result → Shared → Prop} (hp : (a, G) ∈ pn) (hG : ∀ h : Heap, h.get? a = some G → h.IsGen a g) (hh : X.A.handled = none) (hd : X.A.depth + 2 < recursionLimit)
    (hR : ∀ b s', gFinF w Y pn Q b s' → R (.ok (.ret (.bool b))) s') :
    ∀ (m : Nat) (s : Shared), GAtF w (model X.prog X.w) X.A.in1.in1 Y pn tn fp W Q g m s → codeAny (model X.prog X.w) X.A (.builtin "all.loop" ⟨[.ref a], []⟩) R s := by
  have turn : ∀ (m : Nat) (s : Shared), GAtF w (model X.prog X.w) X.A.in1.in1 Y pn tn fp W Q g m s →
      (∀ s', (∃ k, m = k + 1 ∧ GAtF w (model X.prog X.w) X.A.in1.in1 Y pn tn fp W Q g k s') → codeAny (model X.prog X.w) X.A (.builtin "all.loop" ⟨[.ref a], []⟩) R s') → codeAny (model X.prog X.w) X.A (.builtin "all.loop" ⟨[.ref a], []⟩) R s := by
    rintro m s ⟨i, gs, st, hgs, goes⟩ next
    obtain ⟨H, I, _⟩ := id st
    have gen : s.heap.IsGen a g := hG _ (I.pin (a, G) (List.mem_append_right _ hp)).1
    have hgl : g + 1 ≤ s.gens.size := (Array.getElem?_eq_some_iff.mp hgs).1
    refine codeAny_builtin (F.entry_all_loop) ?_
    rw [Around.under_plainId (F.plain_all_loop) _]
    show wpAny (model X.prog X.w) X.A.in1 (pyNext (.ref a) >>= _) _ _ s
    refine wpAny_bind (GenW.wpAny_gsz (n := g + 1) hgl (wpAny_pyNext_genexpQ (n := m) (P := fun _ _ s1 => gFinF w Y pn Q true s1) (Y := gProF w Y pn tn fp W Q) hh I.nolimit (by show X.A.depth < recursionLimit; omega) gen hgs (goes _ (gst_setF st rfl)) (fun v s1 gs' hb hv => ?_) (fun s1 hf h' hk => ?_)))
    · intro hgl2
      obtain ⟨b, rfl, yes, no⟩ := hv
      refine wpAny_bind (wpAny_holding (wpAny_truthy_bool ?_))
      refine wpAny_bind (wpAny_letGo ?_)
      cases b with
      | true =>
        obtain ⟨i2, st2, kap⟩ := yes rfl
        simp only [if_true]
        cases m with
        | zero => exact (kap s1 st2).elim
        | succ k => exact wpAny_pure ⟨plainId_quiet (F.plain_all_loop) _, next _ ⟨k, rfl, i2, gs', gst_setF st2 hb, set_at hgl2, fun s' h => kap s' h⟩⟩
      | false =>
        simp only [Bool.false_eq_true, if_false]
        exact wpAny_bind (wpAny_rule (wpAny_pure (hR false _ (fin_setF (no rfl) hb))))
    · intro _
      refine wpAny_bind (wpAny_rule (wpAny_pure ?_))
      exact hR true _ (fin_keptF (fin_setF hf rfl) hk)
  intro m
  induction m with
  | zero => exact fun s h => turn 0 s h fun s' ⟨k, e, _⟩ => (by cases e)
  | succ m ih => exact fun s h => turn (m + 1) s h fun s' ⟨k, e, z⟩ => ih s' (by cases e; exact z)
end
/-- .. in the def: the table of the def's code may have grown ahead of it -/
def tAllF (P : Addr) (j : Nat) (wi : TI) (te : TE) : TE := fun σ H Q => wi σ H fun J H1 => GxR.TabG H1 P ∧ ∃ (w : V) (n : Nat) (W : Nat → Hp → Prop), σ[j]? = some (some w) ∧ (∀ H2, GxR.Tabbed P H1 H2 → W 0 H2) ∧ GTurnF w J te n W Q
theorem gen_denF {w : V} {X : Cx} {elt iter : Expr} {x : Str} {px gp : Pos} {sc : Scope} {it : Addr} {env : Env} {fp : List Addr} {pn : List (Addr × Obj)} {tn : Nat → Heap → Prop} {W : Nat → Hp → Prop} {Q : VK} {Y : Cx} {J : It} {n : Nat} (T : Turn X.prog X.w X.K (.Name x px) J fp it tn)
    (loop : ∀ (s s₀ : Shared), GStF w Y pn tn fp W 0 s → Seg (model X.prog X.w) X.A.in1.in1 (gEndF w Y pn Q) (gProF w Y pn tn fp W Q) n s₀ (.compLoop (.GeneratorExp elt [⟨.Name x px, iter, [], 0⟩] sc gp) 0 (.ref it) .none env)
      ((model X.prog X.w).den (.compLoop (.GeneratorExp elt [⟨.Name x px, iter, [], 0⟩] sc gp) 0 (.ref it) .none env)) [] s) (s s₀ : Shared) (st : GStF w Y pn tn fp W 0 s) :
    Seg (model X.prog X.w) X.A.in1.in1 (gEndF w Y pn Q) (gProF w Y pn tn fp W Q) n s₀ (.compStart (.GeneratorExp elt [⟨.Name x px, iter, [], 0⟩] sc gp) 0 (.ref it) .none env)
      ((model X.prog X.w).den (.compStart (.GeneratorExp elt [⟨.Name x px, iter, [], 0⟩] sc gp) 0 (.ref it) .none env)) [] s := by
  have go := loop s s₀ st
  obtain ⟨H', I, st0, _⟩ := id st
  show Seg _ _ _ _ _ s₀ _ ((compStart _ 0 (.ref it) .none env).onRaise (leaving env)) [] s
  unfold compStart
  rw [Sem.onRaise_eq_wrap]
  show Seg _ _ _ _ _ s₀ _ ((ask >>= _).wrap _ _ _ _) [] s
  refine seg_bind_wrap (wpAny_askSetting ?_)
  split
  · exact seg_again rfl go
  · refine seg_bind_wrap (wpAny_rule ?_)
    show Seg _ _ _ _ _ s₀ _ ((standAt iter.pos >>= _).wrap _ _ _ _) [] s
    refine seg_bind_wrap (wpAny_standAt (seg_bind_wrap ?_))
    exact T.self _ 0 s _ _ st0 (seg_again rfl go)
theorem pe_allF {X : Cx} {c P : Addr} {elt iter : Expr} {x y : Str} {jy : Nat} {px p pos gp : Pos} {scope : Scope} {wi : TI} {te : TE} {k : Nat}
    (hr : Room k X.A) (hg : Gl X "all") (hm : X.mg "all" = none) (hb : bootBuiltins "all" = some (.builtin "all")) (TB : GxR.TabB X.base X.mg c P) (hcode : X.env.code = .ref c) (S : GnF scope x y) (hN : X.N[jy]? = some y) (hky : X.env.kindOf y = some .cell) (hi : PI X (.Name x px) iter wi)
    (hel : ∀ (it cy C : Addr) (s : Shared) (H : Hp) (code : Value) (fp : List Addr), PE (gCxF X (.GeneratorExp elt [⟨.Name x px, iter, [], 0⟩] scope gp) it x y s H (gEnvF X scope y cy C code) fp) elt te)
    (hs : ∀ v, genFold iter X.env v = pure v)
    (he : starEach [.GeneratorExp elt [⟨.Name x px, iter, [], 0⟩] scope gp] X.env = (false, eval (.GeneratorExp elt [⟨.Name x px, iter, [], 0⟩] scope gp) X.env) :: starEach [] X.env := by rfl) :
    PE X (.Call (.Name "all" p) [.GeneratorExp elt [⟨.Name x px, iter, [], 0⟩] scope gp] [] pos) (tAllF P jy wi te) := by
  have dep := hr.dp
  refine ⟨fun pins s σ H Q I h => ?_⟩
  refine wpAny_Call_Name_kw (ld_blt I hg hm hb ?_)
  refine PyProof.Rows.callWith_builtin1 ?_ he (by rfl)
  rw [he]
  obtain ⟨cy, hcy⟩ := I.ok.has y (.inl hky)
  refine Calls.spliced_cons (wpAny_GeneratorExp_make (cl := [(y, cy)]) S.co ?_ S.cell S.dot S.kind (by omega) ?_ hs)
  · rw [closure_ok (fun z hz e => by rw [S.free z hz e]; exact ⟨cy, hcy⟩), S.clo, hcy] <;> rfl
  refine thn (hi.run pins s σ H _ I h) fun xv s1 hx => thn hx fun itv s2 ⟨it, fp, tn, J, H2, e, I2, T, st2, f2, TG, w, n, W, hw0, w0, turn⟩ => ⟨I2.nolimit, ?_⟩
  subst e
  obtain ⟨ps, hP, ht⟩ := TG
  have hPs : s2.heap.get? P = some { cls := .none, data := .fields ps } := I2.hok P _ hP
  have cd : PySem.W.CodeHd s2.heap c P := TB.code.keeps I2.bk
  have fpP : ∀ b ∈ fp, b ≠ P := fun b hb z => by
    have q := (f2 b hb).1
    rw [z, hP] at q
    cases q
  have cont : ∀ (code : Value) (h3 : Heap) (tk : Nat) (ps' : Array Value), Heap.ExtBut P s2.heap h3 → s2.heap.objs.size ≤ h3.objs.size → h3.get? P = some { cls := .none, data := .fields ps' } → (∃ more, ps' = ps ++ more) → TriplesOk ps'.toList →
      wpAny (model X.prog X.w) X.A (builtinsFor X.env.globals X.env.builtins) (fun bi s₄ => ∀ h', h'.Ns s₄.heap.objs.size (fun y => if y = ".0" then some (.ref it) else none) →
        Heap.SameBut s₄.heap.objs.size (s₄.heap.push { cls := .type "frame", data := .dict #[] }) h' → wpAny (model X.prog X.w) X.A (spliced (backTo pos (starEach [] X.env))) (fun us s' => wpAny (model X.prog X.w) X.A (call (.builtin "all") (.ref h'.objs.size :: us)) (EP X pins σ Q) X.xe s') X.xe
          { s₄ with gens := s₄.gens.push (.fresh (.compStart (.GeneratorExp elt [⟨.Name x px, iter, [], 0⟩] scope gp) 0 (.ref it) .none (genEnv scope [(y, cy)] s₄.heap.objs.size code bi X.env))), toks := s₄.toks + 1 + 1 + 1,
                    heap := h'.push { cls := .type "generator", data := .fields #[.int s₄.gens.size 0, .str "<genexpr>" (s₄.toks + 1), .str (X.env.qual ++ "<genexpr>") (s₄.toks + 1 + 1)] } }) X.xe { s2 with heap := h3, toks := tk } := by
    intro code h3 tk ps' hx hsz hP3 hmore ht3
    obtain ⟨bm, ob, e1, e2, e3, e4, e5, e6, e7, e8⟩ := TB.bm
    have keep3 : ∀ b u, b ≠ P → s2.heap.get? b = some u → h3.get? b = some u := fun b u hb e => hx b u hb e
    refine wpAny_builtinsFor (m := X.mg) (by rw [I2.ok.glob]; exact (I2.mod.glob.keeps I2.bk).extBut hx TB.gP) e1 e2 (keep3 _ _ e4 (I2.bk _ _ e5)) e6 e7 e8 ?_
    obtain ⟨more, em⟩ := hmore
    have I4 := GxR.inv_tab (more := more) (h' := h3) (g' := s2.gens) (d' := s2.drawn) (t' := tk) I2 hP (fun b u hb e => keep3 b u hb e) (by rw [← em]; exact hP3) I2.bare
    generalize hs4 : ({ s2 with heap := h3, toks := tk } : Shared) = s4 at I4 ⊢
    have h4 : s4.heap = h3 := by rw [← hs4]
    have tabbed : GxR.Tabbed P H2 (upd H2 P (.tbl (ps ++ more))) := ⟨⟨_, upd_same, by rw [← em]; exact ht3⟩, fun b hb => upd_ne hb⟩
    generalize upd H2 P (.tbl (ps ++ more)) = H4 at I4 tabbed
    have lt4 : ∀ b ∈ fp, b < s4.heap.objs.size := fun b hb => by
      obtain ⟨o, e, _⟩ := T.obj _ _ st2 b hb
      have z := Heap.lt_size e
      rw [h4]
      exact Nat.lt_of_lt_of_le z hsz
    have f4 : ∀ b ∈ fp, FpOk X pins H4 b ∧ b < s4.heap.objs.size := fun b hb => ⟨⟨(tabbed.2 b (fpP b hb)).trans (f2 b hb).1, (f2 b hb).2⟩, lt4 b hb⟩
    intro h' hn' hs'
    have sz' : h'.objs.size = s4.heap.objs.size + 1 := by rw [hs'.1, Heap.size_push]
    have kp : ∀ b o, s4.heap.get? b = some o → h'.get? b = some o := fun b o e => hs'.extBut b o (Nat.ne_of_lt (Heap.lt_size e)) (Heap.get?_push_of_some _ e)
    generalize hG : ({ cls := .type "generator", data := .fields #[.int s4.gens.size 0, .str "<genexpr>" (s4.toks + 1), .str (X.env.qual ++ "<genexpr>") (s4.toks + 1 + 1)] } : Obj) = G
    have hw4 : ∃ u, RelV w u ∧ s4.heap.IsCell cy (some u) := by
      obtain ⟨m, _, lk⟩ := I4.loc
      obtain ⟨u, ru, k⟩ := lk jy y w hN hw0 (.inr (.inl hky))
      rcases k with ⟨k, _⟩ | ⟨_, c', e', hc'⟩
      · rw [hky] at k
        cases k
      · rw [hcy] at e'
        cases e'
        exact ⟨u, ru, hc'⟩
    have IG := gen_invF (elt := elt) (cs := [⟨.Name x px, iter, [], 0⟩]) (sc := scope) (gp := gp) (it := it) (code := code) (G := G) (g' := s4.gens.push (.fresh (.compStart (.GeneratorExp elt [⟨.Name x px, iter, [], 0⟩] scope gp) 0 (.ref it) .none (gEnvF X scope y cy s4.heap.objs.size code)))) (tk := s4.toks + 1 + 1 + 1)
      I4 S hcy hw4 hr.hd f4 hn' sz' kp (I4.bare.push rfl) (fun v z => by rw [← hG] at z; cases z) (by rw [← hG] <;> rfl)
    have st5 : tn 0 (h'.push G) := T.keep _ _ _ st2 fun b hb o e => Heap.get?_push_of_some _ (kp b o (by rw [h4]; exact keep3 b o (fpP b hb) e))
    refine Calls.spliced_nil ?_
    have isG : ∀ hp : Heap, hp.get? h'.objs.size = some G → hp.IsGen h'.objs.size s4.gens.size := fun hp e => ⟨G, _, _, e, by rw [← hG], by rw [← hG], by rw [← hG]⟩
    have hpn : ∀ b ∈ fp, ∀ p ∈ [(h'.objs.size, G)], p.1 ≠ b := fun b hb p hp z => by
      obtain rfl := List.mem_singleton.mp hp
      have q : b < s4.heap.objs.size := lt4 b hb
      have z2 : h'.objs.size = b := z
      rw [← z2, sz'] at q
      exact Nat.lt_irrefl _ (Nat.lt_of_succ_lt q)
    have loop := gen_segF (elt := elt) (iter := iter) (px := px) (gp := gp) (sc := scope) (Q := Q) (tn := tn) (n := n) rfl S.co T (pg_name (X := gCxF X (.GeneratorExp elt [⟨.Name x px, iter, [], 0⟩] scope gp) it x y s4 H4 (gEnvF X scope y cy s4.heap.objs.size code) fp) (List.nodup_cons.mpr ⟨fun z => S.ne (List.mem_singleton.mp z), List.nodup_cons.mpr ⟨List.not_mem_nil, List.nodup_nil⟩⟩) rfl (.inl S.loc) (.inr S.loc))
      (hel it cy s4.heap.objs.size s4 H4 code fp) turn hpn
    refine call_function_tree (F.kind_all) (F.plain_all) (F.entry_all) (F.args_all1 _) ?_
    unfold Builtin.«all»
    refine wpAny_bind (m := oneArg "all" _) (wpAny_pure ?_)
    refine wpAny_bind (wpAny_pyIter_gen (isG _ (IG.pin (h'.objs.size, G) (List.mem_singleton.mpr rfl)).1) ?_)
    refine wpAny_pure ⟨plainId_quiet (F.plain_all_loop) _, all_runF (pn := [(h'.objs.size, G)]) (tn := tn) (fp := fp) (W := W) (Q := Q) (List.mem_singleton.mpr rfl) isG hr.hd (by omega) (fun b s' hf => ?_) n _ ⟨0, _, ⟨H4, IG, st5, fun b hb => (f4 b hb).1.1, w0 H4 tabbed⟩, Array.getElem?_push_size .., fun s' hst => ⟨rfl, gen_denF T (fun s s₀ q => loop n 0 s s₀ (Nat.sub_zero n) q) s' s' hst⟩⟩⟩
    obtain ⟨H', IY, q⟩ := hf
    have J := I4.call' (ch := fp) IY.os IY.base IY.hok IY.bare fun b hb => ⟨(f4 b hb).1.2.2.2.1, (f4 b hb).1.2.1, (f4 b hb).1.2.2.2.2.1, (f4 b hb).1.2.2.2.2.2⟩
    exact ⟨.bl b, H', J, rfl, q⟩
  cases hf : codeAmong gp ps.toList with
  | none =>
    refine wpAny_genexprCodeX hcode (cd.code hPs ht) (cd.tab hPs) hf fun c' h' tk hx hge hlt hco' _ htab' _ => ?_
    obtain ⟨o1, vs, f1, tf, fl, tg, inF, tx, tt, op, _, _, _, _, _, _, _, _, _, htr, _⟩ := hco'
    exact cont _ h' tk _ hx (Nat.le_trans hge (Nat.le_of_lt hlt)) htab'.2 ⟨_, rfl⟩ htr
  | some cv =>
    refine wpAny_genexprCode_hit hcode (cd.code hPs ht) hf ?_
    exact cont cv s2.heap s2.toks ps (Heap.ExtBut.refl _ _) (Nat.le_refl _) hPs ⟨#[], by simp⟩ ht
end KR
/-! ### fractions as numbers of the field -/
namespace KR
open PySem PySem.Spec PyProof.Rows L2
theorem Same.tup {K : PySem.W.Frag} {H H' : Hp} {a : Addr} {xs : List V} (e : Same H H') (h : SqT K H a xs) : SqT K H' a xs :=
  h.elim (fun h => .inl (h.elim (fun h => .inl (e _ _ h)) fun ⟨o, h⟩ => .inr ⟨o, e _ _ h⟩)) fun h => .inr h
theorem sqT_ty {K : PySem.W.Frag} {H : Hp} {a : Addr} {xs : List V} (h : SqT K H a xs) : TyX K H (.ref a) (.type "tuple") := by
  rcases h with (h | ⟨o, h⟩) | ⟨o, its, n, h1, h2, _⟩
  · exact .base (.tup h)
  · exact .fTuple h
  · exact .kTuple h1 h2
theorem sqT_frL {K : PySem.W.Frag} {H H' : Hp} {a p : Addr} {xs ys : List V} (h : SqT K H a xs) (hp : H p = some (.lst ys)) (f : Fr p H H') : SqT K H' a xs := by
  rcases h with (h | ⟨o, h⟩) | h
  · exact .inl (.inl (f _ _ (ne_of h hp (by intro z; cases z)) h))
  · exact .inl (.inr ⟨o, f _ _ (ne_of h hp (by intro z; cases z)) h⟩)
  · exact .inr h
theorem sqT_fr {K : PySem.W.Frag} {H H' : Hp} {a p : Addr} {n : Nat} {xs : List V} (h : SqT K H a xs) (B : BoxAt H p n) (f : Fr p H H') : SqT K H' a xs := by
  obtain ⟨i, j, k, hp, _⟩ := B
  exact sqT_frL h hp f
theorem fr_upd {p : Addr} {H : Hp} {o : HO} : Fr p H (upd H p o) := Fr.put Fr.refl
theorem BoxAt.upd {H : Hp} {p D : Addr} {n : Nat} {o : HO} (h : BoxAt H p n) (ne : D ≠ p) : BoxAt (L2.upd H D o) p n := by
  obtain ⟨a, b, c, h1, h2⟩ := h
  exact ⟨a, b, c, by rw [upd_ne ne.symm]; exact h1, h2⟩
def rq (t b : Int) : Rat := (t : Rat) / (b : Rat)
theorem rat_nd (q : Rat) : (q.num : Rat) / ((q.den : Int) : Rat) = q := by rw [← Rat.divInt_eq_div, Rat.num_divInt_den]
theorem den_ne (q : Rat) : ((q.den : Int) : Rat) ≠ 0 := by
  intro h
  have k := q.den_pos
  have h2 : ((q.den : Int) : Rat) = ((0 : Int) : Rat) := h
  have e := Rat.intCast_inj.mp h2
  omega
theorem den_ne' (q : Rat) : (q.den : Int) ≠ 0 := by
  have k := q.den_pos
  omega
theorem int_ne {b : Int} (h : b ≠ 0) : (b : Rat) ≠ 0 := fun z => h (Rat.intCast_inj.mp (z.trans (by rfl : (0 : Rat) = ((0 : Int) : Rat))))
theorem rat_low (q : Rat) : IsLow q.num q.den := ⟨by have k := q.den_pos; omega, by rw [Int.natAbs_natCast]; exact q.reduced⟩
theorem rq_cross {t b : Int} (hb : b ≠ 0) : t * ((rq t b).den : Int) = (rq t b).num * b := by
  have e := rat_nd (rq t b)
  have h1 := den_ne (rq t b)
  have h2 := int_ne hb
  refine Rat.intCast_inj.mp ?_
  rw [Rat.intCast_mul, Rat.intCast_mul]
  generalize ((rq t b).den : Int) = d at *
  generalize (rq t b).num = n at *
  unfold rq at e
  grind
theorem rq_low {t b : Int} (hb : b ≠ 0) : low t b = ((rq t b).num, ((rq t b).den : Int)) := low_eq hb (rat_low _) (rq_cross hb)
theorem cast_pos {b : Int} (h : 0 < b) : (0 : Rat) < (b : Rat) := (Rat.intCast_lt_intCast (a := 0)).mpr h
theorem cast_nn {b : Int} (h : 0 ≤ b) : (0 : Rat) ≤ (b : Rat) := (Rat.intCast_le_intCast (a := 0)).mpr h
theorem le_div {a b c : Rat} (h : 0 < c) (k : a * c ≤ b) : a ≤ b / c := Rat.not_lt.mp fun z => absurd ((Rat.div_lt_iff h).mp z) (Rat.not_lt.mpr k)
theorem div_le {a b c : Rat} (h : 0 < c) (k : b ≤ a * c) : b / c ≤ a := Rat.not_lt.mp fun z => absurd ((Rat.lt_div_iff h).mp z) (Rat.not_lt.mpr k)
theorem rq_nn {t b : Int} (ht : 0 ≤ t) (hb : 0 < b) : 0 ≤ rq t b := by
  have h1 := cast_nn ht
  have h2 := cast_pos hb
  unfold rq
  generalize (t : Rat) = x at *
  generalize (b : Rat) = y at *
  exact le_div h2 (by grind)
theorem rq_pos {t b : Int} (ht : 0 < t) (hb : 0 < b) : 0 < rq t b := by
  have h1 := cast_pos ht
  have h2 := cast_pos hb
  unfold rq
  generalize (t : Rat) = x at *
  generalize (b : Rat) = y at *
  exact (Rat.lt_div_iff h2).mpr (by grind)
theorem rq_lt_one {t b : Int} (ht : t < b) (hb : 0 < b) : rq t b < 1 := by
  have h1 := Rat.intCast_lt_intCast.mpr ht
  have h2 := cast_pos hb
  unfold rq
  generalize (t : Rat) = x at *
  generalize (b : Rat) = y at *
  exact (Rat.div_lt_iff h2).mpr (by grind)
theorem rq_le_one {t b : Int} (ht : t ≤ b) (hb : 0 < b) : rq t b ≤ 1 := by
  have h1 := Rat.intCast_le_intCast.mpr ht
  have h2 := cast_pos hb
  unfold rq
  generalize (t : Rat) = x at *
  generalize (b : Rat) = y at *
  exact div_le h2 (by grind)
theorem rq_add (p q : Rat) : rq (p.num * q.den + q.num * p.den) (p.den * q.den) = p + q := by
  have e1 := rat_nd p
  have e2 := rat_nd q
  have h1 := den_ne p
  have h2 := den_ne q
  unfold rq
  rw [Rat.intCast_add, Rat.intCast_mul, Rat.intCast_mul, Rat.intCast_mul]
  generalize ((p.den : Int) : Rat) = d at *
  generalize (p.num : Rat) = n at *
  generalize ((q.den : Int) : Rat) = d2 at *
  generalize (q.num : Rat) = n2 at *
  grind
theorem rq_sub (p q : Rat) : rq (p.num * q.den - q.num * p.den) (p.den * q.den) = p - q := by
  have e1 := rat_nd p
  have e2 := rat_nd q
  have h1 := den_ne p
  have h2 := den_ne q
  unfold rq
  rw [Rat.intCast_sub, Rat.intCast_mul, Rat.intCast_mul, Rat.intCast_mul]
  generalize ((p.den : Int) : Rat) = d at *
  generalize (p.num : Rat) = n at *
  generalize ((q.den : Int) : Rat) = d2 at *
  generalize (q.num : Rat) = n2 at *
  grind
theorem rq_mul (p q : Rat) : rq (p.num * q.num) (p.den * q.den) = p * q := by
  have e1 := rat_nd p
  have e2 := rat_nd q
  have h1 := den_ne p
  have h2 := den_ne q
  unfold rq
  rw [Rat.intCast_mul, Rat.intCast_mul]
  generalize ((p.den : Int) : Rat) = d at *
  generalize (p.num : Rat) = n at *
  generalize ((q.den : Int) : Rat) = d2 at *
  generalize (q.num : Rat) = n2 at *
  grind
theorem rq_div (p q : Rat) : rq (p.num * q.den) (p.den * q.num) = p / q := by
  have e1 := rat_nd p
  have e2 := rat_nd q
  have h1 := den_ne p
  have h2 := den_ne q
  unfold rq
  rw [Rat.intCast_mul, Rat.intCast_mul]
  generalize ((p.den : Int) : Rat) = d at *
  generalize (p.num : Rat) = n at *
  generalize ((q.den : Int) : Rat) = d2 at *
  generalize (q.num : Rat) = n2 at *
  grind
theorem rq_self (q : Rat) : rq q.num q.den = q := rat_nd q
theorem num_ne {q : Rat} (h : q ≠ 0) : q.num ≠ 0 := fun z => h (by
  have e := rat_nd q
  rw [z] at e
  rw [← e]
  grind)
theorem num_zero {q : Rat} : q.num = 0 ↔ q = 0 := ⟨fun z => Classical.byContradiction fun y => num_ne y z, fun z => by rw [z] <;> rfl⟩
theorem num_pos {q : Rat} : 0 < q.num ↔ 0 < q := by
  have k := Rat.lt_iff 0 q
  simp at k
  exact k.symm
theorem num_nn {q : Rat} : 0 ≤ q.num ↔ 0 ≤ q := Rat.num_nonneg
theorem lt_cross (p q : Rat) : (p.num * q.den < q.num * p.den) ↔ p < q := (Rat.lt_iff p q).symm
/-- top and bottom fit so many bits -/
def Sz (n : Nat) (q : Rat) : Prop := q.num.natAbs < 2 ^ n ∧ (q.den : Int).natAbs < 2 ^ n
theorem Sz.up {n m : Nat} {q : Rat} (h : Sz n q) (le : n ≤ m) : Sz m q := ⟨lt_up h.1 le, lt_up h.2 le⟩
theorem sz_rq {t b : Int} {n : Nat} (hb : b ≠ 0) (h1 : t.natAbs < 2 ^ n) (h2 : b.natAbs < 2 ^ n) : Sz n (rq t b) := by
  have k := low_lt h1 h2
  rw [rq_low hb] at k
  exact k
theorem Sz.int {z : Int} {n : Nat} (h : z.natAbs < 2 ^ n) (h0 : 0 < n) : Sz n (z : Rat) := ⟨h, Nat.lt_of_lt_of_le (by decide : (1 : Nat) < 2 ^ 1) (Nat.pow_le_pow_right (by decide) h0)⟩
theorem Sz.neg {n : Nat} {q : Rat} (h : Sz n q) : Sz n (-q) := ⟨by
  show (-q.num).natAbs < 2 ^ n
  rw [Int.natAbs_neg]
  exact h.1, h.2⟩
/-- a fraction that is read -/
def FrQ (K : PySem.W.Frag) (H : Hp) (x : Addr) (q : Rat) : Prop := SqT K H x [.int q.num, .int (q.den : Int)]
theorem FrQ.same {K : PySem.W.Frag} {H H' : Hp} {x : Addr} {q : Rat} (h : FrQ K H x q) (s : Same H H') : FrQ K H' x q := Same.tup s h
theorem FrQ.fr {K : PySem.W.Frag} {H H' : Hp} {x p : Addr} {n : Nat} {q : Rat} (h : FrQ K H x q) (B : BoxAt H p n) (f : Fr p H H') : FrQ K H' x q := sqT_fr h B f
theorem FrQ.of {K : PySem.W.Frag} {H : Hp} {x : Addr} {q : Rat} (h : H x = some (.tup [.int q.num, .int (q.den : Int)])) : FrQ K H x q := SqT.of h
theorem FrQ.int {K : PySem.W.Frag} {H : Hp} {x : Addr} {z : Int} (h : H x = some (.tup [.int z, .int 1])) : FrQ K H x (z : Rat) := SqT.of h
/-- a juice that is read -/
def JuQ (K : PySem.W.Frag) (H : Hp) (x : Addr) (s w : Rat) : Prop := ∃ a b, SqT K H x [.ref a, .ref b] ∧ FrQ K H a s ∧ FrQ K H b w
theorem JuQ.same {K : PySem.W.Frag} {H H' : Hp} {x : Addr} {s w : Rat} (h : JuQ K H x s w) (e : Same H H') : JuQ K H' x s w := by
  obtain ⟨a, b, h1, h2, h3⟩ := h
  exact ⟨a, b, Same.tup e h1, h2.same e, h3.same e⟩
theorem JuQ.fr {K : PySem.W.Frag} {H H' : Hp} {x p : Addr} {n : Nat} {s w : Rat} (h : JuQ K H x s w) (B : BoxAt H p n) (f : Fr p H H') : JuQ K H' x s w := by
  obtain ⟨a, b, h1, h2, h3⟩ := h
  exact ⟨a, b, sqT_fr h1 B f, h2.fr B f, h3.fr B f⟩
theorem JuQ.new {K : PySem.W.Frag} {H : Hp} {x a b : Addr} {s w : Rat} (h : H x = some (.tup [.ref a, .ref b])) (ha : FrQ K H a s) (hb : FrQ K H b w) : JuQ K H x s w := ⟨a, b, SqT.of h, ha, hb⟩
/-- a new pair of two numbers' lowest terms -/
def sp_lowQ (K : PySem.W.Frag) : Sp := fun vs H Q _ => ∃ (t b : Int) (n : Nat), vs = [.int t, .int b] ∧ b ≠ 0 ∧ t.natAbs < 2 ^ n ∧ b.natAbs < 2 ^ n ∧ n ≤ 2000 ∧ ∀ p H', Same H H' → H p = none → FrQ K H' p (rq t b) → Sz n (rq t b) → Q (.ref p) H'
theorem lowQ {K : PySem.W.Frag} {vs : List V} {H : Hp} {Q : VK} {E : XK} (h : sp_lowQ K vs H Q E) : sp_low vs H Q E := by
  obtain ⟨t, b, n, e, hb, h1, h2, hn, q⟩ := h
  refine ⟨t, b, e, hb, lt_up h1 hn, lt_up h2 hn, fun p H' s hp h' => q p H' s hp ?_ (sz_rq hb h1 h2)⟩
  rw [rq_low hb] at h'
  exact .of h'
/-- two fractions in, one out -/
def sp_q2 (K : PySem.W.Frag) (f : Rat → Rat → Rat) (ok : Rat → Rat → Prop) : Sp := fun vs H Q _ => ∃ (x y : Addr) (p q : Rat) (m n : Nat), vs = [.ref x, .ref y] ∧ FrQ K H x p ∧ FrQ K H y q ∧ Sz m p ∧ Sz n q ∧ m + n ≤ 1900 ∧ ok p q ∧
  ∀ z H', Same H H' → H z = none → FrQ K H' z (f p q) → Sz (m + n + 1) (f p q) → Q (.ref z) H'
def sp_less (K : PySem.W.Frag) : Sp := fun vs H Q _ => ∃ (x y : Addr) (p q : Rat), vs = [.ref x, .ref y] ∧ FrQ K H x p ∧ FrQ K H y q ∧ Sz 1900 p ∧ Sz 1900 q ∧ Q (.bl (decide (p < q))) H
theorem mulZ {i j : Int} {a b : Nat} (ha : i.natAbs < 2 ^ a) (hb : j.natAbs < 2 ^ b) (h : a + b ≤ 100000) : IntMulOk i j :=
  mulW (lt_up ha (by omega : a ≤ a + 1)) (lt_up hb (by omega : b ≤ b + 1)) (by omega) (by omega) (by omega)
/-! data of the law's own making, tuples of the written part among them -/
inductive Dk (K : PySem.W.Frag) (H : Hp) : Nat → V → PyData → Prop
  | non (n : Nat) : Dk K H (n + 1) .non .none
  | bl (n : Nat) (b : Bool) : Dk K H (n + 1) (.bl b) (.bool b)
  | int (n : Nat) (i : Int) : Dk K H (n + 1) (.int i) (.int i)
  | str (n : Nat) (x : Str) (ok : PyData.canLay0 (.str x) = true) : Dk K H (n + 1) (.str x) (.str x)
  | lst {n : Nat} {a : Addr} {xs : List V} {ds : List PyData} : H a = some (.lst xs) → xs.length = ds.length → xs.length ≤ 100000 → (∀ (i : Nat) (x : V) (d : PyData), xs[i]? = some x → ds[i]? = some d → Dk K H n x d) → Dk K H (n + 1) (.ref a) (.list ds)
  | tup {n : Nat} {a : Addr} {xs : List V} {ds : List PyData} : SqT K H a xs → xs.length = ds.length → xs.length ≤ 100000 → (∀ (i : Nat) (x : V) (d : PyData), xs[i]? = some x → ds[i]? = some d → Dk K H n x d) → Dk K H (n + 1) (.ref a) (.tuple ds)
theorem Dk.same {K : PySem.W.Frag} {H H' : Hp} (s : Same H H') : ∀ {n : Nat} {v : V} {d : PyData}, Dk K H n v d → Dk K H' n v d := by
  intro n v d h
  induction h with
  | non n => exact .non n
  | bl n b => exact .bl n b
  | int n i => exact .int n i
  | str n x ok => exact .str n x ok
  | lst h1 h2 h3 _ ih => exact .lst (s _ _ h1) h2 h3 ih
  | tup h1 h2 h3 _ ih => exact .tup (Same.tup s h1) h2 h3 ih
theorem Dk.up {K : PySem.W.Frag} {H : Hp} {n m : Nat} {v : V} {d : PyData} (h : Dk K H n v d) : n ≤ m → Dk K H m v d := by
  intro le
  induction h generalizing m with
  | non n => obtain ⟨k, rfl⟩ : ∃ k, m = k + 1 := ⟨m - 1, by omega⟩; exact .non k
  | bl n b => obtain ⟨k, rfl⟩ : ∃ k, m = k + 1 := ⟨m - 1, by omega⟩; exact .bl k b
  | int n i => obtain ⟨k, rfl⟩ : ∃ k, m = k + 1 := ⟨m - 1, by omega⟩; exact .int k i
  | str n x ok => obtain ⟨k, rfl⟩ : ∃ k, m = k + 1 := ⟨m - 1, by omega⟩; exact .str k x ok
  | lst h1 h2 h3 _ ih => obtain ⟨k, rfl⟩ : ∃ k, m = k + 1 := ⟨m - 1, by omega⟩; exact .lst h1 h2 h3 fun i x d a b => ih i x d a b (by omega)
  | tup h1 h2 h3 _ ih => obtain ⟨k, rfl⟩ : ∃ k, m = k + 1 := ⟨m - 1, by omega⟩; exact .tup h1 h2 h3 fun i x d a b => ih i x d a b (by omega)
/-- rows of data beside their values -/
def DkAll (K : PySem.W.Frag) (H : Hp) (n : Nat) (xs : List V) (ds : List PyData) : Prop := xs.length = ds.length ∧ ∀ (i : Nat) (x : V) (d : PyData), xs[i]? = some x → ds[i]? = some d → Dk K H n x d
theorem DkAll.nil {K : PySem.W.Frag} {H : Hp} {n : Nat} : DkAll K H n [] [] := ⟨rfl, fun i x d h => by simp at h⟩
theorem DkAll.cons {K : PySem.W.Frag} {H : Hp} {n : Nat} {x : V} {d : PyData} {xs : List V} {ds : List PyData} (h : Dk K H n x d) (t : DkAll K H n xs ds) : DkAll K H n (x :: xs) (d :: ds) :=
  ⟨by rw [List.length_cons, List.length_cons, t.1], fun i u v hu hv => match i, hu, hv with
    | 0, hu, hv => by cases hu; cases hv; exact h
    | i + 1, hu, hv => t.2 i u v hu hv⟩
theorem DkAll.tup {K : PySem.W.Frag} {H : Hp} {n : Nat} {xs : List V} {ds : List PyData} {a : Addr} (t : DkAll K H n xs ds) (h : SqT K H a xs) (z : Nat.ble xs.length 100000 = true := by rfl) : Dk K H (n + 1) (.ref a) (.tuple ds) := .tup h t.1 (Nat.le_of_ble_eq_true z) t.2
theorem DkAll.lst {K : PySem.W.Frag} {H : Hp} {n : Nat} {xs : List V} {ds : List PyData} {a : Addr} (t : DkAll K H n xs ds) (h : H a = some (.lst xs)) (z : Nat.ble xs.length 100000 = true := by rfl) : Dk K H (n + 1) (.ref a) (.list ds) := .lst h t.1 (Nat.le_of_ble_eq_true z) t.2
/-- the data of a fraction, of a juice -/
def dq (q : Rat) : PyData := .tuple [.int q.num, .int (q.den : Int)]
def dj (s w : Rat) : PyData := .tuple [dq s, dq w]
theorem FrQ.dk {K : PySem.W.Frag} {H : Hp} {x : Addr} {q : Rat} (h : FrQ K H x q) (n : Nat := 0) : Dk K H (n + 2) (.ref x) (dq q) := DkAll.tup (.cons (.int _ _) (.cons (.int _ _) .nil)) h
theorem JuQ.dk {K : PySem.W.Frag} {H : Hp} {x : Addr} {s w : Rat} (h : JuQ K H x s w) (n : Nat := 0) : Dk K H (n + 3) (.ref x) (dj s w) := by
  obtain ⟨a, b, h1, h2, h3⟩ := h
  exact DkAll.tup (.cons (h2.dk n) (.cons (h3.dk n) .nil)) h1
/-- forty figures -/
theorem b133 {n : Nat} (h : n < 10 ^ 40) : n < 2 ^ 133 := Nat.lt_trans h (by decide)
/-- a fraction or None -/
def OQ (K : PySem.W.Frag) (H : Hp) (v : V) : Option Rat → Prop
  | none => v = .non
  | some q => ∃ x, v = .ref x ∧ FrQ K H x q
theorem OQ.same {K : PySem.W.Frag} {H H' : Hp} {v : V} {o : Option Rat} (h : OQ K H v o) (e : Same H H') : OQ K H' v o := by
  cases o with
  | none => exact h
  | some q =>
    obtain ⟨x, e1, h1⟩ := h
    exact ⟨x, e1, h1.same e⟩
def oq : Option Rat → PyData
  | none => .none
  | some q => dq q
theorem OQ.dk {K : PySem.W.Frag} {H : Hp} {v : V} {o : Option Rat} (h : OQ K H v o) (n : Nat := 0) : Dk K H (n + 2) v (oq o) := by
  cases o with
  | none => rw [show v = .non from h]; exact .non _
  | some q =>
    obtain ⟨x, e1, h1⟩ := h
    rw [e1]
    exact h1.dk n
/-- the strength of a juice -/
def stren (s w : Rat) : Option Rat := if s + w = 0 then none else some (s / (s + w))
theorem stren_part {s w t : Rat} (h : t ≠ 0) : stren (s * t) (w * t) = stren s w := by
  unfold stren
  by_cases c : s + w = 0
  · rw [if_pos c, if_pos (by grind)]
  · rw [if_neg c, if_neg (by grind)]
    congr 1
    grind
theorem stren_more {s w t : Rat} (h : 0 ≤ t) : stren (s + s * t) (w + w * t) = stren s w := by
  have e1 : s + s * t = s * (1 + t) := by grind
  have e2 : w + w * t = w * (1 + t) := by grind
  rw [e1, e2]
  exact stren_part (by grind)
theorem strength_between {s w x y : Rat} (hs : 0 ≤ s) (hw : 0 ≤ w) (hx : 0 ≤ x) (hy : 0 ≤ y) (h1 : s + w ≠ 0) (h2 : x + y ≠ 0) (le : s / (s + w) ≤ x / (x + y)) :
    s / (s + w) ≤ (s + x) / (s + x + (w + y)) ∧ (s + x) / (s + x + (w + y)) ≤ x / (x + y) := by
  have p1 : 0 < s + w := by grind
  have p2 : 0 < x + y := by grind
  have p3 : 0 < s + x + (w + y) := by grind
  generalize ea : s / (s + w) = a at *
  generalize eb : x / (x + y) = b at *
  have sa : s = a * (s + w) := by grind
  have xb : x = b * (x + y) := by grind
  have d : 0 ≤ b - a := by grind
  constructor
  · refine le_div p3 ?_
    have k := Rat.mul_nonneg d (Rat.le_of_lt p2)
    grind
  · refine div_le p3 ?_
    have k := Rat.mul_nonneg d (Rat.le_of_lt p1)
    grind
theorem is_zero {q : Rat} : decide (q.num = 0 ∧ (q.den : Int) = 1) = decide (q = 0) := by
  rw [decide_eq_decide]
  constructor
  · rintro ⟨h, _⟩
    exact num_zero.mp h
  · rintro rfl
    exact ⟨rfl, rfl⟩
/-- boiling -/
def wat (s u : Rat) : Rat := s / u - s
def boil (s w : Rat) (f : Int) (u h : Rat) : Rat := if wat s u < w then (if w - f * h < wat s u then wat s u else w - f * h) else w
theorem rq_wat (s u : Rat) (hu : u ≠ 0) : rq (s.num * ((u.den : Int) - u.num)) (s.den * u.num) = wat s u := by
  have e1 := rat_nd s
  have e2 := rat_nd u
  have h1 := den_ne s
  have h2 := den_ne u
  have h3 := int_ne (num_ne hu)
  unfold rq wat
  rw [Rat.intCast_mul, Rat.intCast_mul, Rat.intCast_sub]
  generalize ((s.den : Int) : Rat) = d at *
  generalize (s.num : Rat) = n at *
  generalize ((u.den : Int) : Rat) = d2 at *
  generalize (u.num : Rat) = n2 at *
  rw [← e1, ← e2]
  grind
theorem Sz.add {m n : Nat} {p q : Rat} (h : Sz m p) (k : Sz n q) : Sz (m + n + 1) (p + q) := by
  rw [← rq_add]
  exact sz_rq (Int.mul_ne_zero (den_ne' p) (den_ne' q)) (lt_up (add_lt (wide_lt h.1 k.2) (lt_up (wide_lt k.1 h.2) (by omega : n + m ≤ m + n))) (by omega)) (lt_up (wide_lt h.2 k.2) (by omega))
theorem Sz.sub {m n : Nat} {p q : Rat} (h : Sz m p) (k : Sz n q) : Sz (m + n + 1) (p - q) := by
  rw [← rq_sub]
  exact sz_rq (Int.mul_ne_zero (den_ne' p) (den_ne' q)) (lt_up (sub_lt (wide_lt h.1 k.2) (lt_up (wide_lt k.1 h.2) (by omega : n + m ≤ m + n))) (by omega)) (lt_up (wide_lt h.2 k.2) (by omega))
theorem Sz.mul {m n : Nat} {p q : Rat} (h : Sz m p) (k : Sz n q) : Sz (m + n) (p * q) := by
  rw [← rq_mul]
  exact sz_rq (Int.mul_ne_zero (den_ne' p) (den_ne' q)) (wide_lt h.1 k.1) (wide_lt h.2 k.2)
theorem Sz.wat {m n : Nat} {s u : Rat} (h : Sz m s) (k : Sz n u) (hu : u ≠ 0) : Sz (m + n + 1) (wat s u) := by
  rw [← rq_wat s u hu]
  exact sz_rq (Int.mul_ne_zero (den_ne' s) (num_ne hu)) (lt_up (wide_lt h.1 (sub_lt k.2 k.1)) (by omega)) (lt_up (wide_lt h.2 k.1) (by omega))
theorem Sz.boil {a b c n N : Nat} {s w u h : Rat} {f : Int} (zs : Sz a s) (zu : Sz n u) (hu : u ≠ 0) (zw : Sz b w) (zh : Sz c h) (hf : f.natAbs < 2 ^ 14) (h1 : a + n + 1 ≤ N) (h2 : b + (14 + c) + 1 ≤ N) : Sz N (KR.boil s w f u h) := by
  unfold KR.boil
  split
  · split
    · exact (Sz.wat zs zu hu).up h1
    · exact (Sz.sub zw (Sz.mul (Sz.int hf (by decide)) zh)).up h2
  · exact zw.up (by omega)
theorem boil_zero {s w u : Rat} {f : Int} : boil s w f u 0 = w := by
  unfold boil
  rw [Rat.mul_zero]
  split <;> grind
theorem boil_boil {s w u h k : Rat} {f : Int} (hf : 0 ≤ f) (hh : 0 ≤ h) (hk : 0 ≤ k) : boil s (boil s w f u h) f u k = boil s w f u (h + k) := by
  have f0 := cast_nn hf
  have a0 := Rat.mul_nonneg f0 hh
  have b0 := Rat.mul_nonneg f0 hk
  unfold boil
  rw [Rat.mul_add]
  generalize (f : Rat) * h = a at *
  generalize (f : Rat) * k = b at *
  generalize wat s u = L
  grind
theorem boil_fire {s w u h : Rat} {f g : Int} (hf : f ≤ g) (hh : 0 ≤ h) : boil s w g u h ≤ boil s w f u h := by
  have k := Rat.mul_nonneg (cast_nn (show 0 ≤ g - f by omega)) hh
  rw [Rat.intCast_sub] at k
  unfold boil
  generalize wat s u = L
  have e : ((g : Rat) - (f : Rat)) * h = (g : Rat) * h - (f : Rat) * h := by grind
  rw [e] at k
  generalize (f : Rat) * h = a at *
  generalize (g : Rat) * h = b at *
  grind
theorem boil_two {s w u h : Rat} {f : Int} : boil (s + s) (w + w) (2 * f) u h = boil s w f u h + boil s w f u h := by
  unfold boil
  have e : wat (s + s) u = wat s u + wat s u := by
    unfold wat
    grind
  rw [e, Rat.intCast_mul]
  have e2 : ((2 : Int) : Rat) * (f : Rat) * h = (f : Rat) * h + (f : Rat) * h := by
    have e3 : ((2 : Int) : Rat) = 2 := rfl
    rw [e3]
    grind
  rw [e2]
  generalize (f : Rat) * h = a at *
  generalize wat s u = L at *
  grind
theorem Sz.div {m n : Nat} {p q : Rat} (h : Sz m p) (k : Sz n q) (hq : q ≠ 0) : Sz (m + n) (p / q) := by
  rw [← rq_div]
  exact sz_rq (Int.mul_ne_zero (den_ne' p) (num_ne hq)) (wide_lt h.1 k.2) (wide_lt h.2 k.1)
theorem rq_divi (r : Rat) (f : Int) : rq r.num (r.den * f) = r / (f : Rat) := by
  have e := rq_div r (f : Rat)
  rw [← e]
  show rq r.num (r.den * f) = rq (r.num * 1) (r.den * f)
  rw [Int.mul_one]
theorem FrQ.dp {K : PySem.W.Frag} {H : Hp} {x : Addr} {q : Rat} (h : FrQ K H x q) : Dp K H (.ref x) (dq q) := .tup h (.cons (.int _) (.cons (.int _) .nil))
theorem JuQ.dp {K : PySem.W.Frag} {H : Hp} {x : Addr} {s w : Rat} (h : JuQ K H x s w) : Dp K H (.ref x) (dj s w) := by
  obtain ⟨a, b, h1, h2, h3⟩ := h
  exact .tup h1 (.cons h2.dp (.cons h3.dp .nil))
theorem eqv_dq (a b : Rat) : PyData.eqv (dq a) (dq b) = decide (a = b) := by
  refine eqv_pair.trans ?_
  rw [decide_eq_decide]
  constructor
  · rintro ⟨h1, h2⟩
    exact Rat.ext h1 (by omega)
  · rintro rfl
    exact ⟨rfl, rfl⟩
theorem OQ.dp {K : PySem.W.Frag} {H : Hp} {v : V} {o : Option Rat} (h : OQ K H v o) : Dp K H v (oq o) := by
  cases o with
  | none => rw [show v = .non from h]; exact .non
  | some q =>
    obtain ⟨x, e1, h1⟩ := h
    rw [e1]
    exact h1.dp
theorem oq_fit (o : Option Rat) : PyData.canLay0 (oq o) = true ∧ PyData.depth (oq o) ≤ 60 := by
  cases o with
  | none => exact ⟨rfl, by decide⟩
  | some q => exact ⟨rfl, by show 1 ≤ 60; decide⟩
/-- when a juice is ready -/
def ready (s w : Rat) (f : Int) (u : Rat) : Option Rat := if s = 0 then none else if wat s u < w then (if f = 0 then none else some ((w - wat s u) / (f : Rat))) else some 0
theorem wat_nn {s u : Rat} (hs : 0 ≤ s) (u0 : 0 < u) (u1 : u < 1) : 0 ≤ wat s u := by
  have k := Rat.mul_nonneg hs (show 0 ≤ 1 - u by grind)
  have h : s ≤ s / u := le_div u0 (by grind)
  unfold wat
  grind
theorem on_way {s w u : Rat} {f : Int} (hs : 0 < s) (u0 : 0 < u) (u1 : u < 1) (hf : 0 < f) (lt : wat s u < w) {t : Rat} (et : t = (w - wat s u) / (f : Rat)) :
    boil s w f u t = wat s u ∧ stren s (wat s u) = some u ∧ 0 < t ∧ ∀ h : Rat, 0 < h → (boil s w f u (t + h) = wat s u ∧ (h ≤ 1 → ∃ q, stren s (boil s w f u (t * h)) = some q ∧ (q = u ↔ h = 1) ∧ ready s (boil s w f u (t * h)) f u = some (t - t * h))) := by
  have f0 := cast_pos hf
  have fne : (f : Rat) ≠ 0 := by grind
  have ft : (f : Rat) * t = w - wat s u := by rw [et]; grind
  have wn := wat_nn (Rat.le_of_lt hs) u0 u1
  have tp : 0 < t := by
    rw [et]
    exact (Rat.lt_div_iff f0).mpr (by grind)
  refine ⟨?_, ?_, tp, fun h hh => ⟨?_, fun h1 => ?_⟩⟩
  · unfold boil
    rw [ft]
    grind
  · have e : s + wat s u = s / u := by
      unfold wat
      grind
    have ne : s / u ≠ 0 := by grind
    unfold stren
    rw [e, if_neg ne]
    congr 1
    grind
  · have k := Rat.mul_pos f0 hh
    unfold boil
    rw [Rat.mul_add, ft]
    grind
  · have d : 0 < w - wat s u := by grind
    have k := Rat.mul_nonneg (Rat.le_of_lt d) (show 0 ≤ 1 - h by grind)
    have e : (f : Rat) * (t * h) = (w - wat s u) * h := by rw [← ft]; grind
    have eb : boil s w f u (t * h) = w - (w - wat s u) * h := by
      unfold boil
      rw [e]
      grind
    have xge : wat s u ≤ w - (w - wat s u) * h := by grind
    have sx : s + (w - (w - wat s u) * h) ≠ 0 := by grind
    rw [eb]
    refine ⟨s / (s + (w - (w - wat s u) * h)), if_neg sx, ⟨fun q => ?_, fun q => ?_⟩, ?_⟩
    · have q2 : s = u * (s + (w - (w - wat s u) * h)) := by grind
      have q3 : wat s u = w - (w - wat s u) * h := by
        unfold wat at *
        grind
      have q4 : (w - wat s u) * (1 - h) = 0 := by grind
      have q5 : 1 - h = 0 := by
        rcases Rat.mul_eq_zero.mp q4 with z | z
        · grind
        · exact z
      grind
    · rw [q]
      have e2 : s + (w - (w - wat s u) * 1) = s / u := by
        unfold wat
        grind
      rw [e2]
      grind
    · unfold ready
      rw [if_neg (by grind)]
      by_cases c : wat s u < w - (w - wat s u) * h
      · rw [if_pos c, if_neg (by omega)]
        congr 1
        rw [et]
        grind
      · rw [if_neg c]
        have q4 : (w - wat s u) * (1 - h) = 0 := by grind
        have q5 : 1 - h = 0 := by
          rcases Rat.mul_eq_zero.mp q4 with z | z
          · grind
          · exact z
        have q6 : h = 1 := by grind
        rw [q6]
        congr 1
        grind
/-- a thing is not among those of a tuple -/
def rNoTup (K : PySem.W.Frag) : R2 := fun x y H Q => ∃ d ds, Dp K H x d ∧ Dp K H y (.tuple ds) ∧ PyData.canLay0 d = true ∧ PyData.canLayAll0 ds = true ∧ PyData.depth d ≤ 60 ∧ Q (.bl (!ds.any fun z => PyData.eqv z d)) H
theorem notTup {X : Cx} {K : PySem.W.Frag} (hK : X.K = K) (room : X.A.units + 64 < cLine) : OpR X (compareOp .NotIn) (rNoTup K) := by
  subst hK
  intro pn s0 σ H x y v1 v2 Q I a1 a2 h
  obtain ⟨d, ds, h1, h2, h3, h4, h5, q⟩ := h
  obtain ⟨as1, r1⟩ := Dp.reads I d x v1 h1 a1
  obtain ⟨as2, r2⟩ := Dp.reads I (.tuple ds) y v2 h2 a2
  exact SeqAt.notIn_tuple_reads r2 r1 h4 h3 (by omega) ⟨.bl _, H, I, rfl, q⟩
/-- a juice in, a juice and a share in, two juices in -/
def sp_j2 (K : PySem.W.Frag) : Sp := fun vs H Q _ => ∃ (x y : Addr) (s w s' w' : Rat) (m n : Nat), vs = [.ref x, .ref y] ∧ JuQ K H x s w ∧ JuQ K H y s' w' ∧ Sz m s ∧ Sz m w ∧ Sz n s' ∧ Sz n w' ∧ m + n ≤ 1900 ∧
  ∀ z H', Same H H' → JuQ K H' z (s + s') (w + w') → Sz (m + n + 1) (s + s') → Sz (m + n + 1) (w + w') → Q (.ref z) H'
def sp_jt (K : PySem.W.Frag) (f : Rat → Rat) : Sp := fun vs H Q _ => ∃ (x y : Addr) (s w t : Rat) (m n : Nat), vs = [.ref x, .ref y] ∧ JuQ K H x s w ∧ FrQ K H y t ∧ Sz m s ∧ Sz m w ∧ Sz n t ∧ m + n ≤ 900 ∧ n ≤ 400 ∧
  ∀ z H', Same H H' → JuQ K H' z (s * f t) (w * f t) → Sz (m + n + 10) (s * f t) → Sz (m + n + 10) (w * f t) → Q (.ref z) H'
def sp_vol (K : PySem.W.Frag) : Sp := fun vs H Q _ => ∃ (x : Addr) (s w : Rat) (m : Nat), vs = [.ref x] ∧ JuQ K H x s w ∧ Sz m s ∧ Sz m w ∧ m ≤ 900 ∧ ∀ z H', Same H H' → FrQ K H' z (s + w) → Sz (m + m + 1) (s + w) → Q (.ref z) H'
def sp_str (K : PySem.W.Frag) : Sp := fun vs H Q _ => ∃ (x : Addr) (s w : Rat) (m : Nat), vs = [.ref x] ∧ JuQ K H x s w ∧ Sz m s ∧ Sz m w ∧ m ≤ 600 ∧ ∀ v H', Same H H' → OQ K H' v (stren s w) → (∀ q, stren s w = some q → Sz (3 * m + 2) q) → Q v H'
end KR
/-! ### walks over things that may be lists or tuples: for, enumerate, zip -/
namespace KR
open PySem PySem.Spec PyProof.Rows L2
/-- a list, or a tuple -/
def SqB (K : PySem.W.Frag) (H : Hp) (a : Addr) (xs : List V) : Bool → Prop
  | true => SqL K H a xs
  | false => SqT K H a xs
def ItB (h : Heap) (it a : Addr) (i : Nat) : Bool → Prop
  | true => h.IsListIter it a i
  | false => h.IsTupleIter it a i
def IsB (h : Heap) (a : Addr) (items : Array Value) : Bool → Prop
  | true => h.IsList a items
  | false => h.IsTuple a items
def objB (a : Addr) : Bool → Obj
  | true => { cls := .type "list_iterator", data := .fields #[.ref a, .int 0 0] }
  | false => { cls := .type "tuple_iterator", data := .fields #[.ref a, .int 0 0] }
theorem SqB.same {K : PySem.W.Frag} {H H' : Hp} {a : Addr} {xs : List V} {b : Bool} (h : SqB K H a xs b) (s : Same H H') : SqB K H' a xs b := by
  cases b with
  | true => exact s.seq h
  | false => exact Same.tup s h
theorem draws_b {prog : Program} {w : World} {A : Around} (hh : A.handled = none) (it a : Addr) (ne : a ≠ it) (items : Array Value) (b : Bool) :
    Draws prog w A it [it, a] items.size (fun i v => items[i]? = some v) (fun i h => ItB h it a i b ∧ IsB h a items b) := by
  cases b with
  | true => exact Draws.list hh it a ne items
  | false => exact Draws.tuple hh it a ne items
theorem begins_b (a : Addr) (items : Array Value) (b : Bool) : Begins (.ref a) (objB a b) fun h => IsB h a items b := by
  cases b with
  | true => exact begins_list a items
  | false => exact begins_tuple a items
theorem first_b {h : Heap} {it a : Addr} {b : Bool} (e : h.get? it = some (objB a b)) : ItB h it a 0 b := by
  cases b with
  | true => exact ⟨_, e, rfl, rfl⟩
  | false => exact ⟨_, e, rfl, rfl⟩
theorem ItB.obj {h : Heap} {it a : Addr} {i : Nat} {b : Bool} (t : ItB h it a i b) : ∃ o, h.get? it = some o ∧ ∀ v, o.data ≠ .cell v := by
  cases b with
  | true =>
    obtain ⟨o, e, _, d⟩ := t
    exact ⟨o, e, fun v q => by rw [d] at q; cases q⟩
  | false =>
    obtain ⟨o, e, _, d⟩ := t
    exact ⟨o, e, fun v q => by rw [d] at q; cases q⟩
theorem ItB.keep {h h' : Heap} {it a : Addr} {i : Nat} {b : Bool} (t : ItB h it a i b) (k : ∀ o, h.get? it = some o → h'.get? it = some o) : ItB h' it a i b := by
  cases b with
  | true =>
    obtain ⟨o, e, r⟩ := t
    exact ⟨o, k _ e, r⟩
  | false =>
    obtain ⟨o, e, r⟩ := t
    exact ⟨o, k _ e, r⟩
section
variable {X : Cx} {pins : List (Addr × Obj)} {σ : L2.St} {H : Hp} {s : Shared} {a : Addr} {xs ys : List V} {b : Bool}
theorem inv_b (I : Inv X pins σ H s) (h : SqB X.K H a xs b) : ∃ its : List Value, Vals xs its ∧ IsB s.heap a its.toArray b ∧ a < s.heap.objs.size := by
  cases b with
  | true =>
    obtain ⟨its, rv, p, _⟩ := I.list h
    exact ⟨its, rv, p.isList, p.lt⟩
  | false =>
    obtain ⟨its, rv, p, _⟩ := I.tuple h
    obtain ⟨o, e, _⟩ := id p
    exact ⟨its, rv, p, Heap.lt_size e⟩
theorem inj_b (I : Inv X pins σ H s) (h : SqB X.K H a xs b) (k : SqB X.K H a ys b) : xs = ys := by
  cases b with
  | true => exact I.list_inj h k
  | false => exact I.tuple_inj h k
end
/-- pairs of what two things hold -/
def ItzB (K : PySem.W.Frag) (a b : Addr) (p q : Bool) : It :=
  ⟨fun i H => ∃ (xs ys : List V) (x y : V), SqB K H a xs p ∧ SqB K H b ys q ∧ xs[i]? = some x ∧ ys[i]? = some y,
    fun i H v H' => ∃ T x y, v = .ref T ∧ H T = none ∧ H' = upd H T (.tup [x, y]) ∧ (∀ xs, SqB K H a xs p → xs[i]? = some x) ∧ ∀ ys, SqB K H b ys q → ys[i]? = some y,
    fun i H => ∃ xs ys : List V, SqB K H a xs p ∧ SqB K H b ys q ∧ xs.length = i ∧ ys.length = i⟩
theorem turn_zipB {P : Program} {w : World} {K : PySem.W.Frag} {elts : List Expr} {kk : Nat} {tpos : Pos} {a b : Addr} {p q : Bool} {N : Nat} (la : a < N) (lb : b < N) :
    Turn P w K (.Tuple elts kk tpos) (ItzB K a b p q) [N + 4, N + 2, N + 3, N, N + 1] (N + 4) (fun i h => IsZip h (N + 4) (N + 2) (N + 3) .none ∧ IsTupOf2 h (N + 2) (.ref N) (.ref (N + 1)) ∧ (∃ x y, IsTupOf2 h (N + 3) x y) ∧ ItB h N a i p ∧ ItB h (N + 1) b i q) where
  mem := List.mem_cons_self
  obj := fun i h st c hc => by
    obtain ⟨st1, st2, ⟨x, y, st3⟩, st4, st5⟩ := st
    have cs : c = N + 4 ∨ c = N + 2 ∨ c = N + 3 ∨ c = N ∨ c = N + 1 := by simpa using hc
    rcases cs with rfl | rfl | rfl | rfl | rfl
    · exact ⟨_, st1, nofun⟩
    · exact ⟨_, st2, nofun⟩
    · exact ⟨_, st3, nofun⟩
    · exact st4.obj
    · exact st5.obj
  keep := fun i h h' st k => by
    obtain ⟨st1, st2, ⟨x, y, st3⟩, st4, st5⟩ := st
    exact ⟨k _ (by simp) _ st1, k _ (by simp) _ st2, ⟨x, y, k _ (by simp) _ st3⟩, st4.keep (k _ (by simp)), st5.keep (k _ (by simp))⟩
  item := by
    intro X hP hw hK hc i pins s σ H E I hf st hg
    subst hP hw hK
    obtain ⟨st1, st2, ⟨x0, y0, st3⟩, st4, st5⟩ := st
    obtain ⟨xs, ys, x, y, sx, sy, gx, gy⟩ := hg
    obtain ⟨its, rv, ia, _⟩ := inv_b I sx
    obtain ⟨its2, rv2, ib, _⟩ := inv_b I sy
    obtain ⟨u, hu, ru⟩ := rv.get gx
    obtain ⟨u2, hu2, ru2⟩ := rv2.get gy
    have calm : X.A.in1.handled = none := I.ok.hd hc
    have S : ZipSep2 (N + 4) (N + 2) (N + 3) N (N + 1) [N, a] [N + 1, b] := zip_sep2 (fun c z => by rw [List.mem_singleton.mp z]; exact la) (fun c z => by rw [List.mem_singleton.mp z]; exact lb)
    have zlt : N + 4 < s.heap.objs.size := Heap.lt_size st1
    have i1 : i < its.toArray.size := by
      rw [List.size_toArray]
      exact (List.getElem?_eq_some_iff.mp hu).1
    have i2 : i < its2.toArray.size := by
      rw [List.size_toArray]
      exact (List.getElem?_eq_some_iff.mp hu2).1
    refine wpAny_pyNext_zipD2_item S (draws_b calm N a (Nat.ne_of_lt la) its.toArray p) (draws_b calm (N + 1) b (Nat.ne_of_lt (Nat.lt_succ_of_lt lb)) its2.toArray q) st1 st2 st3 ⟨st4, ia⟩ ⟨st5, ib⟩ i1 i2 fun v1 v2 h' tk p1 p2 z' TO' t1' t2' hT hsz hk => ?_
    have p1' : its.toArray[i]? = some v1 := p1
    have p2' : its2.toArray[i]? = some v2 := p2
    rw [List.getElem?_toArray, hu] at p1'
    rw [List.getElem?_toArray, hu2] at p2'
    obtain rfl := Option.some.inj p1'
    obtain rfl := Option.some.inj p2'
    refine ⟨_, rfl, wpAny_letOwnedTupleGo_zip (s := { s with heap := h', toks := tk }) z' fun h'' z'' sb => ?_⟩
    have hT2 : h''.get? s.heap.objs.size = some { cls := .type "tuple", data := .seq #[u, u2] } := (sb.2 _ (Nat.ne_of_gt zlt)).trans hT
    have new : ObjOk X.prog X.w (upd H s.heap.objs.size (.tup [x, y])) h'' s.heap.objs.size (.tup [x, y]) :=
      ⟨small (by show 2 ≤ 100000; decide), [u, u2], .cons ru (.cons ru2 .nil), ⟨_, hT2, rfl, _, rfl⟩⟩
    have out : ∀ {c : Nat}, c ∉ [N + 4, N + 2, N + 3, N, N + 1] → c ≠ N + 4 ∧ c ≠ N + 3 ∧ c ≠ N ∧ c ≠ N + 1 := fun {c} n => ⟨fun q => n (by simp [q]), fun q => n (by simp [q]), fun q => n (by simp [q]), fun q => n (by simp [q])⟩
    have I1 : Inv X pins σ (upd H s.heap.objs.size (.tup [x, y])) { s with heap := h'', toks := tk } :=
      I.turnedNew (t' := tk) (ch := [N + 4, N + 2, N + 3, N, N + 1]) (fun c o hb q => by
        obtain ⟨n1, n2, n3, n4⟩ := out hb
        exact (sb.2 c n1).trans (hk c o n1 n2 n3 n4 q)) hf (Nat.le_refl _) new
    have d1 : (N + 2 : Nat) ≠ N + 4 := by omega
    have d2 : (N + 3 : Nat) ≠ N + 4 := by omega
    have d3 : (N : Nat) ≠ N + 4 := by omega
    have d4 : (N + 1 : Nat) ≠ N + 4 := by omega
    have d5 : (N + 2 : Nat) ≠ N + 3 ∧ (N + 2 : Nat) ≠ N ∧ (N + 2 : Nat) ≠ N + 1 := by omega
    refine ⟨.ref s.heap.objs.size, _, I1, rfl, ⟨_, x, y, rfl, I.hok.fresh (Nat.le_refl _), rfl, fun l hl => by rw [inj_b I hl sx]; exact gx, fun l hl => by rw [inj_b I hl sy]; exact gy⟩, ⟨z'', ?_, ⟨u, u2, ?_⟩, ?_, ?_⟩, fun c hcm => ?_⟩
    · exact (sb.2 _ d1).trans (hk _ _ d1 d5.1 d5.2.1 d5.2.2 st2)
    · exact (sb.2 _ d2).trans TO'
    · exact t1'.1.keep fun o e => (sb.2 _ d3).trans e
    · exact t2'.1.keep fun o e => (sb.2 _ d4).trans e
    · have hlt : c < s.heap.objs.size := by
        have cs : c = N + 4 ∨ c = N + 2 ∨ c = N + 3 ∨ c = N ∨ c = N + 1 := by simpa using hcm
        have : (c : Nat) ≤ N + 4 := by
          rcases cs with q | q | q | q | q <;> rw [q]
          · exact Nat.le_refl _
          · exact Nat.add_le_add_left (by decide : 2 ≤ 4) N
          · exact Nat.add_le_add_left (by decide : 3 ≤ 4) N
          · exact Nat.le_add_right _ _
          · exact Nat.add_le_add_left (by decide : 1 ≤ 4) N
        exact Nat.lt_of_le_of_lt this zlt
      rw [upd_ne (Nat.ne_of_lt hlt)]
      exact (hf c hcm).1
  done := by
    intro X hP hw hK hc i pins s σ H E I hf st hg
    subst hP hw hK
    obtain ⟨st1, st2, ⟨x0, y0, st3⟩, st4, st5⟩ := st
    obtain ⟨xs, ys, sx, sy, l1, l2⟩ := hg
    obtain ⟨its, rv, ia, _⟩ := inv_b I sx
    obtain ⟨its2, rv2, ib, _⟩ := inv_b I sy
    have k1 := rv.length
    have k2 := rv2.length
    have calm : X.A.in1.handled = none := I.ok.hd hc
    have S : ZipSep2 (N + 4) (N + 2) (N + 3) N (N + 1) [N, a] [N + 1, b] := zip_sep2 (fun c z => by rw [List.mem_singleton.mp z]; exact la) (fun c z => by rw [List.mem_singleton.mp z]; exact lb)
    have i1 : its.toArray.size = i := by rw [List.size_toArray]; omega
    have i2 : its2.toArray.size = i := by rw [List.size_toArray]; omega
    refine wpAny_pyNext_zipD2_end S (draws_b calm N a (Nat.ne_of_lt la) its.toArray p) (draws_b calm (N + 1) b (Nat.ne_of_lt (Nat.lt_succ_of_lt lb)) its2.toArray q) st1 st2 st3 ⟨st4, ia⟩ ⟨st5, ib⟩ (by omega) (by omega) (by omega) fun h' tk hk => ⟨rfl, ?_⟩
    exact I.turnedL (t' := tk) (ch := [N + 4, N + 2, N + 3, N, N + 1]) (fun c o hb q => hk c o (fun z => hb (by simp [z])) (fun z => hb (by simp [z])) (fun z => hb (by simp [z])) (fun z => hb (by simp [z])) q) hf
  self := fun A i s Q E st h => wpAny_pyIter_zip st.1 h
def iZipB (K : PySem.W.Frag) (ta : TA) : TI := fun σ H R => ta σ H fun vs H1 => ∃ (a b : Addr) (xs ys : List V) (p q : Bool), vs = [.ref a, .ref b] ∧ SqB K H1 a xs p ∧ SqB K H1 b ys q ∧ R (ItzB K a b p q) H1
theorem pi_zipB {X : Cx} {K : PySem.W.Frag} {e e2 : Expr} {ta : TA} {p pos tpos : Pos} {elts : List Expr} {kk : Nat} (hK : X.K = K) (glob : Gl X "zip") (free : X.mg "zip" = none) (args : PA X [e, e2] ta)
    (st : starEach [e, e2] X.env = (false, eval e X.env) :: starEach [e2] X.env := by rfl) (bk : (backTo pos (starEach [e2] X.env)).any (·.1) = false := by rfl) : PI X (.Tuple elts kk tpos) (.Call (.Name "zip" p) [e, e2] [] pos) (iZipB K ta) := by
  subst hK
  constructor
  intro pins s σ H R I ask
  refine Call_ (ld_blt I glob free PyProof.Rows.boot_zip (PyProof.Rows.callWith_type1 (thn (args.run pos pins s σ H _ I ask) ?_) st bk))
  rintro us s1 ⟨vs, H1, I1, rel, a, b, xs, ys, p, q, ev, sx, sy, k⟩
  subst ev
  cases rel with
  | cons r rr =>
    cases rr with
    | cons r' rr =>
      cases rr
      cases r
      cases r'
      have fresh5 : ∀ c, c ∈ [s1.heap.objs.size + 4, s1.heap.objs.size + 2, s1.heap.objs.size + 3, s1.heap.objs.size, s1.heap.objs.size + 1] → FpOk X pins H1 c := fun c hcm => by
        have cs : c = s1.heap.objs.size + 4 ∨ c = s1.heap.objs.size + 2 ∨ c = s1.heap.objs.size + 3 ∨ c = s1.heap.objs.size ∨ c = s1.heap.objs.size + 1 := by simpa using hcm
        have low : s1.heap.objs.size ≤ c := by rcases cs with q | q | q | q | q <;> rw [q] <;> first | exact Nat.le_refl _ | exact Nat.le_add_right _ _
        exact I1.fpOk low (I1.hok.fresh low)
      obtain ⟨its, _, ia, la⟩ := inv_b I1 sx
      obtain ⟨its2, _, ib, lb⟩ := inv_b I1 sy
      refine zip_begins2 (begins_b a its.toArray p) (begins_b b its2.toArray q) ia ib fun h' hz hTI hTO h1 h2 hsz hk => wpAny_pyIter_zip hz ?_
      have I2 : Inv X pins σ H1 { s1 with heap := h' } := I1.kept (t' := s1.toks) hk
      exact ⟨s1.heap.objs.size + 4, [s1.heap.objs.size + 4, s1.heap.objs.size + 2, s1.heap.objs.size + 3, s1.heap.objs.size, s1.heap.objs.size + 1], _, _, H1, rfl, I2, turn_zipB la lb, ⟨hz, hTI, ⟨_, _, hTO⟩, first_b h1, first_b h2⟩, fresh5, k⟩
theorem walk_zipB {K : PySem.W.Frag} {a b : Addr} {xs ys : List V} {p q : Bool} {n : Nat} (hx : xs.length = n) (hy : ys.length = n) :
    Walk (ItzB K a b p q) n (fun H => SqB K H a xs p ∧ SqB K H b ys q) (YPair (fun i => xs[i]?) (fun i => ys[i]?)) where
  goes := fun i H hi g => ⟨xs, ys, xs[i]'(by omega), ys[i]'(by omega), g.1, g.2, List.getElem?_eq_getElem _, List.getElem?_eq_getElem _⟩
  stops := fun H g => ⟨xs, ys, g.1, g.2, hx, hy⟩
  yields := fun i H v H' hi g y => by
    obtain ⟨T, x, y, rfl, hT, e, f1, f2⟩ := y
    exact ⟨T, x, y, rfl, hT, e, f1 _ g.1, f2 _ g.2⟩
/-- what a thing holds, counted -/
def IteB (K : PySem.W.Frag) (a : Addr) (p : Bool) : It :=
  ⟨fun i H => ∃ (xs : List V) (x : V), SqB K H a xs p ∧ xs[i]? = some x, fun i H v H' => ∃ T x, v = .ref T ∧ H T = none ∧ H' = upd H T (.tup [.int (i : Nat), x]) ∧ ∀ xs, SqB K H a xs p → xs[i]? = some x, fun i H => ∃ xs : List V, SqB K H a xs p ∧ xs.length = i⟩
theorem turn_enumB {P : Program} {w : World} {K : PySem.W.Frag} {elts : List Expr} {kk : Nat} {tpos : Pos} {a : Addr} {p : Bool} {N : Nat} (la : a < N) :
    Turn P w K (.Tuple elts kk tpos) (IteB K a p) [N + 1, N] (N + 1) (fun i h => (∃ old, IsEnum h (N + 1) N ((i : Nat) : Int) old) ∧ ItB h N a i p) where
  mem := List.mem_cons_self
  obj := fun i h st c hc => by
    obtain ⟨⟨old, st1⟩, st2⟩ := st
    have cs : c = N + 1 ∨ c = N := by simpa using hc
    rcases cs with rfl | rfl
    · exact ⟨_, st1, nofun⟩
    · exact st2.obj
  keep := fun i h h' st k => by
    obtain ⟨⟨old, st1⟩, st2⟩ := st
    exact ⟨⟨old, k _ (by simp) _ st1⟩, st2.keep (k _ (by simp))⟩
  item := by
    intro X hP hw hK hc i pins s σ H E I hf st hg
    subst hP hw hK
    obtain ⟨⟨old, st1⟩, st2⟩ := st
    obtain ⟨xs, x, sx, gx⟩ := hg
    obtain ⟨its, rv, ia, _⟩ := inv_b I sx
    obtain ⟨u, hu, ru⟩ := rv.get gx
    have calm : X.A.in1.handled = none := I.ok.hd hc
    have elt : N + 1 < s.heap.objs.size := Heap.lt_size st1
    have i1 : i < its.toArray.size := by
      rw [List.size_toArray]
      exact (List.getElem?_eq_some_iff.mp hu).1
    refine wpAny_pyNext_enum_itemC (draws_b calm N a (Nat.ne_of_lt la) its.toArray p) st1 ⟨st2, ia⟩ i1 (Nat.succ_ne_self N) (by
      intro z
      have cs : N + 1 = N ∨ N + 1 = a := by simpa using z
      have : ¬ (N + 1 = N) := Nat.succ_ne_self N
      rcases cs with q | q
      · exact this q
      · have la' : (a : Nat) < N := la
        rw [← q] at la'
        exact Nat.lt_irrefl N (Nat.lt_trans (Nat.lt_succ_self N) la')) fun v h' tk p1 out t1 hT hsz hk => ?_
    have p1' : its.toArray[i]? = some v := p1
    rw [List.getElem?_toArray, hu] at p1'
    obtain rfl := Option.some.inj p1'
    refine ⟨_, rfl, wpAny_letOwnedTupleGo_enum (s := { s with heap := h', toks := tk + 1 }) out fun h'' he' sb => ?_⟩
    have hT2 : h''.get? s.heap.objs.size = some { cls := .type "tuple", data := .seq #[.int i tk, u] } := (sb.2 _ (Nat.ne_of_gt elt)).trans hT
    have new : ObjOk X.prog X.w (upd H s.heap.objs.size (.tup [.int (i : Nat), x])) h'' s.heap.objs.size (.tup [.int (i : Nat), x]) :=
      ⟨small (by show 2 ≤ 100000; decide), [.int i tk, u], .cons ⟨_, rfl⟩ (.cons ru .nil), ⟨_, hT2, rfl, _, rfl⟩⟩
    have I1 : Inv X pins σ (upd H s.heap.objs.size (.tup [.int (i : Nat), x])) { s with heap := h'', toks := tk + 1 } :=
      I.turnedNew (t' := tk + 1) (ch := [N + 1, N]) (fun c o hb q => (sb.2 c (fun z => hb (by simp [z]))).trans (hk c o (fun z => hb (by simp [z])) (fun z => hb (by simp [z])) q)) hf (Nat.le_refl _) new
    refine ⟨.ref s.heap.objs.size, _, I1, rfl, ⟨_, x, rfl, I.hok.fresh (Nat.le_refl _), rfl, fun l hl => by rw [inj_b I hl sx]; exact gx⟩, ⟨⟨u, ?_⟩, ?_⟩, fun c hcm => ?_⟩
    · have e1 : ((i + 1 : Nat) : Int) = (i : Int) + 1 := by omega
      rw [e1]
      exact he'
    · exact t1.1.keep fun o e => (sb.2 _ (Nat.ne_of_lt (Nat.lt_succ_self N))).trans e
    · have hlt : c < s.heap.objs.size := by
        have cs : c = N + 1 ∨ c = N := by simpa using hcm
        rcases cs with q | q <;> rw [q]
        · exact elt
        · exact Nat.lt_trans (Nat.lt_succ_self N) elt
      rw [upd_ne (Nat.ne_of_lt hlt)]
      exact (hf c hcm).1
  done := by
    intro X hP hw hK hc i pins s σ H E I hf st hg
    subst hP hw hK
    obtain ⟨⟨old, st1⟩, st2⟩ := st
    obtain ⟨xs, sx, l1⟩ := hg
    obtain ⟨its, rv, ia, _⟩ := inv_b I sx
    have k1 := rv.length
    have calm : X.A.in1.handled = none := I.ok.hd hc
    have i1 : its.toArray.size = i := by rw [List.size_toArray]; omega
    refine wpAny_pyNext_enum_endD (draws_b calm N a (Nat.ne_of_lt la) its.toArray p) st1 (by rw [i1]; exact ⟨st2, ia⟩) fun h' hx => ⟨rfl, ?_⟩
    exact I.turnedL (t' := s.toks) (ch := [N + 1, N]) (fun c o hb q => hx c o (fun z => hb (by simp [z])) q) hf
  self := fun A i s Q E st h => by
    obtain ⟨⟨old, st1⟩, _⟩ := st
    exact wpAny_pyIter_enum st1 h
theorem enum1_meets {v : Value} {o : Obj} {G : Heap → Prop} (B : Begins v o G) :
    Meets (Builtin.«enumerate.__new__» ⟨[.type "enumerate", v], []⟩) (fun _ R s => G s.heap ∧ R (.ok (.ret (.ref (s.heap.push o).objs.size))) { s with heap := (s.heap.push o).push { cls := .type "enumerate", data := .fields #[.none, .bool false, .ref s.heap.objs.size, rawInt 0, .none, .none] } }) :=
  .of_wp fun prog w A R s ask => by
    obtain ⟨hp, g, d, tk, os⟩ := s; obtain ⟨g1, ask⟩ := ask
    have hsub := sub_enumerate
    have way : ∀ {A' : Around} {E : Value → Shared → Prop} {Q : Value → Shared → Prop}, Q (.ref hp.objs.size) ⟨hp.push o, g, d, tk, os⟩ → wpAny (model prog w) A' (pyIter v) Q E ⟨hp, g, d, tk, os⟩ := fun k => B.iter prog w _ _ ⟨hp, g, d, tk, os⟩ _ g1 k
    wp_walk using way
    refine wpAny_stack_any fun st => wpAny_pure ?_
    split
    · rename_i c _ _ _ _ _
      cases (c == Value.type "enumerate") <;> (wp_walk using way; exact ⟨_, rfl, ask⟩)
    · wp_walk using way
      exact ⟨_, rfl, ask⟩
theorem enum1_begins {prog : Program} {w : World} {A : Around} {E : Value → Shared → Prop} {s : Shared} {v : Value} {o : Obj} {G : Heap → Prop} {Q : Value → Shared → Prop} (B : Begins v o G) (g1 : G s.heap)
    (ask : ∀ h', IsEnum h' (s.heap.objs.size + 1) s.heap.objs.size 0 .none → h'.get? s.heap.objs.size = some o → h'.objs.size = s.heap.objs.size + 2 → (∀ b o, s.heap.get? b = some o → h'.get? b = some o) → Q (.ref (s.heap.objs.size + 1)) { s with heap := h' }) :
    wpAny (model prog w) A (call (.type "enumerate") [v]) Q E s := by
  refine callType_new F.called_enumerate (by decide) (F.typeCall_enumerate_1 _) (F.newCall_enumerate_1 _) (fun obj => F.args_object_init_2 obj _) F.entry_enumerate_new (enum1_meets B) ⟨g1, ?_⟩
  have sz : (s.heap.push o).objs.size = s.heap.objs.size + 1 := Heap.size_push ..
  show _ ∧ _
  rw [sz]
  have he : IsEnum ((s.heap.push o).push { cls := .type "enumerate", data := .fields #[.none, .bool false, .ref s.heap.objs.size, rawInt 0, .none, .none] }) (s.heap.objs.size + 1) s.heap.objs.size 0 .none := by
    have k := Heap.get?_push_size (s.heap.push o) (o := { cls := .type "enumerate", data := .fields #[.none, .bool false, .ref s.heap.objs.size, rawInt 0, .none, .none] }) rfl
    rw [sz] at k; exact k
  exact ⟨⟨_, he, rfl⟩, ask _ he (Heap.get?_push_of_some _ (Heap.get?_push_size _ B.free)) (by rw [Heap.size_push, sz]) fun b o x => Heap.get?_push_of_some _ (Heap.get?_push_of_some _ x)⟩
def iEnumB (K : PySem.W.Frag) (ta : TA) : TI := fun σ H R => ta σ H fun vs H1 => ∃ (a : Addr) (xs : List V) (p : Bool), vs = [.ref a] ∧ SqB K H1 a xs p ∧ R (IteB K a p) H1
theorem pi_enumB {X : Cx} {K : PySem.W.Frag} {e : Expr} {ta : TA} {p pos tpos : Pos} {elts : List Expr} {kk : Nat} (hK : X.K = K) (glob : Gl X "enumerate") (free : X.mg "enumerate" = none) (args : PA X [e] ta) (st : starEach [e] X.env = [(false, eval e X.env)] := by rfl) :
    PI X (.Tuple elts kk tpos) (.Call (.Name "enumerate" p) [e] [] pos) (iEnumB K ta) := by
  subst hK
  constructor
  intro pins s σ H R I ask
  refine Call_ (ld_blt I glob free boot_enumerate (PyProof.Rows.callWith_type1 (thn (args.run pos pins s σ H _ I ask) ?_) st rfl))
  rintro us s1 ⟨vs, H1, I1, rel, a, xs, p, ev, sx, k⟩
  subst ev
  cases rel with
  | cons r rr =>
    cases rr
    cases r
    obtain ⟨its, _, ia, la⟩ := inv_b I1 sx
    refine enum1_begins (begins_b a its.toArray p) ia fun h' he h1 hsz hk => wpAny_pyIter_enum he ?_
    have I2 : Inv X pins σ H1 { s1 with heap := h' } := I1.kept (t' := s1.toks) hk
    refine ⟨s1.heap.objs.size + 1, [s1.heap.objs.size + 1, s1.heap.objs.size], _, _, H1, rfl, I2, turn_enumB la, ⟨⟨.none, he⟩, first_b h1⟩, fun c hcm => ?_, k⟩
    have cs : c = s1.heap.objs.size + 1 ∨ c = s1.heap.objs.size := by simpa using hcm
    have low : s1.heap.objs.size ≤ c := by rcases cs with q | q <;> rw [q] <;> first | exact Nat.le_refl _ | exact Nat.le_add_right _ _
    exact I1.fpOk low (I1.hok.fresh low)
theorem walk_enumB {K : PySem.W.Frag} {a : Addr} {xs : List V} {p : Bool} : Walk (IteB K a p) xs.length (fun H => SqB K H a xs p) (YPair (fun i => some (.int (i : Nat))) (fun i => xs[i]?)) where
  goes := fun i H hi g => ⟨xs, xs[i]'(by omega), g, List.getElem?_eq_getElem _⟩
  stops := fun H g => ⟨xs, g, rfl⟩
  yields := fun i H v H' hi g y => by
    obtain ⟨T, x, rfl, hT, e, f⟩ := y
    exact ⟨T, _, x, rfl, hT, e, rfl, f _ g⟩
/-- for over a list or a tuple -/
def iSeqB (K : PySem.W.Frag) (tl : TE) : TI := fun σ H R => tl σ H fun x H1 => ∃ a, x = .ref a ∧ (((∃ xs, SqL K H1 a xs) ∧ R (Itl K a) H1) ∨ ((∃ xs, SqT K H1 a xs) ∧ R (Itt K a) H1))
theorem pi_seqB {X : Cx} {K : PySem.W.Frag} {tg l : Expr} {tl : TE} (hK : X.K = K) (hl : PE X l tl) : PI X tg l (iSeqB K tl) := by
  subst hK
  constructor
  intro pins s σ H R I ask
  refine thn (hl.run pins s σ H _ I ask) fun v s1 ⟨x, H1, I1, r1, a, e, q⟩ => ?_
  subst e
  have e1 : v = Value.ref a := r1
  subst e1
  rcases q with ⟨⟨xs, sx⟩, k⟩ | ⟨⟨xs, sx⟩, k⟩
  · obtain ⟨its, _, ia, _⟩ := I1.list sx
    refine wpAny_pyIter_list ia.isList ⟨s1.heap.objs.size, [s1.heap.objs.size], _, _, H1, rfl, I1.kept (t' := s1.toks) (fun b o e => Heap.get?_push_of_some _ e), turn_list a _, ⟨_, Heap.get?_push_size _ rfl, rfl, rfl⟩, fun c hc => ?_, k⟩
    rw [List.mem_singleton.mp hc]; exact I1.fpOk (Nat.le_refl _) (I1.hok.fresh (Nat.le_refl _))
  · obtain ⟨its, _, ia, _⟩ := I1.tuple sx
    refine wpAny_pyIter_tuple (show s1.heap.IsTuple a its.toArray from ia) ⟨s1.heap.objs.size, [s1.heap.objs.size], _, _, H1, rfl, I1.kept (t' := s1.toks) (fun b o e => Heap.get?_push_of_some _ e), turn_tuple a _, ⟨_, Heap.get?_push_size _ rfl, rfl, rfl⟩, fun c hc => ?_, k⟩
    rw [List.mem_singleton.mp hc]; exact I1.fpOk (Nat.le_refl _) (I1.hok.fresh (Nat.le_refl _))
/-- one rule for a list and a tuple -/
def ItsB (K : PySem.W.Frag) (a : Addr) : Bool → It
  | true => Itl K a
  | false => Itt K a
def iSeqU (K : PySem.W.Frag) (tl : TE) : TI := fun σ H R => tl σ H fun x H1 => ∃ (a : Addr) (xs : List V) (p : Bool), x = .ref a ∧ SqB K H1 a xs p ∧ R (ItsB K a p) H1
theorem pi_seqU {X : Cx} {K : PySem.W.Frag} {tg l : Expr} {tl : TE} (hK : X.K = K) (hl : PE X l tl) : PI X tg l (iSeqU K tl) := by
  subst hK
  constructor
  intro pins s σ H R I ask
  refine thn (hl.run pins s σ H _ I ask) fun v s1 ⟨x, H1, I1, r1, a, xs, p, e, sx, k⟩ => ?_
  subst e
  have e1 : v = Value.ref a := r1
  subst e1
  cases p with
  | true =>
    obtain ⟨its, _, ia, _⟩ := I1.list sx
    refine wpAny_pyIter_list ia.isList ⟨s1.heap.objs.size, [s1.heap.objs.size], _, _, H1, rfl, I1.kept (t' := s1.toks) (fun b o e => Heap.get?_push_of_some _ e), turn_list a _, ⟨_, Heap.get?_push_size _ rfl, rfl, rfl⟩, fun c hc => ?_, k⟩
    rw [List.mem_singleton.mp hc]; exact I1.fpOk (Nat.le_refl _) (I1.hok.fresh (Nat.le_refl _))
  | false =>
    obtain ⟨its, _, ia, _⟩ := I1.tuple sx
    refine wpAny_pyIter_tuple (show s1.heap.IsTuple a its.toArray from ia) ⟨s1.heap.objs.size, [s1.heap.objs.size], _, _, H1, rfl, I1.kept (t' := s1.toks) (fun b o e => Heap.get?_push_of_some _ e), turn_tuple a _, ⟨_, Heap.get?_push_size _ rfl, rfl, rfl⟩, fun c hc => ?_, k⟩
    rw [List.mem_singleton.mp hc]; exact I1.fpOk (Nat.le_refl _) (I1.hok.fresh (Nat.le_refl _))
theorem walk_seqU {K : PySem.W.Frag} {a : Addr} {xs : List V} {p : Bool} : Walk (ItsB K a p) xs.length (fun H => SqB K H a xs p) (YAt xs) := by
  cases p with
  | true => exact walk_list
  | false => exact walk_tup
end KR
/-! ### days: ladles hour by hour, what each place has taken -/
namespace KR
open PySem PySem.Spec PyProof.Rows L2
theorem minLK {X : Cx} {K : PySem.W.Frag} (hK : X.K = K) (hc : X.calm = true) : CallR X (.builtin "min") (rMin K) := hK ▸ cr_min hc
theorem maxLK {X : Cx} {K : PySem.W.Frag} (hK : X.K = K) (hc : X.calm = true) : CallR X (.builtin "max") (rMax K) := hK ▸ cr_max hc
theorem nuMin3_int (i j k : Int) : nuMin3 (.int i) (.int j) (.int k) = some (.int (min (min i j) k)) := by
  have two : ∀ a b : Int, nuMin2 (.int a) (.int b) = some (.int (min a b)) := fun a b => by
    show some (if decide (b < a) = true then V.int b else V.int a) = _
    by_cases h : b < a
    · rw [decide_eq_true h, if_pos rfl, Int.min_def, if_neg (by omega)]
    · rw [decide_eq_false h, if_neg Bool.false_ne_true, Int.min_def, if_pos (by omega)]
  show (nuMin2 (.int i) (.int j)).bind (fun m => nuMin2 m (.int k)) = _
  rw [two i j]
  exact two _ k
/-! the sum of a list or a tuple of numbers; a part of a list or a tuple -/
theorem sum_intTuple {prog : Program} {w : World} {A : Around} {E : Value → Shared → Prop} {s : Shared} {l : Addr} {xs : Array (Int × Tok)} {Q : Value → Shared → Prop} (hh : A.handled = none) (hl : s.heap.IsTuple l (intItems xs))
    (h : ∀ h' tk t', (∀ b o, s.heap.get? b = some o → h'.get? b = some o) → Q (.int (preSum (numAt xs) xs.size) t') { s with heap := h', toks := tk }) :
    wpAny (model prog w) A (call (.builtin "sum") [.ref l]) Q E s := by
  have hlt : l < s.heap.objs.size := by obtain ⟨_, e, _⟩ := id hl; exact Heap.lt_size e
  refine call_sum_walkG (wpAny_pyIter_tuple hl ?_)
  refine ⟨_, [_, l], [_], _, _, _, numAt xs, rfl, Walks.tuple (A := A.in1) hh s.heap.objs.size l (Nat.ne_of_lt hlt) (intItems xs), ⟨⟨_, Heap.get?_push_size _ rfl, rfl, rfl⟩, hl.push _⟩, fun c hc => ?_, (fun _ _ => intItems_at), fun h' tk t' hk => ?_⟩
  · show c < (s.heap.push _).objs.size
    rw [Heap.size_push]
    rcases List.mem_cons.mp hc with rfl | hc
    · exact Nat.lt_succ_self _
    · rcases List.mem_cons.mp hc with rfl | hc
      · exact Nat.lt_succ_of_lt hlt
      · cases hc
  · have := h h' tk t' fun b o e => hk b o (fun hm => by
      rcases List.mem_cons.mp hm with e1 | hm
      · exact absurd (e1 ▸ Heap.lt_size e) (Nat.lt_irrefl _)
      · cases hm) (Heap.get?_push_of_some _ e)
    simpa [intItems] using this
theorem sum_rawT {prog : Program} {w : World} {A : Around} {E : Value → Shared → Prop} {s : Shared} {l : Addr} {its : List Value} {ns : List Int} {Q : Value → Shared → Prop} (hh : A.handled = none) (hl : s.heap.IsTuple l its.toArray) (hi : IntsAre its ns)
    (h : ∀ h' tk t', (∀ b o, s.heap.get? b = some o → h'.get? b = some o) → Q (.int ns.sum t') { s with heap := h', toks := tk }) : wpAny (model prog w) A (call (.builtin "sum") [.ref l]) Q E s := by
  obtain ⟨xs, e⟩ := hi.allInts.items
  have hn : numsOf (intItems xs).toList = ns := by rw [← e]; exact hi.numsOf
  rw [nums_intItems] at hn
  rw [e] at hl
  refine sum_intTuple hh hl fun h' tk t' hk => ?_
  have := h h' tk t' hk
  rw [preSum_eq, List.take_of_length_le (by simp), hn]; exact this
def rSumB (K : PySem.W.Frag) : List V → Hp → VK → Prop := fun vs H Q => ∃ (a : Addr) (ns : List Int) (p : Bool), vs = [V.ref a] ∧ SqB K H a (ns.map V.int) p ∧ Q (.int ns.sum) H
theorem sumBK {X : Cx} {K : PySem.W.Frag} (hK : X.K = K) (hc : X.calm = true) : CallR X (.builtin "sum") (rSumB K) := by
  subst hK
  intro pins s σ H vs us Q I r h
  obtain ⟨a, ns, p, rfl, hs, q⟩ := h
  cases p with
  | true => exact cr_sum hc pins s σ H _ us Q I r ⟨a, ns, rfl, hs, q⟩
  | false =>
    obtain ⟨its, rv, hl, _⟩ := I.tuple hs
    rw [Vals.ref1 r]
    exact sum_rawT (I.ok.hd hc) hl rv.ints fun h' tk t' hk => ⟨.int _, H, I.kept hk, ⟨_, rfl⟩, q⟩
def rSlB (K : PySem.W.Frag) : V → Option Int → Option Int → Hp → VK → Prop := fun x lo hi H Q => ∃ (a : Addr) (xs : List V) (p : Bool), x = .ref a ∧ SqB K H a xs p ∧ ∀ (c : Addr) (H' : Hp), Same H H' → SqB K H' c (cutV xs lo hi) p → Q (.ref c) H'
theorem cut_whole {xs : List V} {lo hi : Option Int} (h : HT.sIx xs.length 0 lo = 0 ∧ HT.sIx xs.length xs.length hi = xs.length) : cutV xs lo hi = xs := by
  unfold cutV
  rw [h.1, h.2, List.drop_zero, Nat.sub_zero, List.take_length]
theorem slBK {X : Cx} {K : PySem.W.Frag} (hK : X.K = K) : SlR X (rSlB K) := by
  subst hK
  intro pins s σ H x v vl vu lo hi sl Q I rx hs pl pu h
  obtain ⟨a, xs, p, rfl, hx, q⟩ := h
  cases p with
  | true => exact sl_list pins s σ H _ v vl vu lo hi sl Q I rx hs pl pu ⟨a, xs, rfl, hx, fun c hc => q c _ (same_new hc) (SqL.of upd_same)⟩
  | false =>
    refine sl_tupA pins s σ H _ v vl vu lo hi sl Q I rx hs pl pu ⟨a, xs, rfl, hx, fun w => ?_, fun _ c hc => q c _ (same_new hc) (SqT.of upd_same)⟩
    refine q a H (.refl _) ?_
    rw [cut_whole w]
    exact hx
theorem cut_to' {xs : List V} {n : Nat} (h : n ≤ xs.length) : cutV xs none (some (n : Int)) = xs.take n := by
  unfold cutV
  rw [HT.sIx_none, HT.sIx_nat, Nat.min_eq_left h, Nat.sub_zero, List.drop_zero]
theorem same_none' {H H' : Hp} {a : Addr} (s : Same H H') (n : H' a = none) : H a = none := by
  cases e : H a with
  | none => rfl
  | some o =>
    have k := s _ _ e
    rw [n] at k
    cases k
theorem fr_new' {p c : Addr} {H H' : Hp} (F : Fr p H H') (n : H' c = none) (ne : c ≠ p) : H c = none := by
  cases e : H c with
  | none => rfl
  | some o =>
    have k := F _ _ ne e
    rw [n] at k
    cases k
/-! what a day tells -/
structure Dy where
  cs : List Int
  ks : List (Int × List Int)
  ss : List Int
structure DyOk (D : Dy) : Prop where
  h1 : 1 ≤ D.cs.length
  h2 : D.cs.length ≤ 48
  k1 : 1 ≤ D.ks.length
  k2 : D.ks.length ≤ 8
  ts : ∀ k ∈ D.ks, k.2.length = D.cs.length
  sl : D.ss.length = D.cs.length
def csum (D : Dy) (t : Nat) : Int := (D.cs.take t).sum
def kt (D : Dy) (p : Nat) : Int × List Int := D.ks.getD p (0, [])
def tkQ (D : Dy) (t : Nat) (prev : Nat → Int) : Nat → Int
  | 0 => min (prev (D.ks.length - 1)) (prev D.ks.length + D.ss.getD t 0)
  | q + 1 => min (min (if D.ks.length - (q + 1) = 0 then csum D (t + 1) else prev (D.ks.length - (q + 1) - 1)) (prev (D.ks.length - (q + 1)) + (kt D (D.ks.length - (q + 1))).2.getD t 0)) (tkQ D t prev q + (kt D (D.ks.length - (q + 1))).1)
/-- what a place has taken by so many hours -/
def tk (D : Dy) : Nat → Nat → Int
  | 0, _ => 0
  | t + 1, p => tkQ D t (tk D t) (D.ks.length - p)
theorem tk_zero (D : Dy) (p : Nat) : tk D 0 p = 0 := rfl
theorem tk_last (D : Dy) (t : Nat) : tk D (t + 1) D.ks.length = min (tk D t (D.ks.length - 1)) (tk D t D.ks.length + D.ss.getD t 0) := by
  show tkQ D t (tk D t) (D.ks.length - D.ks.length) = _
  rw [Nat.sub_self] <;> rfl
theorem tk_at {D : Dy} {t p : Nat} (h : p < D.ks.length) : tk D (t + 1) p = min (min (if p = 0 then csum D (t + 1) else tk D t (p - 1)) (tk D t p + (kt D p).2.getD t 0)) (tk D (t + 1) (p + 1) + (kt D p).1) := by
  show tkQ D t (tk D t) (D.ks.length - p) = min (min _ _) (tkQ D t (tk D t) (D.ks.length - (p + 1)) + _)
  obtain ⟨q, e⟩ : ∃ q, D.ks.length - p = q + 1 := ⟨D.ks.length - p - 1, by omega⟩
  have e1 : D.ks.length - (q + 1) = p := by omega
  have e2 : D.ks.length - (p + 1) = q := by omega
  rw [e, e2]
  show min (min (if D.ks.length - (q + 1) = 0 then _ else tk D t (D.ks.length - (q + 1) - 1)) (tk D t (D.ks.length - (q + 1)) + (kt D (D.ks.length - (q + 1))).2.getD t 0)) (tkQ D t (tk D t) q + (kt D (D.ks.length - (q + 1))).1) = _
  rw [e1]
/-- what each hour takes at a place -/
def rowI (D : Dy) (p : Nat) : List Int := (List.range D.cs.length).map fun t => tk D (t + 1) p - tk D t p
theorem row_len (D : Dy) (p : Nat) : (rowI D p).length = D.cs.length := by
  unfold rowI
  rw [List.length_map, List.length_range]
theorem row_get {D : Dy} {p t : Nat} (h : t < D.cs.length) : (rowI D p)[t]? = some (tk D (t + 1) p - tk D t p) := by
  unfold rowI
  rw [List.getElem?_map, List.getElem?_range h] <;> rfl
theorem row_sum (D : Dy) (p : Nat) : ∀ t, t ≤ D.cs.length → ((rowI D p).take t).sum = tk D t p := fun t => by
  induction t with
  | zero => intro _; rw [List.take_zero, tk_zero] <;> rfl
  | succ t ih =>
    intro h
    rw [take_one (row_get (by omega)), List.sum_append, ih (by omega), List.sum_cons, List.sum_nil]
    omega
/-! where a day stands -/
def IsB' (K : PySem.W.Frag) (H : Hp) (p a : Addr) (ns : List Int) (b : Bool) : Prop := SqB K H a (ns.map V.int) b ∧ a ≠ p
structure KtAt (K : PySem.W.Frag) (H : Hp) (p a : Addr) (k : Int × List Int) : Prop where
  ex : ∃ t b, SqT K H a [.int k.1, .ref t] ∧ IsB' K H p t k.2 b
structure DyP where
  c : Addr
  k : Addr
  s : Addr
  pc : Bool
  pk : Bool
  ps : Bool
  as : List Addr
structure DayAt (K : PySem.W.Frag) (H : Hp) (p a : Addr) (x : DyP) (D : Dy) : Prop where
  at_ : SqT K H a [.ref x.c, .ref x.k, .ref x.s]
  cs : IsB' K H p x.c D.cs x.pc
  ks : SqB K H x.k (x.as.map V.ref) x.pk
  kp : x.k ≠ p
  ss : IsB' K H p x.s D.ss x.ps
  len : x.as.length = D.ks.length
  kt : ∀ (j : Nat) (a : Addr) (k : Int × List Int), x.as[j]? = some a → D.ks[j]? = some k → KtAt K H p a k
theorem IsB'.same {K : PySem.W.Frag} {H H' : Hp} {p a : Addr} {ns : List Int} {b : Bool} (h : IsB' K H p a ns b) (s : Same H H') : IsB' K H' p a ns b := ⟨h.1.same s, h.2⟩
theorem SqB.fr {K : PySem.W.Frag} {H H' : Hp} {p a : Addr} {xs : List V} {b : Bool} {n : Nat} (h : SqB K H a xs b) (ne : a ≠ p) (B : BoxAt H p n) (f : Fr p H H') : SqB K H' a xs b := by
  cases b with
  | true =>
    rcases h with (h | ⟨o, h⟩) | h
    · exact .inl (.inl (f _ _ ne h))
    · exact .inl (.inr ⟨o, f _ _ ne h⟩)
    · exact .inr h
  | false => exact sqT_fr h B f
theorem IsB'.fr {K : PySem.W.Frag} {H H' : Hp} {p a : Addr} {ns : List Int} {b : Bool} {n : Nat} (h : IsB' K H p a ns b) (B : BoxAt H p n) (f : Fr p H H') : IsB' K H' p a ns b := ⟨SqB.fr h.1 h.2 B f, h.2⟩
theorem KtAt.same {K : PySem.W.Frag} {H H' : Hp} {p a : Addr} {k : Int × List Int} (h : KtAt K H p a k) (s : Same H H') : KtAt K H' p a k := by
  obtain ⟨t, b, h1, h2⟩ := h.ex
  exact ⟨t, b, Same.tup s h1, h2.same s⟩
theorem KtAt.fr {K : PySem.W.Frag} {H H' : Hp} {p a : Addr} {k : Int × List Int} {n : Nat} (h : KtAt K H p a k) (B : BoxAt H p n) (f : Fr p H H') : KtAt K H' p a k := by
  obtain ⟨t, b, h1, h2⟩ := h.ex
  exact ⟨t, b, sqT_fr h1 B f, h2.fr B f⟩
theorem DayAt.same {K : PySem.W.Frag} {H H' : Hp} {p a : Addr} {x : DyP} {D : Dy} (h : DayAt K H p a x D) (s : Same H H') : DayAt K H' p a x D :=
  ⟨Same.tup s h.at_, h.cs.same s, h.ks.same s, h.kp, h.ss.same s, h.len, fun j a k e1 e2 => (h.kt j a k e1 e2).same s⟩
theorem DayAt.fr {K : PySem.W.Frag} {H H' : Hp} {p a : Addr} {x : DyP} {D : Dy} {n : Nat} (h : DayAt K H p a x D) (B : BoxAt H p n) (f : Fr p H H') : DayAt K H' p a x D :=
  ⟨sqT_fr h.at_ B f, h.cs.fr B f, SqB.fr h.ks h.kp B f, h.kp, h.ss.fr B f, h.len, fun j a k e1 e2 => (h.kt j a k e1 e2).fr B f⟩
theorem DayAt.pot {K : PySem.W.Frag} {H : Hp} {p a : Addr} {x : DyP} {D : Dy} (h : DayAt K H p a x D) {j : Nat} (lt : j < D.ks.length) : ∃ ka t b, (x.as.map V.ref)[j]? = some (.ref ka) ∧ SqT K H ka [.int (KR.kt D j).1, .ref t] ∧ IsB' K H p t (KR.kt D j).2 b := by
  have e1 : x.as[j]? = some (x.as[j]'(by rw [h.len]; exact lt)) := List.getElem?_eq_getElem _
  have e2 : D.ks[j]? = some D.ks[j] := List.getElem?_eq_getElem lt
  obtain ⟨t, b, h1, h2⟩ := (h.kt j _ _ e1 e2).ex
  have e3 : KR.kt D j = D.ks[j] := by
    unfold KR.kt
    rw [List.getD_eq_getElem?_getD, e2] <;> rfl
  rw [e3]
  exact ⟨_, t, b, by rw [List.getElem?_map, e1] <;> rfl, h1, h2⟩
theorem ints_get {ns : List Int} {t : Nat} (h : t < ns.length) : (ns.map V.int)[t]? = some (.int (ns.getD t 0)) := by
  rw [List.getElem?_map, List.getD_eq_getElem?_getD, List.getElem?_eq_getElem h] <;> rfl
theorem kt_len {D : Dy} (O : DyOk D) {p : Nat} (h : p < D.ks.length) : (kt D p).2.length = D.cs.length := by
  refine O.ts _ ?_
  unfold kt
  rw [List.getD_eq_getElem?_getD, List.getElem?_eq_getElem h]
  exact List.getElem_mem h
theorem lenV_b {K : PySem.W.Frag} {H : Hp} {a : Addr} {xs : List V} {p : Bool} (h : SqB K H a xs p) : LenV K (.ref a) H xs.length := by
  cases p with
  | true => exact .inl ⟨xs, h, rfl⟩
  | false => exact .inr ⟨xs, h, rfl⟩
theorem ix_b {K : PySem.W.Frag} {H : Hp} {a : Addr} {xs : List V} {p : Bool} {i : Nat} {j : Int} {v : V} {Q : VK} (h : SqB K H a xs p) (e : j = (i : Int)) (g : xs[i]? = some v) (q : Q v H) : rIx K (.ref a) (.int j) H Q := by
  subst e
  cases p with
  | true => exact .inl ⟨a, xs, _, v, rfl, rfl, h, at_of rfl g, q⟩
  | false => exact .inr (.inl ⟨a, xs, _, v, rfl, rfl, h, at_of rfl g, q⟩)
/-! bounds -/
structure Bd where
  word : Str
  lead : Option (Int × Int)
  more : Int
def leadV (H : Hp) (l : V) : Option (Int × Int) → Prop
  | none => l = .non
  | some (p, h) => ∃ q, l = .ref q ∧ H q = some (.tup [.int p, .int h])
def BdAt (H : Hp) (kv : Key × V) (b : Bd) : Prop := kv.1 = .inr b.word ∧ ∃ t l, kv.2 = .ref t ∧ H t = some (.tup [l, .int b.more]) ∧ leadV H l b.lead
theorem leadV.same {H H' : Hp} {l : V} {o : Option (Int × Int)} (h : leadV H l o) (s : Same H H') : leadV H' l o := by
  cases o with
  | none => exact h
  | some x =>
    obtain ⟨q, e, h1⟩ := h
    exact ⟨q, e, s _ _ h1⟩
theorem BdAt.same {H H' : Hp} {kv : Key × V} {b : Bd} (h : BdAt H kv b) (s : Same H H') : BdAt H' kv b := by
  obtain ⟨h1, t, l, h2, h3, h4⟩ := h
  exact ⟨h1, t, l, h2, s _ _ h3, h4.same s⟩
/-- what bounds a place at an hour, that one behind so many hours -/
def firstB (D : Dy) (p t : Nat) : Bd := if p = 0 then ⟨"comes", none, csum D (t + 1)⟩ else ⟨"ahead", some ((p : Int) - 1, (t : Int) - 1), 0⟩
def bnds (D : Dy) (p : Nat) : Nat → List Bd
  | 0 => [⟨"begin", none, 0⟩]
  | t + 1 => if p = D.ks.length then [firstB D p t, ⟨"takes", some ((p : Int), (t : Int) - 1), D.ss.getD t 0⟩]
    else [firstB D p t, ⟨"takes", some ((p : Int), (t : Int) - 1), (kt D p).2.getD t 0⟩, ⟨"room", some ((p : Int) + 1, (t : Int)), (kt D p).1⟩]
def AllBd (H : Hp) (kvs : List (Key × V)) (bs : List Bd) : Prop := Paired (BdAt H) kvs bs
theorem AllBd.same {H H' : Hp} {kvs : List (Key × V)} {bs : List Bd} (h : AllBd H kvs bs) (s : Same H H') : AllBd H' kvs bs := by
  induction h with
  | nil => exact .nil
  | cons a _ ih => exact .cons (a.same s) ih
theorem AllBd.get {H : Hp} : ∀ {kvs : List (Key × V)} {bs : List Bd}, AllBd H kvs bs → ∀ {i : Nat} {kv : Key × V}, kvs[i]? = some kv → ∃ b, bs[i]? = some b ∧ BdAt H kv b
  | [], _, _, i, _, e => by simp at e
  | _ :: _, _, .cons a h, 0, _, e => by cases e; exact ⟨_, rfl, a⟩
  | _ :: _, _, .cons _ h, i + 1, _, e => AllBd.get h (i := i) e
theorem AllBd.len {H : Hp} {kvs : List (Key × V)} {bs : List Bd} (h : AllBd H kvs bs) : kvs.length = bs.length := Paired.length h
/-- a place and an hour as a key -/
def kk (p t : Nat) : List Key := [.inl (p : Int), .inl ((t : Int) - 1)]
theorem kk_inj {p t p' t' : Nat} (h : kk p t = kk p' t') : p = p' ∧ t = t' := by
  unfold kk at h
  injection h with h1 h2
  injection h2 with h3 h4
  injection h1 with h1
  injection h3 with h3
  omega
/-- what is told of places and hours -/
def Told (D : Dy) (kvs : List (List Key × V)) (d : Nat → Nat → Prop) : Prop := ∀ p t, d p t → valV kvs (kk p t) = some (.int (tk D t p))
theorem Told.put {D : Dy} {kvs : List (List Key × V)} {d d' : Nat → Nat → Prop} (h : Told D kvs d) (p t : Nat) (hd : ∀ p' t', d' p' t' → d p' t' ∨ (p' = p ∧ t' = t)) : Told D (putK kvs (kk p t) (.int (tk D t p))) d' := fun p' t' h' => by
  rw [valV_put]
  by_cases c : kk p' t' = kk p t
  · rw [if_pos c]
    obtain ⟨e1, e2⟩ := kk_inj c
    rw [e1, e2]
  · rw [if_neg c]
    rcases hd p' t' h' with g | ⟨e1, e2⟩
    · exact h p' t' g
    · exact absurd (by rw [e1, e2]) c
/-- what a bound comes to -/
def valB (D : Dy) (b : Bd) : Int := match b.lead with
  | none => b.more
  | some (p, h) => tk D (h + 1).toNat p.toNat + b.more
theorem min_mem {ns : List Int} {m a : Int} (h : m ∈ ns) (le : ∀ y ∈ ns, m ≤ y) (ha : a ∈ ns) (la : ∀ y ∈ ns, a ≤ y) : m = a := Int.le_antisymm (le a ha) (la m h)
/-- the least that the bounds come to is what has been taken -/
theorem bnds_min {D : Dy} {p t : Nat} (k1 : 1 ≤ D.ks.length) (hp : p ≤ D.ks.length) : tk D t p ∈ (bnds D p t).map (valB D) ∧ ∀ y ∈ (bnds D p t).map (valB D), tk D t p ≤ y := by
  cases t with
  | zero =>
    show (0 : Int) ∈ [(0 : Int)] ∧ ∀ y ∈ [(0 : Int)], 0 ≤ y
    exact ⟨List.mem_cons_self, fun y hy => by rw [List.mem_singleton.mp hy]; decide⟩
  | succ t =>
    have e1 : valB D (firstB D p t) = if p = 0 then csum D (t + 1) else tk D t (p - 1) := by
      unfold firstB
      by_cases c : p = 0
      · rw [if_pos c, if_pos c] <;> rfl
      · rw [if_neg c, if_neg c]
        show tk D ((t : Int) - 1 + 1).toNat ((p : Int) - 1).toNat + 0 = _
        rw [show ((t : Int) - 1 + 1).toNat = t by omega, show ((p : Int) - 1).toNat = p - 1 by omega, Int.add_zero]
    have e2 : ∀ m, valB D ⟨"takes", some ((p : Int), (t : Int) - 1), m⟩ = tk D t p + m := fun m => by
      show tk D ((t : Int) - 1 + 1).toNat ((p : Int)).toNat + m = _
      rw [show ((t : Int) - 1 + 1).toNat = t by omega, Int.toNat_natCast]
    have e3 : ∀ m, valB D ⟨"room", some ((p : Int) + 1, (t : Int)), m⟩ = tk D (t + 1) (p + 1) + m := fun m => by
      show tk D ((t : Int) + 1).toNat ((p : Int) + 1).toNat + m = _
      rw [show ((t : Int) + 1).toNat = t + 1 by omega, show ((p : Int) + 1).toNat = p + 1 by omega]
    by_cases c : p = D.ks.length
    · have eb : bnds D p (t + 1) = [firstB D p t, ⟨"takes", some ((p : Int), (t : Int) - 1), D.ss.getD t 0⟩] := if_pos c
      rw [eb, List.map_cons, List.map_cons, List.map_nil, e1, e2]
      have et := tk_last D t
      rw [← c] at et
      rw [et, if_neg (show ¬ p = 0 by omega)]
      refine ⟨?_, fun y hy => ?_⟩
      · simp only [List.mem_cons, List.not_mem_nil, or_false]
        omega
      · simp only [List.mem_cons, List.not_mem_nil, or_false] at hy
        omega
    · have eb : bnds D p (t + 1) = [firstB D p t, ⟨"takes", some ((p : Int), (t : Int) - 1), (kt D p).2.getD t 0⟩, ⟨"room", some ((p : Int) + 1, (t : Int)), (kt D p).1⟩] := if_neg c
      have et := tk_at (D := D) (t := t) (p := p) (by omega)
      rw [eb, List.map_cons, List.map_cons, List.map_cons, List.map_nil, e1, e2, e3]
      generalize (if p = 0 then csum D (t + 1) else tk D t (p - 1)) = fb at *
      refine ⟨?_, fun y hy => ?_⟩
      · simp only [List.mem_cons, List.not_mem_nil, or_false]
        omega
      · simp only [List.mem_cons, List.not_mem_nil, or_false] at hy
        omega
theorem same_frb {H0 H1 H2 : Hp} {b : Addr} (s : Same H0 H1) (n : H0 b = none) (f : Fr b H1 H2) : Same H0 H2 := fun c o e => f c o (ne_of_none e n) (s c o e)
/-- the lists of ints in a row, one upon another -/
def RowsAt (H : Hp) (rs : List Addr) (f : Nat → List Int) : Prop := ∀ (j : Nat) (r : Addr), rs[j]? = some r → H r = some (.lst ((f j).map V.int))
theorem leadV.frb {H H' : Hp} {b : Addr} {kb : List (Key × V)} {l : V} {o : Option (Int × Int)} (h : leadV H l o) (hb : H b = some (.dK kb)) (F : Fr b H H') : leadV H' l o := by
  cases o with
  | none => exact h
  | some y =>
    obtain ⟨q, e, h1⟩ := h
    exact ⟨q, e, F _ _ (ne_of h1 hb (by intro z; cases z)) h1⟩
theorem bnds_lead {D : Dy} {p t : Nat} {b : Bd} {p' h' : Int} (hp : p ≤ D.ks.length) (m : b ∈ bnds D p t) (e : b.lead = some (p', h')) : ∃ pn tn : Nat, p' = (pn : Int) ∧ h' = (tn : Int) - 1 ∧ pn ≤ D.ks.length ∧ (tn < t ∨ (tn = t ∧ p < pn)) := by
  cases t with
  | zero =>
    have e1 : b = ⟨"begin", none, 0⟩ := List.mem_singleton.mp m
    rw [e1] at e
    cases e
  | succ t =>
    have f1 : b = firstB D p t → ∃ pn tn : Nat, p' = (pn : Int) ∧ h' = (tn : Int) - 1 ∧ pn ≤ D.ks.length ∧ (tn < t + 1 ∨ (tn = t + 1 ∧ p < pn)) := fun z => by
      rw [z] at e
      unfold firstB at e
      by_cases c : p = 0
      · rw [if_pos c] at e
        cases e
      · rw [if_neg c] at e
        obtain ⟨rfl, rfl⟩ := Prod.mk.inj (Option.some.inj e)
        exact ⟨p - 1, t, by omega, rfl, by omega, .inl (by omega)⟩
    have f2 : ∀ x, b = ⟨"takes", some ((p : Int), (t : Int) - 1), x⟩ → ∃ pn tn : Nat, p' = (pn : Int) ∧ h' = (tn : Int) - 1 ∧ pn ≤ D.ks.length ∧ (tn < t + 1 ∨ (tn = t + 1 ∧ p < pn)) := fun x z => by
      rw [z] at e
      obtain ⟨rfl, rfl⟩ := Prod.mk.inj (Option.some.inj e)
      exact ⟨p, t, rfl, rfl, hp, .inl (by omega)⟩
    by_cases c : p = D.ks.length
    · rw [show bnds D p (t + 1) = [firstB D p t, ⟨"takes", some ((p : Int), (t : Int) - 1), D.ss.getD t 0⟩] from if_pos c] at m
      rcases List.mem_cons.mp m with z | z
      · exact f1 z
      · exact f2 _ (List.mem_singleton.mp z)
    · rw [show bnds D p (t + 1) = [firstB D p t, ⟨"takes", some ((p : Int), (t : Int) - 1), (kt D p).2.getD t 0⟩, ⟨"room", some ((p : Int) + 1, (t : Int)), (kt D p).1⟩] from if_neg c] at m
      rcases List.mem_cons.mp m with z | z
      · exact f1 z
      · rcases List.mem_cons.mp z with z | z
        · exact f2 _ z
        · rw [List.mem_singleton.mp z] at e
          obtain ⟨rfl, rfl⟩ := Prod.mk.inj (Option.some.inj e)
          exact ⟨p + 1, t + 1, by omega, by omega, by omega, .inr ⟨rfl, by omega⟩⟩
theorem bnds_len (D : Dy) (p t : Nat) : 0 < (bnds D p t).length := by
  cases t with
  | zero => exact Nat.zero_lt_succ _
  | succ t =>
    show 0 < (if p = D.ks.length then _ else _ : List Bd).length
    split <;> exact Nat.zero_lt_succ _
theorem bnds_len3 (D : Dy) (p t : Nat) : (bnds D p t).length ≤ 3 := by
  cases t with
  | zero => show 1 ≤ 3; decide
  | succ t =>
    show (if p = D.ks.length then _ else _ : List Bd).length ≤ 3
    split
    · show 2 ≤ 3
      decide
    · show 3 ≤ 3
      decide
/-- the first hour by which so many are struck -/
def FirstV (D : Dy) (m : Int) (v : V) : Prop := (∃ t : Nat, t < D.cs.length ∧ (∀ j, j < t → tk D (j + 1) D.ks.length < m) ∧ m ≤ tk D (t + 1) D.ks.length ∧ v = .int (t : Int)) ∨ ((∀ j, j < D.cs.length → tk D (j + 1) D.ks.length < m) ∧ v = .non)
/-- ladles that a day may have -/
def Ldl (ns : List Int) : Prop := ∀ z ∈ ns, 0 ≤ z ∧ z ≤ 1000000
structure DyNn (D : Dy) : Prop where
  cs : Ldl D.cs
  ks : ∀ k ∈ D.ks, 1 ≤ k.1 ∧ k.1 ≤ 1000000 ∧ Ldl k.2
  ss : Ldl D.ss
/-- kettles beside their lists -/
def KtF (K : PySem.W.Frag) (H : Hp) (p f : Addr) (a : Addr) (k : Int × List Int) : Prop := ∃ t, SqT K H a [.int k.1, .ref t] ∧ H t = some (.lst (k.2.map V.int)) ∧ t ≠ p ∧ t ≠ f
def PotsF (K : PySem.W.Frag) (H : Hp) (p f : Addr) (as : List Addr) (ks : List (Int × List Int)) : Prop := Paired (KtF K H p f) as ks
theorem KtF.same {K : PySem.W.Frag} {H H' : Hp} {p f a : Addr} {k : Int × List Int} (h : KtF K H p f a k) (s : Same H H') : KtF K H' p f a k := by
  obtain ⟨t, h1, h2, h3, h4⟩ := h
  exact ⟨t, Same.tup s h1, s _ _ h2, h3, h4⟩
theorem KtF.fr {K : PySem.W.Frag} {H H' : Hp} {p f a : Addr} {k : Int × List Int} {n : Nat} (h : KtF K H p f a k) (B : BoxAt H p n) (F : Fr p H H') : KtF K H' p f a k := by
  obtain ⟨t, h1, h2, h3, h4⟩ := h
  exact ⟨t, sqT_fr h1 B F, F _ _ h3 h2, h3, h4⟩
theorem KtF.put {K : PySem.W.Frag} {H : Hp} {p f a : Addr} {k : Int × List Int} {xs ys : List V} (h : KtF K H p f a k) (hf : H f = some (.lst xs)) : KtF K (upd H f (.lst ys)) p f a k := by
  obtain ⟨t, h1, h2, h3, h4⟩ := h
  exact ⟨t, sqT_frL h1 hf fr_upd, by rw [upd_ne h4]; exact h2, h3, h4⟩
theorem KtF.to {K : PySem.W.Frag} {H : Hp} {p f g a : Addr} {k : Int × List Int} (h : KtF K H p f a k) (n : H g = none) : KtF K H p g a k := by
  obtain ⟨t, h1, h2, h3, h4⟩ := h
  exact ⟨t, h1, h2, h3, ne_of_none h2 n⟩
theorem PotsF.map {K : PySem.W.Frag} {H H' : Hp} {p f g : Addr} {as : List Addr} {ks : List (Int × List Int)} (h : PotsF K H p f as ks) (m : ∀ a k, KtF K H p f a k → KtF K H' p g a k) : PotsF K H' p g as ks := by
  induction h with
  | nil => exact .nil
  | cons a _ ih => exact .cons (m _ _ a) ih
theorem PotsF.snoc {K : PySem.W.Frag} {H : Hp} {p f : Addr} {as : List Addr} {ks : List (Int × List Int)} {a : Addr} {k : Int × List Int} (h : PotsF K H p f as ks) (ha : KtF K H p f a k) : PotsF K H p f (as ++ [a]) (ks ++ [k]) := by
  induction h with
  | nil => exact .cons ha .nil
  | cons b _ ih => exact .cons b ih
theorem PotsF.get {K : PySem.W.Frag} {H : Hp} {p f : Addr} : ∀ {as : List Addr} {ks : List (Int × List Int)}, PotsF K H p f as ks → ∀ {j : Nat} {a : Addr}, as[j]? = some a → ∃ k, ks[j]? = some k ∧ KtF K H p f a k
  | [], _, _, j, _, e => by simp at e
  | _ :: _, _, .cons h _, 0, _, e => by cases e; exact ⟨_, rfl, h⟩
  | _ :: _, _, .cons _ h, j + 1, _, e => PotsF.get h (j := j) e
theorem PotsF.at_ {K : PySem.W.Frag} {H : Hp} {p f : Addr} {as : List Addr} {ks : List (Int × List Int)} (h : PotsF K H p f as ks) : ∀ (j : Nat) (a : Addr) (k : Int × List Int), as[j]? = some a → ks[j]? = some k → KtAt K H p a k := fun j a k e1 e2 => by
  obtain ⟨k', e3, t, h1, h2, h3, _⟩ := h.get e1
  rw [e2] at e3
  obtain rfl := Option.some.inj e3
  exact ⟨t, true, h1, SqL.of h2, h3⟩
theorem rep_ints (k : Nat) (z : Int) : (List.replicate ((k : Int)).toNat [V.int z]).flatten = (List.replicate k z).map V.int := by
  rw [Int.toNat_natCast, List.map_replicate]
  induction k with
  | zero => rfl
  | succ k ih => rw [List.replicate_succ, List.flatten_cons, ih, List.replicate_succ] <;> rfl
/-! tuple(x) of a list or a tuple -/
def rTupJ (K : PySem.W.Frag) : List V → Hp → VK → Prop := fun xs H Q => ∃ p ys, xs = [.ref p] ∧ ((SqL K H p ys ∧ ∀ l H', Same H H' → H l = none → H' l = some (.tup ys) → Q (.ref l) H') ∨ (SqT K H p ys ∧ Q (.ref p) H))
theorem tupJ {X : Cx} {K : PySem.W.Frag} (h : X.K = K) : CallR X (.type "tuple") (rTupJ K) := fun pins s σ H xs us Q I r ⟨p, ys, e, q⟩ =>
  call_tuple_of pins s σ H xs us Q I r ⟨p, ys, e, h ▸ q.imp (fun z => ⟨z.1, fun l hl => z.2 l _ (same_new hl) hl upd_same⟩) id⟩
/-! rows of numbers as data -/
theorem eqv_nums : ∀ (a b : List Int), PyData.eqvAll (a.map PyData.int) (b.map PyData.int) = decide (a = b)
  | [], [] => rfl
  | [], _ :: _ => rfl
  | _ :: _, [] => rfl
  | x :: a, y :: b => by
    show (PyData.eqv (.int x) (.int y) && PyData.eqvAll (a.map PyData.int) (b.map PyData.int)) = _
    rw [eqv_nums a b]
    show (decide (x = y) && _) = _
    by_cases c : x = y
    · subst c
      by_cases d : a = b
      · subst d
        simp
      · simp [d]
    · simp [c]
def din (ns : List Int) : PyData := .list (ns.map PyData.int)
theorem din_eqv (a b : List Int) : PyData.eqv (din a) (din b) = decide (a = b) := eqv_nums a b
theorem nums_dps {K : PySem.W.Frag} {H : Hp} : ∀ (ns : List Int), DpAll K H (ns.map V.int) (ns.map PyData.int)
  | [] => .nil
  | _ :: r => .cons (.int _) (nums_dps r)
theorem din_at {K : PySem.W.Frag} {H : Hp} {a : Addr} {ns : List Int} (h : H a = some (.lst (ns.map V.int))) : Dp K H (.ref a) (din ns) := .lst (SqL.of h) (nums_dps ns)
theorem nums_flat : ∀ (ns : List Int), PyData.canLayAll0 (ns.map PyData.int) = true ∧ PyData.depthAll (ns.map PyData.int) = 0
  | [] => ⟨rfl, rfl⟩
  | z :: r => by
    obtain ⟨h1, h2⟩ := nums_flat r
    refine ⟨?_, ?_⟩
    · show (PyData.canLay0 (.int z) && PyData.canLayAll0 (r.map PyData.int)) = true
      rw [h1] <;> rfl
    · show max (PyData.depth (.int z)) (PyData.depthAll (r.map PyData.int)) = 0
      rw [h2] <;> rfl
theorem din_shaped (ns : List Int) : SeqAt.shaped (din ns) = true := by
  obtain ⟨h1, h2⟩ := nums_flat ns
  show (PyData.canLayAll0 (ns.map PyData.int) && decide (PyData.depthAll (ns.map PyData.int) + 1 ≤ 64)) = true
  rw [h1, h2] <;> rfl
/-! the hours by which so many are struck -/
theorem filter_head {P : Nat → Bool} : ∀ (n t : Nat), t < n → P t = true → (∀ j, j < t → P j = false) → ∃ r, (List.range n).filter P = t :: r := fun n t lt pt no => by
  induction n with
  | zero => omega
  | succ n ih =>
    rw [List.range_succ, List.filter_append]
    by_cases c : t < n
    · obtain ⟨r, e⟩ := ih c
      rw [e]
      exact ⟨_, rfl⟩
    · have e : t = n := by omega
      subst e
      have e0 : (List.range t).filter P = [] := List.filter_eq_nil_iff.mpr fun j hj => by
        rw [no j (List.mem_range.mp hj)]
        exact Bool.false_ne_true
      rw [e0, List.nil_append, List.filter_cons, if_pos pt]
      exact ⟨_, rfl⟩
def hoursBy (D : Dy) (m : Int) : List Nat := (List.range D.cs.length).filter fun t => decide (m ≤ tk D (t + 1) D.ks.length)
theorem FirstV.hours {D : Dy} {m : Int} {v : V} (h : FirstV D m v) : (hoursBy D m = [] ∧ v = .non) ∨ ∃ t r, hoursBy D m = t :: r ∧ v = .int ((t : Nat) : Int) := by
  rcases h with ⟨t, lt, below, ge, rfl⟩ | ⟨below, rfl⟩
  · obtain ⟨r, e⟩ := filter_head (P := fun t => decide (m ≤ tk D (t + 1) D.ks.length)) D.cs.length t lt (decide_eq_true ge) fun j hj => decide_eq_false (by have := below j hj; omega)
    exact .inr ⟨t, r, e, rfl⟩
  · refine .inl ⟨List.filter_eq_nil_iff.mpr fun j hj => ?_, rfl⟩
    have := below j (List.mem_range.mp hj)
    rw [decide_eq_false (by omega)]
    exact Bool.false_ne_true
/-- what has been taken is neither below nought nor great -/
theorem csum_nn {D : Dy} (N : DyNn D) : ∀ t, 0 ≤ csum D t := fun t => by
  unfold csum
  have all : ∀ l : List Int, (∀ z ∈ l, 0 ≤ z) → 0 ≤ l.sum := fun l => by
    induction l with
    | nil => exact fun _ => Int.le_refl _
    | cons a r ih =>
      intro h
      have h1 := h a List.mem_cons_self
      have h2 := ih fun z hz => h z (List.mem_cons_of_mem _ hz)
      rw [List.sum_cons]
      omega
  exact all _ fun z hz => (N.cs z (List.mem_of_mem_take hz)).1
theorem ldl_at {ns : List Int} (h : Ldl ns) (t : Nat) : 0 ≤ ns.getD t 0 ∧ ns.getD t 0 ≤ 1000000 := by
  rw [List.getD_eq_getElem?_getD]
  cases e : ns[t]? with
  | none => exact ⟨by decide, by decide⟩
  | some z => exact h z (List.mem_of_getElem? e)
theorem kt_nn {D : Dy} (N : DyNn D) (p : Nat) : 0 ≤ (kt D p).1 ∧ Ldl (kt D p).2 := by
  unfold kt
  rw [List.getD_eq_getElem?_getD]
  cases e : D.ks[p]? with
  | none => exact ⟨by decide, fun z hz => absurd hz List.not_mem_nil⟩
  | some k =>
    have h := N.ks k (List.mem_of_getElem? e)
    exact ⟨by show 0 ≤ k.1; omega, h.2.2⟩
theorem tk_nn {D : Dy} (N : DyNn D) : ∀ t q p, p + q = D.ks.length → 0 ≤ tk D t p ∧ tk D t p ≤ 1000000 * t := fun t => by
  induction t with
  | zero =>
    intro q p _
    rw [tk_zero]
    omega
  | succ t ih =>
    intro q
    induction q with
    | zero =>
      intro p hp
      have e : p = D.ks.length := by omega
      subst e
      rw [tk_last]
      have h1 := ih 1 (D.ks.length - 1)
      have h0 := ih 0 D.ks.length rfl
      have s := ldl_at N.ss t
      by_cases c : D.ks.length = 0
      · rw [c] at h0 ⊢
        have e : tk D t (0 - 1) = tk D t 0 := rfl
        omega
      · have := h1 (by omega)
        omega
    | succ q ihq =>
      intro p hp
      rw [tk_at (by omega)]
      have h0 := ih (q + 1) p hp
      have h1 := ihq (p + 1) (by omega)
      have kn := kt_nn N p
      have s := ldl_at kn.2 t
      have c0 := csum_nn N (t + 1)
      by_cases c : p = 0
      · rw [if_pos c]
        omega
      · rw [if_neg c]
        have h2 := ih (q + 2) (p - 1) (by omega)
        omega
/-- a part of a row of numbers -/
theorem cut_nums (ns : List Int) (lo hi : Option Int) : ∃ ms : List Int, cutV (ns.map V.int) lo hi = ms.map V.int ∧ (∀ z ∈ ms, z ∈ ns) ∧ ms.length ≤ ns.length := by
  unfold cutV
  refine ⟨(ns.drop _).take _, by rw [List.map_take, List.map_drop], fun z hz => List.mem_of_mem_drop (List.mem_of_mem_take hz), ?_⟩
  rw [List.length_take, List.length_drop]
  omega
theorem rg_nums (a b : Int) : ∃ ms : List Int, rgV a b = ms.map V.int ∧ ms.length = (b - a).toNat := by
  refine ⟨(List.range (b - a).toNat).map fun i => a + (i : Nat), ?_, by rw [List.length_map, List.length_range]⟩
  unfold rgV
  rw [List.map_map] <;> rfl
/-- a day of tuples stands beside a list that is written -/
theorem DayAt.frT {K : PySem.W.Frag} {H H' : Hp} {p a q : Addr} {c k s : Addr} {as : List Addr} {D : Dy} {xs : List V} (h : DayAt K H p a ⟨c, k, s, false, false, false, as⟩ D) (F : Fr q H H') (hq : H q = some (.lst xs)) (tt : ∀ (j : Nat) (b : Addr) (k : Int × List Int), as[j]? = some b → D.ks[j]? = some k → ∃ t, SqT K H b [.int k.1, .ref t] ∧ SqT K H t (k.2.map V.int) ∧ t ≠ p) : DayAt K H' p a ⟨c, k, s, false, false, false, as⟩ D :=
  ⟨sqT_frL h.at_ hq F, ⟨sqT_frL h.cs.1 hq F, h.cs.2⟩, sqT_frL h.ks hq F, h.kp, ⟨sqT_frL h.ss.1 hq F, h.ss.2⟩, h.len, fun j b k e1 e2 => by
    obtain ⟨t, a1, a2, a3⟩ := tt j b k e1 e2
    exact ⟨t, false, sqT_frL a1 hq F, sqT_frL a2 hq F, a3⟩⟩
theorem same_new_fr {H0 H1 H2 : Hp} {p : Addr} (s : Same H0 H1) (n : H0 p = none) (f : Fr p H1 H2) : Same H0 H2 := fun c o e => f c o (ne_of_none e n) (s c o e)
end KR
/-! ### data of tuples, texts, numbers; repr of any of it -/
namespace KR
open PySem PySem.Spec PyProof.Rows L2
inductive Dg (K : PySem.W.Frag) (H : Hp) : Nat → V → PyData → Prop
  | non (n : Nat) : Dg K H n .non .none
  | int (n : Nat) (i : Int) : Dg K H n (.int i) (.int i)
  | str (n : Nat) (x : Str) : Dg K H n (.str x) (.str x)
  | tup {n : Nat} {a : Addr} {xs : List V} {ds : List PyData} : SqT K H a xs → xs.length = ds.length → (∀ (i : Nat) (x : V) (d : PyData), xs[i]? = some x → ds[i]? = some d → Dg K H n x d) → Dg K H (n + 1) (.ref a) (.tuple ds)
theorem Dg.on {K : PySem.W.Frag} {H H' : Hp} (k : ∀ a xs, SqT K H a xs → SqT K H' a xs) : ∀ {n : Nat} {v : V} {d : PyData}, Dg K H n v d → Dg K H' n v d := by
  intro n v d h
  induction h with
  | non n => exact .non n
  | int n i => exact .int n i
  | str n x => exact .str n x
  | tup h1 h2 _ ih => exact .tup (k _ _ h1) h2 ih
theorem Dg.same {K : PySem.W.Frag} {H H' : Hp} (s : Same H H') {n : Nat} {v : V} {d : PyData} (h : Dg K H n v d) : Dg K H' n v d := h.on fun _ _ q => Same.tup s q
theorem Dg.fr {K : PySem.W.Frag} {H H' : Hp} {p : Addr} {m n : Nat} {v : V} {d : PyData} (h : Dg K H n v d) (B : BoxAt H p m) (f : Fr p H H') : Dg K H' n v d := h.on fun _ _ q => sqT_fr q B f
theorem dps_of {K : PySem.W.Frag} {H : Hp} : ∀ {xs : List V} {ds : List PyData}, xs.length = ds.length → (∀ (i : Nat) (x : V) (d : PyData), xs[i]? = some x → ds[i]? = some d → Dp K H x d) → DpAll K H xs ds
  | [], [], _, _ => .nil
  | x :: xs, d :: ds, hl, h => .cons (h 0 x d rfl rfl) (dps_of (by rw [List.length_cons, List.length_cons] at hl; omega) fun i y e a b => h (i + 1) y e a b)
theorem Dg.dp {K : PySem.W.Frag} {H : Hp} {n : Nat} {v : V} {d : PyData} (h : Dg K H n v d) : Dp K H v d := by
  induction h with
  | non n => exact .non
  | int n i => exact .int i
  | str n x => exact .str x
  | tup h1 h2 _ ih => exact .tup h1 (dps_of h2 ih)
def DgAll (K : PySem.W.Frag) (H : Hp) (n : Nat) (xs : List V) (ds : List PyData) : Prop := xs.length = ds.length ∧ ∀ (i : Nat) (x : V) (d : PyData), xs[i]? = some x → ds[i]? = some d → Dg K H n x d
theorem DgAll.nil {K : PySem.W.Frag} {H : Hp} {n : Nat} : DgAll K H n [] [] := ⟨rfl, fun i x d h => by simp at h⟩
theorem DgAll.cons {K : PySem.W.Frag} {H : Hp} {n : Nat} {x : V} {d : PyData} {xs : List V} {ds : List PyData} (h : Dg K H n x d) (t : DgAll K H n xs ds) : DgAll K H n (x :: xs) (d :: ds) :=
  ⟨by rw [List.length_cons, List.length_cons, t.1], fun i u v hu hv => match i, hu, hv with
    | 0, hu, hv => by cases hu; cases hv; exact h
    | i + 1, hu, hv => t.2 i u v hu hv⟩
theorem DgAll.tup {K : PySem.W.Frag} {H : Hp} {n : Nat} {xs : List V} {ds : List PyData} {a : Addr} (t : DgAll K H n xs ds) (h : SqT K H a xs) : Dg K H (n + 1) (.ref a) (.tuple ds) := .tup h t.1 t.2
/-- data that can be shown -/
structure Fine (k w : Nat) (d : PyData) : Prop where
  lay : PyData.canLay0 d = true
  dep : PyData.depth d ≤ k
  wt : PyData.weight d ≤ w
  ish : PyData.intsShort 13 d = true
  sh : PyData.showable d = true
  nd : PyData.hasDict d = false
structure FineAll (k w : Nat) (ds : List PyData) : Prop where
  lay : PyData.canLayAll0 ds = true
  dep : PyData.depthAll ds ≤ k
  wt : PyData.weightAll ds ≤ w
  ish : PyData.intsShortAll 13 ds = true
  sh : PyData.showableAll ds = true
  nd : PyData.hasDictAll ds = false
theorem FineAll.nil (k : Nat) : FineAll k 0 [] := ⟨rfl, Nat.zero_le _, Nat.le_refl _, rfl, rfl, rfl⟩
theorem FineAll.cons {k a b : Nat} {d : PyData} {ds : List PyData} (h : Fine k a d) (t : FineAll k b ds) : FineAll k (a + 1 + b) (d :: ds) := by
  refine ⟨?_, ?_, ?_, ?_, ?_, ?_⟩
  · show (PyData.canLay0 d && PyData.canLayAll0 ds) = true
    rw [h.lay, t.lay] <;> rfl
  · show max (PyData.depth d) (PyData.depthAll ds) ≤ k
    have := h.dep
    have := t.dep
    omega
  · show PyData.weight d + 1 + PyData.weightAll ds ≤ a + 1 + b
    have := h.wt
    have := t.wt
    omega
  · show (PyData.intsShort 13 d && PyData.intsShortAll 13 ds) = true
    rw [h.ish, t.ish] <;> rfl
  · show (PyData.showable d && PyData.showableAll ds) = true
    rw [h.sh, t.sh] <;> rfl
  · show (PyData.hasDict d || PyData.hasDictAll ds) = false
    rw [h.nd, t.nd] <;> rfl
theorem FineAll.tup {k w : Nat} {ds : List PyData} (t : FineAll k w ds) : Fine (k + 1) w (.tuple ds) := ⟨t.lay, Nat.succ_le_succ t.dep, t.wt, t.ish, t.sh, t.nd⟩
theorem Fine.up {k k' w w' : Nat} {d : PyData} (h : Fine k w d) (h1 : k ≤ k') (h2 : w ≤ w') : Fine k' w' d := ⟨h.lay, Nat.le_trans h.dep h1, Nat.le_trans h.wt h2, h.ish, h.sh, h.nd⟩
theorem Fine.non (k : Nat) : Fine k 0 .none := ⟨rfl, Nat.zero_le _, Nat.le_refl _, rfl, rfl, rfl⟩
theorem nat_short : ∀ n < 1001, (PyData.shown (.int ((n : Nat) : Int))).length ≤ 13 ∧ PyData.weight (.int ((n : Nat) : Int)) ≤ 12 ∧ ((n : Nat) : Int).natAbs.log2 < 1920 := by decide +kernel
theorem Fine.int {i : Int} (k : Nat) (h0 : 0 ≤ i) (h1 : i ≤ 1000) : Fine k 12 (.int i) := by
  obtain ⟨n, rfl⟩ : ∃ n : Nat, i = (n : Int) := ⟨i.toNat, by omega⟩
  obtain ⟨e1, e2, e3⟩ := nat_short n (by omega)
  exact ⟨rfl, Nat.zero_le _, e2, decide_eq_true e1, decide_eq_true e3, rfl⟩
theorem Fine.minus (k : Nat) : Fine k 12 (.int (-1)) := ⟨rfl, Nat.zero_le _, by decide +kernel, by decide +kernel, by decide +kernel, rfl⟩
theorem Fine.str {x : Str} {n : Nat} (k : Nat) (h : x.length ≤ n) (c : ∀ c ∈ TL.tl x, c < 128) : Fine k n (.str x) := by
  refine ⟨?_, Nat.zero_le _, h, rfl, rfl, rfl⟩
  show PyData.strOk x = true
  unfold PyData.strOk
  rw [← Array.all_toList, List.all_eq_true]
  exact fun d hd => decide_eq_true (Nat.lt_trans (c d hd) (by decide))
theorem Fine.line {k w : Nat} {d : PyData} (h : Fine k w d) (hk : k ≤ 60) (hw : w ≤ 100000) : d.shown.length ≤ sizeLine := by
  have dep := h.dep
  have wt := h.wt
  have l : PyData.layable0 d = true := by
    show (PyData.canLay0 d && decide (PyData.depth d ≤ 64) && decide (PyData.weight d ≤ 2 ^ 20)) = true
    rw [h.lay, decide_eq_true (by omega), decide_eq_true (show PyData.weight d ≤ 2 ^ 20 by omega)] <;> rfl
  exact Nat.le_trans (shown_le13 l h.ish) (by decide)
/-- repr of any such data -/
def rReprV (K : PySem.W.Frag) : List V → Hp → VK → Prop := fun xs H Q => ∃ (v : V) (d : PyData) (k w : Nat), xs = [v] ∧ Dp K H v d ∧ Fine k w d ∧ k ≤ 60 ∧ w ≤ 100000 ∧ Q (.str d.shown) H
theorem cr_reprV {X : Cx} {K : PySem.W.Frag} (hK : X.K = K) (hg : X.A.guards = some []) (hu : X.A.units + 64 < cLine) : CallR X (.builtin "repr") (rReprV K) := by
  subst hK
  intro pn s σ H xs us Q I r want
  obtain ⟨v, d, k, w, rfl, dp, f, hk, hw, q⟩ := want
  have len := f.line hk hw
  have dep := f.dep
  cases r with
  | cons r1 r2 =>
    cases r2
    cases dp with
    | non =>
      cases r1
      exact PySem.P.repr_of_none ⟨.str _, H, I.tok _, ⟨_, rfl⟩, q⟩
    | bl b =>
      cases r1
      exact PySem.P.repr_of_bool ⟨.str _, H, I.tok _, ⟨_, rfl⟩, q⟩
    | int i =>
      obtain ⟨t, rfl⟩ := r1
      exact PySem.P.repr_of_int (of_decide_eq_true f.sh) ⟨.str _, H, I.tok _, ⟨_, rfl⟩, q⟩
    | str x =>
      obtain ⟨t, rfl⟩ := r1
      exact PySem.P.repr_of_str ⟨.str _, H, I.tok _, ⟨_, rfl⟩, q⟩ len
    | lst a1 a2 =>
      obtain ⟨as, rd⟩ := Dp.reads I _ _ _ (Dp.lst a1 a2) r1
      cases r1
      exact repr_of_reads' rd f.sh (PyData.noDict_hsm f.nd) hg (by omega) (fun _ _ e => e) (fun h' u tk hkk => ⟨.str _, H, I.kept (fun b o e => hkk b o e), ⟨_, rfl⟩, q⟩) len
    | tup a1 a2 =>
      obtain ⟨as, rd⟩ := Dp.reads I _ _ _ (Dp.tup a1 a2) r1
      cases r1
      exact repr_of_reads' rd f.sh (PyData.noDict_hsm f.nd) hg (by omega) (fun _ _ e => e) (fun h' u tk hkk => ⟨.str _, H, I.kept (fun b o e => hkk b o e), ⟨_, rfl⟩, q⟩) len
end KR
/-! ### plans of a day: a range that is kept; data of days -/
namespace KR
open PySem PySem.Spec PyProof.Rows L2
/-- a comprehension in a comprehension -/
theorem blkOk_in {N : List Str} {outer scope sc : Scope} {own : List (Str × Nat)} {cl : List (Str × Addr)} {C : Addr} {env : Env} (hs : env.scope = sc) (h : blkC N (relS outer sc) scope own = true) : BlkOk N (compEnvC outer cl C env).scope scope own := by
  subst hs
  exact blkOk_by h
/-- range(n) as a value -/
def tRngV (ta : TE) : TE := fun σ H Q => ta σ H fun x H1 => ∃ j : Int, x = .int j ∧ ∀ a, H1 a = none → Q (.ref a) (upd H1 a (.rng 0 j))
theorem pe_rngV {X : Cx} {a : Expr} {ta : TE} {p pos : Pos} (hg : Gl X "range") (hm : X.mg "range" = none) (ha : PE X a ta) (na : starEach [a] X.env = (false, eval a X.env) :: starEach [] X.env := by rfl) : PE X (.Call (.Name "range" p) [a] [] pos) (tRngV ta) := by
  refine ⟨fun pins s σ H Q I h => ?_⟩
  refine Call_ (ld_blt I hg hm boot_range (PyProof.Rows.callWith_type1 (one_arg ha I h (fun v s2 x H2 I2 r q => ?_) na) na))
  obtain ⟨n, rfl, q⟩ := q
  obtain ⟨t, rfl⟩ := r
  exact call_range_1 ⟨.ref s2.heap.objs.size, upd H2 s2.heap.objs.size (.rng 0 n), I2.laid (fun b u e => Heap.get?_push_of_some _ e) (Nat.le_refl _) ⟨_, _, _, Heap.get?_push_size _ rfl⟩, rfl, q _ (I2.hok.fresh (Nat.le_refl _))⟩
/-- a kept range, walked -/
def iRngV (te : TE) : TI := fun σ H R => te σ H fun x H1 => ∃ (a : Addr) (lo hi : Int), x = .ref a ∧ H1 a = some (.rng lo hi) ∧ (-(2 ^ 62) ≤ lo ∧ lo < 2 ^ 62 ∧ -(2 ^ 62) ≤ hi ∧ hi < 2 ^ 62) ∧ R (Itr lo (hi - lo).toNat) H1
theorem pi_rngV {X : Cx} {tg e : Expr} {te : TE} (he : PE X e te) : PI X tg e (iRngV te) := by
  refine ⟨fun pins s σ H R I h => ?_⟩
  refine thn (he.run pins s σ H _ I h) fun v s1 ⟨x, H1, I1, r1, q1⟩ => ?_
  obtain ⟨a, lo, hi, e, ha, ⟨h1, h2, h3, h4⟩, q⟩ := q1
  subst e
  cases r1
  obtain ⟨t, u, w, g⟩ := I1.hok a _ ha
  refine wpAny_pyIter_range (show IsRange s1.heap a lo hi 1 t u w from g) (small_one h1 h2 h3 h4) ?_
  refine pi_one (tk := s1.toks) I1 _ (turn_range _ lo (hi - lo).toNat) ?_ q
  have e1 : lo + ((0 : Nat) : Int) * 1 = lo := by simp
  have e2 : (((hi - lo).toNat : Nat) : Int) - ((0 : Nat) : Int) = Builtin.Range.rangeSize lo hi 1 := by rw [rangeSize_one]; split <;> omega
  show IsRangeIter _ _ (lo + ((0 : Nat) : Int) * 1) ((((hi - lo).toNat : Nat) : Int) - ((0 : Nat) : Int)) 1
  rw [e1, e2]
  exact Heap.get?_push_size _ rfl
/-! days as data that can be shown -/
theorem Fine.ldl {i : Int} (k : Nat) (h0 : 0 ≤ i) (h1 : i ≤ 1000000) : Fine k 20 (.int i) := by
  have n : i.natAbs < 2 ^ 20 := by omega
  have l : i.natAbs ≠ 0 → i.natAbs.log2 < 20 := fun z => (Nat.log2_lt z).mpr n
  refine ⟨rfl, Nat.zero_le _, ?_, decide_eq_true (PyData.shown_int_le (by omega)), decide_eq_true ?_, rfl⟩
  · show (if i == 0 then 0 else i.natAbs.log2 + 1) ≤ 20
    by_cases c : i = 0
    · rw [c]
      decide
    · rw [if_neg (by simpa using c)]
      have := l (by omega)
      omega
  · by_cases c : i.natAbs = 0
    · rw [c]
      decide
    · have := l c
      omega
theorem FineAll.ldl (k : Nat) : ∀ {ns : List Int}, Ldl ns → FineAll k (21 * ns.length) (ns.map PyData.int)
  | [], _ => FineAll.nil k
  | z :: r, h => by
    have a := Fine.ldl k (h z List.mem_cons_self).1 (h z List.mem_cons_self).2
    have b := FineAll.cons a (FineAll.ldl k (ns := r) fun y hy => h y (List.mem_cons_of_mem _ hy))
    have e : 20 + 1 + 21 * r.length = 21 * (z :: r).length := by rw [List.length_cons]; omega
    rw [e] at b
    exact b
theorem FineAll.lst {k w : Nat} {ds : List PyData} (t : FineAll k w ds) : Fine (k + 1) w (.list ds) := ⟨t.lay, Nat.succ_le_succ t.dep, t.wt, t.ish, t.sh, t.nd⟩
theorem ldl_dp {K : PySem.W.Frag} {H : Hp} {p t : Addr} {ns : List Int} {b : Bool} (h : IsB' K H p t ns b) (L : Ldl ns) (l : ns.length ≤ 48) : ∃ d, Fine 1 1008 d ∧ ∀ H', Same H H' → Dp K H' (.ref t) d := by
  have f := FineAll.ldl 0 L
  cases b with
  | true => exact ⟨.list (ns.map PyData.int), (FineAll.lst f).up (Nat.le_refl _) (by omega), fun H' s => .lst (h.same s).1 (nums_dps ns)⟩
  | false => exact ⟨.tuple (ns.map PyData.int), (FineAll.tup f).up (Nat.le_refl _) (by omega), fun H' s => .tup (h.same s).1 (nums_dps ns)⟩
theorem kts_dp {K : PySem.W.Frag} {H : Hp} {p : Addr} : ∀ (as : List Addr) (ks : List (Int × List Int)), as.length = ks.length → (∀ (j : Nat) (a : Addr) (k : Int × List Int), as[j]? = some a → ks[j]? = some k → KtAt K H p a k) → (∀ k ∈ ks, 0 ≤ k.1 ∧ k.1 ≤ 1000000 ∧ Ldl k.2 ∧ k.2.length ≤ 48) → ∃ ds, FineAll 2 (1100 * ks.length) ds ∧ ∀ H', Same H H' → DpAll K H' (as.map V.ref) ds
  | [], [], _, _, _ => ⟨[], FineAll.nil 2, fun _ _ => .nil⟩
  | a :: as, k :: ks, l, at_, ok => by
    obtain ⟨ds, f, dp⟩ := kts_dp as ks (by rw [List.length_cons, List.length_cons] at l; omega) (fun j a k e1 e2 => at_ (j + 1) a k e1 e2) fun k hk => ok k (List.mem_cons_of_mem _ hk)
    obtain ⟨t, b, h1, h2⟩ := (at_ 0 a k rfl rfl).ex
    obtain ⟨o1, o2, o3, o4⟩ := ok k List.mem_cons_self
    obtain ⟨dt, ft, dpt⟩ := ldl_dp h2 o3 o4
    have fk := FineAll.tup (FineAll.cons (Fine.ldl 1 o1 o2) (FineAll.cons ft (FineAll.nil 1)))
    have fa := FineAll.cons (fk.up (w' := 1099) (Nat.le_refl _) (by omega)) f
    refine ⟨.tuple [.int k.1, dt] :: ds, ?_, fun H' s => .cons (.tup (Same.tup s h1) (.cons (.int _) (.cons (dpt H' s) .nil))) (dp H' s)⟩
    have e : 1099 + 1 + 1100 * ks.length = 1100 * (k :: ks).length := by rw [List.length_cons]; omega
    rw [e] at fa
    exact fa
theorem DayAt.shows {K : PySem.W.Frag} {H : Hp} {p a : Addr} {x : DyP} {D : Dy} (h : DayAt K H p a x D) (O : DyOk D) (N : DyNn D) : ∃ d, Fine 4 20000 d ∧ ∀ H', Same H H' → Dp K H' (.ref a) d := by
  have h2 := O.h2
  have k2 := O.k2
  obtain ⟨dc, fc, dpc⟩ := ldl_dp h.cs N.cs h2
  obtain ⟨dss, fs, dps⟩ := ldl_dp h.ss N.ss (by rw [O.sl]; exact h2)
  obtain ⟨dk, fk, dpk⟩ := kts_dp x.as D.ks h.len h.kt fun k hk => ⟨by have := (N.ks k hk).1; omega, (N.ks k hk).2.1, (N.ks k hk).2.2, by rw [O.ts k hk]; exact h2⟩
  have mid : ∃ d2, Fine 3 (1100 * D.ks.length) d2 ∧ PyData.depth d2 ≤ 3 ∧ ∀ H', Same H H' → Dp K H' (.ref x.k) d2 := by
    have hk := h.ks
    cases e : x.pk with
    | true =>
      rw [e] at hk
      exact ⟨.list dk, FineAll.lst fk, (FineAll.lst fk).dep, fun H' s => .lst (Same.seq s hk) (dpk H' s)⟩
    | false =>
      rw [e] at hk
      exact ⟨.tuple dk, FineAll.tup fk, (FineAll.tup fk).dep, fun H' s => .tup (Same.tup s hk) (dpk H' s)⟩
  obtain ⟨d2, f2, _, dp2⟩ := mid
  refine ⟨.tuple [dc, d2, dss], ?_, fun H' s => .tup (Same.tup s h.at_) (.cons (dpc H' s) (.cons (dp2 H' s) (.cons (dps H' s) .nil)))⟩
  have f := FineAll.tup (FineAll.cons (fc.up (k' := 3) (by decide) (Nat.le_refl _)) (FineAll.cons f2 (FineAll.cons (fs.up (k' := 3) (by decide) (Nat.le_refl _)) (FineAll.nil 3))))
  exact f.up (Nat.le_refl _) (by omega)
/-- a plan as data -/
def planD (D : Dy) : PyData := .list ((List.range (D.ks.length + 1)).map fun j => din (rowI D j))
theorem nums_dk {K : PySem.W.Frag} {H : Hp} {r : Addr} {ns : List Int} (n : Nat) (h : H r = some (.lst (ns.map V.int))) (l : ns.length ≤ 100000) : Dk K H (n + 2) (.ref r) (din ns) :=
  .lst h (by rw [List.length_map, List.length_map]) (by rw [List.length_map]; exact l) fun i x d e1 e2 => by
    rw [List.getElem?_map] at e1 e2
    obtain ⟨z, ez, rfl⟩ := Option.map_eq_some_iff.mp e1
    rw [ez] at e2
    cases e2
    exact .int n z
theorem plan_dk {K : PySem.W.Frag} {H : Hp} {f : Addr} {rs : List Addr} {D : Dy} (O : DyOk D) (hf : H f = some (.lst (rs.map V.ref))) (lr : rs.length = D.ks.length + 1) (rows : ∀ (j : Nat) (r : Addr), rs[j]? = some r → H r = some (.lst ((rowI D j).map V.int))) : Dk K H 5 (.ref f) (planD D) := by
  have k2 := O.k2
  have h2 := O.h2
  refine .lst hf (by rw [List.length_map, List.length_map, List.length_range, lr]) (by rw [List.length_map]; omega) fun i x d e1 e2 => ?_
  rw [List.getElem?_map] at e1 e2
  obtain ⟨r, er, rfl⟩ := Option.map_eq_some_iff.mp e1
  obtain ⟨j, ej, rfl⟩ := Option.map_eq_some_iff.mp e2
  obtain ⟨hi, rfl⟩ := List.getElem?_eq_some_iff.mp ej
  rw [List.getElem_range]
  exact nums_dk 2 (rows i r er) (by rw [row_len]; omega)
/-- how many are struck in all -/
def mostD (D : Dy) : Int := tk D D.cs.length D.ks.length
end KR
/-! ### papers: rows of bounds, each what the one ahead of it leads to -/
namespace KR
open PySem PySem.Spec PyProof.Rows L2
/-- two tuples that hold something, one behind the other -/
def rCatTP (K : PySem.W.Frag) : R2 := fun x y H Q => ∃ a b xs ys, x = .ref a ∧ y = .ref b ∧ SqT K H a xs ∧ SqT K H b ys ∧ xs ≠ [] ∧ ys ≠ [] ∧ xs.length + ys.length ≤ sizeLine ∧ ∀ p H', Same H H' → H p = none → H' p = some (.tup (xs ++ ys)) → Q (.ref p) H'
theorem op_catTP {X : Cx} {K : PySem.W.Frag} (hK : X.K = K) : OpR X (binaryOp .Add) (rCatTP K) := by
  subst hK
  intro pins s σ H x y v u Q I rx ry ⟨a, b, xs, ys, e1, e2, h1, h2, n1, n2, z, k⟩
  exact op_catT pins s σ H x y v u Q I rx ry ⟨a, b, xs, ys, e1, e2, h1, h2, n1, z, fun e => absurd e n2, fun _ p hp => k p _ (same_new hp) hp upd_same⟩
/-- a row of bounds from a place and an hour on, and what they come to -/
inductive Chain (D : Dy) : Nat → Nat → List (Str × Nat × Nat) → Int → Prop
  | last {p t : Nat} {b : Bd} : b ∈ bnds D p t → b.lead = none → Chain D p t [(b.word, p, t)] b.more
  | step {p t p' t' : Nat} {b : Bd} {l : List (Str × Nat × Nat)} {m : Int} : b ∈ bnds D p t → b.lead = some ((p' : Int), (t' : Int) - 1) → p' ≤ D.ks.length → t' ≤ t → Chain D p' t' l m → Chain D p t ((b.word, p, t) :: l) (m + b.more)
/-- the first bound that lets no more be taken -/
def FirstT (D : Dy) (p t : Nat) (b : Bd) : Prop := ∃ r, (bnds D p t).filter (fun b => decide (valB D b = tk D t p)) = b :: r
inductive TChain (D : Dy) : Nat → Nat → List (Str × Nat × Nat) → Prop
  | last {p t : Nat} {b : Bd} : FirstT D p t b → b.lead = none → TChain D p t [(b.word, p, t)]
  | step {p t p' t' : Nat} {b : Bd} {l : List (Str × Nat × Nat)} : FirstT D p t b → b.lead = some ((p' : Int), (t' : Int) - 1) → TChain D p' t' l → TChain D p t ((b.word, p, t) :: l)
theorem FirstT.uniq {D : Dy} {p t : Nat} {b c : Bd} (h1 : FirstT D p t b) (h2 : FirstT D p t c) : b = c := by
  obtain ⟨r, e1⟩ := h1
  obtain ⟨r', e2⟩ := h2
  rw [e1] at e2
  injection e2
theorem FirstT.mem {D : Dy} {p t : Nat} {b : Bd} (h : FirstT D p t b) : b ∈ bnds D p t := by
  obtain ⟨r, e⟩ := h
  exact (List.mem_filter.mp (show b ∈ (bnds D p t).filter (fun b => decide (valB D b = tk D t p)) by rw [e]; exact List.mem_cons_self)).1
theorem TChain.uniq {D : Dy} : ∀ {p t : Nat} {l l' : List (Str × Nat × Nat)}, TChain D p t l → TChain D p t l' → l = l' := by
  intro p t l l' h
  induction h generalizing l' with
  | last f n =>
    intro h'
    cases h' with
    | last f' n' => rw [f.uniq f']
    | step f' s' _ =>
      rw [← f.uniq f', n] at s'
      cases s'
  | step f s _ ih =>
    intro h'
    cases h' with
    | last f' n' =>
      rw [← f.uniq f', s] at n'
      cases n'
    | step f' s' c' =>
      have e := f.uniq f'
      subst e
      rw [s] at s'
      obtain ⟨e1, e2⟩ := Prod.mk.inj (Option.some.inj s')
      have n1 : ∀ a b : Nat, (a : Int) = (b : Int) → a = b := fun a b h => by omega
      have n2 : ∀ a b : Nat, (a : Int) - 1 = (b : Int) - 1 → a = b := fun a b h => by omega
      have e1 := n1 _ _ e1
      have e2 := n2 _ _ e2
      subst e1
      subst e2
      rw [ih c']
/-- the words are plain -/
theorem bnds_lay {D : Dy} {p t : Nat} {b : Bd} (m : b ∈ bnds D p t) : PyData.canLay0 (.str b.word) = true := by
  have all : b.word = "begin" ∨ b.word = "comes" ∨ b.word = "ahead" ∨ b.word = "takes" ∨ b.word = "room" := by
    have f1 : ∀ q, (firstB D p q).word = "comes" ∨ (firstB D p q).word = "ahead" := fun q => by
      unfold firstB
      split
      · exact .inl rfl
      · exact .inr rfl
    cases t with
    | zero => exact .inl (by rw [List.mem_singleton.mp m] <;> rfl)
    | succ t =>
      have hm : b = firstB D p t ∨ b.word = "takes" ∨ b.word = "room" := by
        by_cases c : p = D.ks.length
        · rw [show bnds D p (t + 1) = [firstB D p t, ⟨"takes", some ((p : Int), (t : Int) - 1), D.ss.getD t 0⟩] from if_pos c] at m
          rcases List.mem_cons.mp m with z | z
          · exact .inl z
          · exact .inr (.inl (by rw [List.mem_singleton.mp z] <;> rfl))
        · rw [show bnds D p (t + 1) = [firstB D p t, ⟨"takes", some ((p : Int), (t : Int) - 1), (kt D p).2.getD t 0⟩, ⟨"room", some ((p : Int) + 1, (t : Int)), (kt D p).1⟩] from if_neg c] at m
          rcases List.mem_cons.mp m with z | z
          · exact .inl z
          · rcases List.mem_cons.mp z with z | z
            · exact .inr (.inl (by rw [z] <;> rfl))
            · exact .inr (.inr (by rw [List.mem_singleton.mp z] <;> rfl))
      rcases hm with z | z | z
      · rw [z]
        rcases f1 t with y | y
        · exact .inr (.inl y)
        · exact .inr (.inr (.inl y))
      · exact .inr (.inr (.inr (.inl z)))
      · exact .inr (.inr (.inr (.inr z)))
  rcases all with e | e | e | e | e <;> rw [e] <;> decide +kernel
/-- a paper as data -/
def dpB (e : Str × Nat × Nat) : PyData := .tuple [.str e.1, .int (e.2.1 : Int), .int ((e.2.2 : Int) - 1)]
def dpP (l : List (Str × Nat × Nat)) : PyData := .list (l.map dpB)
theorem TChain.lay {D : Dy} {p t : Nat} {l : List (Str × Nat × Nat)} (h : TChain D p t l) : PyData.canLayAll0 (l.map dpB) = true ∧ PyData.depthAll (l.map dpB) ≤ 1 := by
  have one : ∀ {b : Bd} {p t : Nat} (l : List (Str × Nat × Nat)), FirstT D p t b → PyData.canLayAll0 (l.map dpB) = true ∧ PyData.depthAll (l.map dpB) ≤ 1 → PyData.canLayAll0 (((b.word, p, t) :: l).map dpB) = true ∧ PyData.depthAll (((b.word, p, t) :: l).map dpB) ≤ 1 := fun {b p t} l f ⟨h1, h2⟩ => by
    have hb := bnds_lay f.mem
    refine ⟨?_, ?_⟩
    · show ((PyData.canLay0 (.str b.word) && (true && (true && true))) && PyData.canLayAll0 (l.map dpB)) = true
      rw [hb, h1] <;> rfl
    · show max 1 (PyData.depthAll (l.map dpB)) ≤ 1
      omega
  induction h with
  | last f _ => exact one [] f ⟨rfl, Nat.zero_le _⟩
  | step f _ _ ih => exact one _ f ih
theorem pair_shaped {D : Dy} {p t : Nat} {l : List (Str × Nat × Nat)} (h : TChain D p t l) (m : Int) : SeqAt.shaped (.tuple [.int m, dpP l]) = true := by
  obtain ⟨h1, h2⟩ := h.lay
  show ((true && (PyData.canLayAll0 (l.map dpB) && true)) && decide (max 0 (max (PyData.depthAll (l.map dpB) + 1) 0) + 1 ≤ 64)) = true
  rw [h1, decide_eq_true (by omega)] <;> rfl
/-- bounds as tuples -/
def bdTup (e : Str × Nat × Nat) : HO := .tup [.str e.1, .int (e.2.1 : Int), .int ((e.2.2 : Int) - 1)]
def PaperAt (H : Hp) (rs : List Addr) (l : List (Str × Nat × Nat)) : Prop := rs.length = l.length ∧ ∀ (j : Nat) (r : Addr) (e : Str × Nat × Nat), rs[j]? = some r → l[j]? = some e → H r = some (bdTup e)
theorem PaperAt.same {H H' : Hp} {rs : List Addr} {l : List (Str × Nat × Nat)} (h : PaperAt H rs l) (s : Same H H') : PaperAt H' rs l := ⟨h.1, fun j r e a b => s _ _ (h.2 j r e a b)⟩
theorem PaperAt.nil (H : Hp) : PaperAt H [] [] := ⟨rfl, fun j r e a _ => by simp at a⟩
theorem PaperAt.snoc {H : Hp} {rs : List Addr} {l : List (Str × Nat × Nat)} {r : Addr} {e : Str × Nat × Nat} (h : PaperAt H rs l) (hr : H r = some (bdTup e)) : PaperAt H (rs ++ [r]) (l ++ [e]) := by
  refine ⟨by rw [List.length_append, List.length_append, h.1] <;> rfl, fun j r' e' a b => ?_⟩
  by_cases c : j < rs.length
  · rw [List.getElem?_append_left c] at a
    rw [List.getElem?_append_left (by rw [← h.1]; exact c)] at b
    exact h.2 j r' e' a b
  · have jl : j = rs.length := by
      have := (List.getElem?_eq_some_iff.mp a).1
      rw [List.length_append, List.length_singleton] at this
      omega
    subst jl
    rw [List.getElem?_append_right (Nat.le_refl _), Nat.sub_self] at a
    rw [h.1, List.getElem?_append_right (Nat.le_refl _), Nat.sub_self] at b
    cases a
    cases b
    exact hr
/-- no two bounds have the same word -/
theorem bnds_words (D : Dy) (p t : Nat) : ((bnds D p t).map (·.word)).Nodup := by
  cases t with
  | zero => show (["begin"] : List Str).Nodup; simp
  | succ t =>
    show ((if p = D.ks.length then _ else _ : List Bd).map _).Nodup
    split
    · show [(firstB D p t).word, ("takes" : Str)].Nodup
      unfold firstB
      split
      · show (["comes", "takes"] : List Str).Nodup; decide
      · show (["ahead", "takes"] : List Str).Nodup; decide
    · show [(firstB D p t).word, ("takes" : Str), ("room" : Str)].Nodup
      unfold firstB
      split
      · show (["comes", "takes", "room"] : List Str).Nodup; decide
      · show (["ahead", "takes", "room"] : List Str).Nodup; decide
/-- what is kept under a word -/
theorem AllBd.at_ {H : Hp} : ∀ {kvs : List (Key × V)} {bs : List Bd}, AllBd H kvs bs → (bs.map (·.word)).Nodup → ∀ b ∈ bs, ∃ v, valV kvs (.inr b.word : Key) = some v ∧ BdAt H (.inr b.word, v) b
  | _, _, .nil, _, b, m => absurd m List.not_mem_nil
  | (k, v) :: kvs, c :: bs, .cons h t, nd, b, m => by
    rw [List.map_cons] at nd
    have nd' := List.nodup_cons.mp nd
    have hk : k = .inr c.word := h.1
    rcases List.mem_cons.mp m with e | m'
    · subst e
      refine ⟨v, ?_, rfl, h.2⟩
      unfold valV
      rw [List.find?_cons_of_pos (by simpa using hk)] <;> rfl
    · obtain ⟨v', e1, e2⟩ := AllBd.at_ t nd'.2 b m'
      refine ⟨v', ?_, e2⟩
      have ne : ¬ k = .inr b.word := fun e => nd'.1 (by
        rw [hk] at e
        injection e with e
        rw [e]
        exact List.mem_map.mpr ⟨b, m', rfl⟩)
      unfold valV at e1 ⊢
      rw [List.find?_cons_of_neg (by simpa using ne)]
      exact e1
theorem paper_dps {K : PySem.W.Frag} {H : Hp} : ∀ {rs : List Addr} {l : List (Str × Nat × Nat)}, rs.length = l.length → (∀ (j : Nat) (r : Addr) (e : Str × Nat × Nat), rs[j]? = some r → l[j]? = some e → H r = some (bdTup e)) → DpAll K H (rs.map V.ref) (l.map dpB)
  | [], [], _, _ => .nil
  | r :: rs, e :: l, n, h => .cons (.tup (SqT.of (h 0 r e rfl rfl)) (.cons (.str _) (.cons (.int _) (.cons (.int _) .nil)))) (paper_dps (by rw [List.length_cons, List.length_cons] at n; omega) fun j r' e' a b => h (j + 1) r' e' a b)
theorem paper_dp {K : PySem.W.Frag} {H : Hp} {f : Addr} {rs : List Addr} {l : List (Str × Nat × Nat)} (hf : H f = some (.lst (rs.map V.ref))) (h : PaperAt H rs l) : Dp K H (.ref f) (dpP l) := .lst (SqL.of hf) (paper_dps h.1 h.2)
end KR
/-! ### things of any make, and xs[a:c] = ys -/
namespace KR
open PySem PySem.Spec PyProof.Rows L2
/-- xs[a:c] = ys, ys another list -/
def gSlS (to tl th : TE) : TG := fun v σ H Q => to σ H fun x H1 => tl σ H1 fun a H2 => th σ H2 fun c H3 => ∃ (l b : Addr) (xs ys : List V) (i j : Int), x = .ref l ∧ v = .ref b ∧ a = .int i ∧ c = .int j ∧ H3 l = some (.lst xs) ∧ H3 b = some (.lst ys) ∧ l ≠ b ∧ 0 ≤ i ∧ i ≤ j ∧ j ≤ xs.length ∧ xs.length + ys.length ≤ sizeLine ∧ Q σ (upd H3 l (.lst (xs.take i.toNat ++ ys ++ xs.drop j.toNat)))
theorem pg_slS {X : Cx} {o lo hi : Expr} {to tl th : TE} {p2 pos : Pos} (ho : PE X o to) (hl : PE X lo tl) (hh : PE X hi th)
    (ha : ∀ v, assign (.Subscript o (.Slice (some lo) (some hi) none p2) pos) X.env v = (do
      let ov ← holding [v] (eval o X.env)
      let iv ← holding [v, ov] (eval (.Slice (some lo) (some hi) none p2) X.env)
      standAt pos
      holding [v, ov, iv] (setItem ov iv v)
      release [iv, v, ov] []) := by intro _; rfl) : PG X (.Subscript o (.Slice (some lo) (some hi) none p2) pos) (gSlS to tl th) := by
  refine ⟨fun pins s σ H v u Q I r h => ?_⟩
  rw [ha]
  refine wpAny_bind (wpAny_holding (thn (ho.run pins s σ H _ I h) fun ov s1 ⟨x, H1, I1, r1, q1⟩ => ?_))
  refine wpAny_bind (wpAny_holding ?_)
  refine wpAny_Slice ?_
  rw [evalPart_some]
  refine thn (hl.run pins s1 σ H1 _ I1 q1) fun vl s2 ⟨a, H2, I2, ra, q2⟩ => ?_
  rw [evalPart_some]
  refine thn (hh.run pins s2 σ H2 _ I2 q2) fun vu s3 ⟨c, H3, I3, rc, q3⟩ => ?_
  rw [evalPart_none]
  refine wpAny_pure ?_
  obtain ⟨l, b, xs, ys, i, j, rfl, rfl, rfl, rfl, hx, hb, ne, i0, ij, jl, z, q⟩ := q3
  have I4 : Inv X pins σ H3 { s3 with heap := s3.heap.push { cls := .type "slice", data := .fields #[vl, vu, .none] } } := I3.kept (t' := s3.toks) fun b ob q => Heap.get?_push_of_some _ q
  obtain rfl : ov = .ref l := r1
  obtain rfl : u = .ref b := r
  refine wpAny_bind (wpAny_standAt (wpAny_bind (wpAny_holding ?_)))
  refine set_slice I4 hx hb ne (Heap.IsSliceOf.new ..) ra rc i0 ij jl z fun s5 I5 => ?_
  exact wpAny_release ⟨σ, _, I5, q⟩
/-- things whose lists are none of ours to write: ints to a bound, truths, None, texts, rows of such -/
inductive Tg (K : PySem.W.Frag) (p : Addr → Prop) (H : Hp) (B : Nat) : Nat → V → PyData → Prop
  | non (n : Nat) : Tg K p H B n .non .none
  | bl (n : Nat) (b : Bool) : Tg K p H B n (.bl b) (.bool b)
  | int (n : Nat) (i : Int) (h : i.natAbs ≤ B) : Tg K p H B n (.int i) (.int i)
  | str (n : Nat) (x : Str) (w : Nat) (l : x.length ≤ 10) (c : ∀ c ∈ TL.tl x, c < 128) : Tg K p H B n (.str x) (.str x)
  | lst {n : Nat} {a : Addr} {xs : List V} {ds : List PyData} : H a = some (.lst xs) → ¬ p a → xs.length = ds.length → (∀ (i : Nat) (x : V) (d : PyData), xs[i]? = some x → ds[i]? = some d → Tg K p H B n x d) → Tg K p H B (n + 1) (.ref a) (.list ds)
  | tup {n : Nat} {a : Addr} {xs : List V} {ds : List PyData} : SqT K H a xs → xs.length = ds.length → (∀ (i : Nat) (x : V) (d : PyData), xs[i]? = some x → ds[i]? = some d → Tg K p H B n x d) → Tg K p H B (n + 1) (.ref a) (.tuple ds)
theorem Tg.same {K : PySem.W.Frag} {p : Addr → Prop} {B : Nat} {H H' : Hp} (s : Same H H') : ∀ {n : Nat} {v : V} {d : PyData}, Tg K p H B n v d → Tg K p H' B n v d := by
  intro n v d h
  induction h with
  | non n => exact .non n
  | bl n b => exact .bl n b
  | int n i h => exact .int n i h
  | str n x w l c => exact .str n x w l c
  | lst h1 h2 h3 _ ih => exact .lst (s _ _ h1) h2 h3 ih
  | tup h1 h2 _ ih => exact .tup (Same.tup s h1) h2 ih
theorem Tg.fr {K : PySem.W.Frag} {p : Addr → Prop} {q : Addr} (hq : p q) {B m : Nat} {H H' : Hp} (b : BoxAt H q m) (F : Fr q H H') : ∀ {n : Nat} {v : V} {d : PyData}, Tg K p H B n v d → Tg K p H' B n v d := by
  intro n v d h
  induction h with
  | non n => exact .non n
  | bl n b => exact .bl n b
  | int n i h => exact .int n i h
  | str n x w l c => exact .str n x w l c
  | lst h1 h2 h3 _ ih => exact .lst (F _ _ (fun z => h2 (z ▸ hq)) h1) h2 h3 ih
  | tup h1 h2 _ ih => exact .tup (sqT_fr h1 b F) h2 ih
theorem Tg.up {K : PySem.W.Frag} {p : Addr → Prop} {B B' : Nat} {H : Hp} (hB : B ≤ B') : ∀ {n : Nat} {v : V} {d : PyData}, Tg K p H B n v d → ∀ {m : Nat}, n ≤ m → Tg K p H B' m v d := by
  intro n v d h
  induction h with
  | non n => exact fun _ => .non _
  | bl n b => exact fun _ => .bl _ b
  | int n i h => exact fun _ => .int _ i (Nat.le_trans h hB)
  | str n x w l c => exact fun _ => .str _ x w l c
  | lst h1 h2 h3 _ ih =>
    intro m le
    obtain ⟨k, rfl⟩ : ∃ k, m = k + 1 := ⟨m - 1, by omega⟩
    exact .lst h1 h2 h3 fun i x d a b => ih i x d a b (by omega)
  | tup h1 h2 _ ih =>
    intro m le
    obtain ⟨k, rfl⟩ : ∃ k, m = k + 1 := ⟨m - 1, by omega⟩
    exact .tup h1 h2 fun i x d a b => ih i x d a b (by omega)
theorem Tg.dp {K : PySem.W.Frag} {p : Addr → Prop} {B : Nat} {H : Hp} {n : Nat} {v : V} {d : PyData} (h : Tg K p H B n v d) : Dp K H v d := by
  induction h with
  | non n => exact .non
  | bl n b => exact .bl b
  | int n i h => exact .int i
  | str n x w l c => exact .str x
  | lst h1 h2 h3 _ ih => exact .lst (SqL.of h1) (dps_of h3 ih)
  | tup h1 h2 _ ih => exact .tup h1 (dps_of h2 ih)
/-- how much there is to a thing -/
theorem Tg.fine {K : PySem.W.Frag} {p : Addr → Prop} {B : Nat} {H : Hp} (b12 : B < 10 ^ 12) {n : Nat} {v : V} {d : PyData} (h : Tg K p H B n v d) : ∃ w, Fine n w d := by
  have many : ∀ {n : Nat} {xs : List V} {ds : List PyData}, xs.length = ds.length → (∀ (i : Nat) (x : V) (d : PyData), xs[i]? = some x → ds[i]? = some d → ∃ w, Fine n w d) → ∃ w, FineAll n w ds := fun {n} => by
    intro xs
    induction xs with
    | nil =>
      intro ds l _
      cases ds with
      | nil => exact ⟨0, FineAll.nil n⟩
      | cons d ds => cases l
    | cons x xs ih =>
      intro ds l at_
      cases ds with
      | nil => cases l
      | cons d ds =>
        obtain ⟨w1, f1⟩ := at_ 0 x d rfl rfl
        obtain ⟨w2, f2⟩ := ih (by rw [List.length_cons, List.length_cons] at l; omega) fun i x d e1 e2 => at_ (i + 1) x d e1 e2
        exact ⟨_, FineAll.cons f1 f2⟩
  induction h with
  | non n => exact ⟨0, Fine.non n⟩
  | bl n b => exact ⟨0, ⟨rfl, Nat.zero_le _, Nat.le_refl _, rfl, rfl, rfl⟩⟩
  | int n i h =>
    have z : i.natAbs < 10 ^ 12 := by omega
    have e : (10 : Nat) ^ 12 < 2 ^ 40 := by decide
    refine ⟨PyData.weight (.int i), ⟨rfl, Nat.zero_le _, Nat.le_refl _, decide_eq_true (PyData.shown_int_le z), decide_eq_true ?_, rfl⟩⟩
    by_cases c : i.natAbs = 0
    · rw [c]
      decide
    · have := (Nat.log2_lt c).mpr (Nat.lt_trans z e)
      omega
  | str n x w l c => exact ⟨10, Fine.str n l c⟩
  | lst h1 h2 h3 _ ih =>
    obtain ⟨w, f⟩ := many h3 ih
    exact ⟨w, FineAll.lst f⟩
  | tup h1 h2 _ ih =>
    obtain ⟨w, f⟩ := many h2 ih
    exact ⟨w, FineAll.tup f⟩
/-- rows of things -/
def TgAll (K : PySem.W.Frag) (p : Addr → Prop) (H : Hp) (B n : Nat) (xs : List V) (ds : List PyData) : Prop := xs.length = ds.length ∧ ∀ (i : Nat) (x : V) (d : PyData), xs[i]? = some x → ds[i]? = some d → Tg K p H B n x d
theorem TgAll.nil {K : PySem.W.Frag} {p : Addr → Prop} {H : Hp} {B n : Nat} : TgAll K p H B n [] [] := ⟨rfl, fun i x d h => by simp at h⟩
theorem TgAll.cons {K : PySem.W.Frag} {p : Addr → Prop} {H : Hp} {B n : Nat} {x : V} {d : PyData} {xs : List V} {ds : List PyData} (h : Tg K p H B n x d) (t : TgAll K p H B n xs ds) : TgAll K p H B n (x :: xs) (d :: ds) :=
  ⟨by rw [List.length_cons, List.length_cons, t.1], fun i u v hu hv => match i, hu, hv with
    | 0, hu, hv => by cases hu; cases hv; exact h
    | i + 1, hu, hv => t.2 i u v hu hv⟩
theorem TgAll.tail {K : PySem.W.Frag} {p : Addr → Prop} {H : Hp} {B n : Nat} {x : V} {d : PyData} {xs : List V} {ds : List PyData} (t : TgAll K p H B n (x :: xs) (d :: ds)) : Tg K p H B n x d ∧ TgAll K p H B n xs ds :=
  ⟨t.2 0 x d rfl rfl, by have := t.1; rw [List.length_cons, List.length_cons] at this; omega, fun i u v hu hv => t.2 (i + 1) u v hu hv⟩
theorem TgAll.app {K : PySem.W.Frag} {p : Addr → Prop} {H : Hp} {B n : Nat} : ∀ {xs : List V} {ds : List PyData} {ys : List V} {es : List PyData}, TgAll K p H B n xs ds → TgAll K p H B n ys es → TgAll K p H B n (xs ++ ys) (ds ++ es)
  | [], [], _, _, _, h => h
  | [], _ :: _, _, _, h, _ => by have := h.1; cases this
  | _ :: _, [], _, _, h, _ => by have := h.1; cases this
  | _ :: _, _ :: _, _, _, h, h' => .cons h.tail.1 (TgAll.app h.tail.2 h')
theorem TgAll.take {K : PySem.W.Frag} {p : Addr → Prop} {H : Hp} {B n : Nat} {xs : List V} {ds : List PyData} (h : TgAll K p H B n xs ds) (k : Nat) : TgAll K p H B n (xs.take k) (ds.take k) :=
  ⟨by rw [List.length_take, List.length_take, h.1], fun i x d e1 e2 => by
    rw [List.getElem?_take] at e1 e2
    split at e1
    · rename_i c
      rw [if_pos c] at e2
      exact h.2 i x d e1 e2
    · cases e1⟩
theorem TgAll.drop {K : PySem.W.Frag} {p : Addr → Prop} {H : Hp} {B n : Nat} {xs : List V} {ds : List PyData} (h : TgAll K p H B n xs ds) (k : Nat) : TgAll K p H B n (xs.drop k) (ds.drop k) :=
  ⟨by rw [List.length_drop, List.length_drop, h.1], fun i x d e1 e2 => by
    rw [List.getElem?_drop] at e1 e2
    exact h.2 _ x d e1 e2⟩
theorem TgAll.rev {K : PySem.W.Frag} {p : Addr → Prop} {H : Hp} {B n : Nat} : ∀ {xs : List V} {ds : List PyData}, TgAll K p H B n xs ds → TgAll K p H B n xs.reverse ds.reverse
  | [], [], _ => .nil
  | [], _ :: _, h => by have := h.1; cases this
  | _ :: _, [], h => by have := h.1; cases this
  | _ :: _, _ :: _, h => by
    rw [List.reverse_cons, List.reverse_cons]
    exact TgAll.app (TgAll.rev h.tail.2) (.cons h.tail.1 .nil)
theorem TgAll.same {K : PySem.W.Frag} {p : Addr → Prop} {H H' : Hp} {B n : Nat} {xs : List V} {ds : List PyData} (h : TgAll K p H B n xs ds) (s : Same H H') : TgAll K p H' B n xs ds := ⟨h.1, fun i x d e1 e2 => (h.2 i x d e1 e2).same s⟩
theorem TgAll.fr {K : PySem.W.Frag} {p : Addr → Prop} {H H' : Hp} {B n m : Nat} {xs : List V} {ds : List PyData} {q : Addr} (hq : p q) (h : TgAll K p H B n xs ds) (b : BoxAt H q m) (F : Fr q H H') : TgAll K p H' B n xs ds := ⟨h.1, fun i x d e1 e2 => (h.2 i x d e1 e2).fr hq b F⟩
theorem TgAll.up {K : PySem.W.Frag} {p : Addr → Prop} {H : Hp} {B B' n m : Nat} {xs : List V} {ds : List PyData} (h : TgAll K p H B n xs ds) (hB : B ≤ B') (le : n ≤ m) : TgAll K p H B' m xs ds := ⟨h.1, fun i x d e1 e2 => (h.2 i x d e1 e2).up hB le⟩
/-- numbers and truths as numbers -/
def numOf : V → Option Int
  | .int i => some i
  | .bl b => some (if b = true then 1 else 0)
  | _ => none
def rNb (f : Int → Int → Int) : R2 := fun x y H Q => ∃ i j, numOf x = some i ∧ y = .int j ∧ Q (.int (f i j)) H
theorem op_addNb {X : Cx} : OpR X (binaryOp .Add) (rNb fun i j => i + j) := by
  intro pins s σ H x y v u Q I rx ry ⟨i, j, e, e2, q⟩
  cases x <;> try (cases e; done)
  case bl b =>
    cases e
    subst e2
    obtain ⟨t, rfl⟩ := ry
    cases rx
    exact PySem.IntBool.add_bool_int ⟨.int _, H, I.tok _, ⟨_, rfl⟩, q⟩
  case int i => cases e; exact op_add pins s σ H _ y v u Q I rx ry ⟨_, j, rfl, e2, q⟩
theorem op_subNb {X : Cx} : OpR X (binaryOp .Sub) (rNb fun i j => i - j) := by
  intro pins s σ H x y v u Q I rx ry ⟨i, j, e, e2, q⟩
  cases x <;> try (cases e; done)
  case bl b =>
    cases e
    subst e2
    obtain ⟨t, rfl⟩ := ry
    cases rx
    exact PySem.IntBool.sub_bool_int ⟨.int _, H, I.tok _, ⟨_, rfl⟩, q⟩
  case int i => cases e; exact op_sub pins s σ H _ y v u Q I rx ry ⟨_, j, rfl, e2, q⟩
/-- how a thing looks: a leaf, or a row -/
theorem Tg.look {K : PySem.W.Frag} {p : Addr → Prop} {q : Addr} (hq : p q) {B : Nat} {H : Hp} {n : Nat} {v : V} {d : PyData} (hB : 1 ≤ B) (h : Tg K p H B n v d) :
    (∃ (t : String) (bi : Bool), (∀ H2, TyX K H2 v (.type t)) ∧ kitB t "list" = some false ∧ kitB t "tuple" = some false ∧ kitB t "int" = some bi ∧ (bi = true → (∃ i, numOf v = some i ∧ i.natAbs ≤ B) ∧ SeqAt.shaped d = true)) ∨
    (∃ (t : String) (bl bt : Bool) (a : Addr) (xs : List V) (ds : List PyData) (m : Nat), v = .ref a ∧ n = m + 1 ∧ (∀ (H' : Hp) (mm : Nat), BoxAt H q mm → Fr q H H' → TyX K H' v (.type t)) ∧ kitB t "list" = some bl ∧ kitB t "tuple" = some bt ∧ (bl = false → bt = true) ∧ (SqL K H a xs ∨ SqT K H a xs) ∧ TgAll K p H B m xs ds ∧ PyData.weight d = PyData.weightAll ds) := by
  cases h with
  | non n => exact .inl ⟨"NoneType", false, fun _ => .base .non, by decide +kernel, by decide +kernel, by decide +kernel, fun z => nomatch z⟩
  | bl n b => exact .inl ⟨"bool", true, fun _ => .base (.bl b), by decide +kernel, by decide +kernel, by decide +kernel, fun _ => ⟨⟨_, rfl, by cases b <;> simp <;> omega⟩, rfl⟩⟩
  | int n i h => exact .inl ⟨"int", true, fun _ => .base (.int i), by decide +kernel, by decide +kernel, by decide +kernel, fun _ => ⟨⟨_, rfl, h⟩, rfl⟩⟩
  | str n x w l c => exact .inl ⟨"str", false, fun _ => .base (.str x), by decide +kernel, by decide +kernel, by decide +kernel, fun z => nomatch z⟩
  | lst h1 h2 h3 h4 => exact .inr ⟨"list", true, false, _, _, _, _, rfl, rfl, fun H' mm b F => .base (.lst (F _ _ (fun z => h2 (z ▸ hq)) h1)), by decide +kernel, by decide +kernel, (fun z => nomatch z), .inl (SqL.of h1), ⟨h3, h4⟩, rfl⟩
  | tup h1 h2 h3 => exact .inr ⟨"tuple", false, true, _, _, _, _, rfl, rfl, fun H' mm b F => sqT_ty (sqT_fr h1 b F), by decide +kernel, by decide +kernel, fun _ => rfl, .inr h1, ⟨h2, h3⟩, rfl⟩
theorem wt_int {i : Int} (h : i.natAbs < 2 ^ 21) : PyData.weight (.int i) ≤ 21 := by
  show (if i == 0 then 0 else i.natAbs.log2 + 1) ≤ 21
  by_cases c : i = 0
  · rw [c]
    decide
  · rw [if_neg (by simpa using c)]
    have := (Nat.log2_lt (show i.natAbs ≠ 0 by omega)).mpr h
    omega
theorem TgAll.at_ {K : PySem.W.Frag} {p : Addr → Prop} {H : Hp} {B n : Nat} {xs : List V} {ds : List PyData} (h : TgAll K p H B n xs ds) {i : Nat} (lt : i < xs.length) : ∃ x d, xs[i]? = some x ∧ ds[i]? = some d ∧ Tg K p H B n x d := by
  have l2 : i < ds.length := by rw [← h.1]; exact lt
  exact ⟨xs[i], ds[i], List.getElem?_eq_getElem lt, List.getElem?_eq_getElem l2, h.2 i _ _ (List.getElem?_eq_getElem lt) (List.getElem?_eq_getElem l2)⟩
theorem wa_app : ∀ (a b : List PyData), PyData.weightAll (a ++ b) = PyData.weightAll a + PyData.weightAll b
  | [], b => by rw [List.nil_append]; show _ = 0 + _; omega
  | x :: a, b => by
    show PyData.weight x + 1 + PyData.weightAll (a ++ b) = (PyData.weight x + 1 + PyData.weightAll a) + _
    rw [wa_app a b]
    omega
theorem wa_cut (a : List PyData) (k : Nat) : PyData.weightAll (a.take k) + PyData.weightAll (a.drop k) = PyData.weightAll a := by
  rw [← wa_app, List.take_append_drop]
theorem wa_rev : ∀ (a : List PyData), PyData.weightAll a.reverse = PyData.weightAll a
  | [] => rfl
  | x :: a => by
    rw [List.reverse_cons, wa_app, wa_rev a]
    show _ + (PyData.weight x + 1 + 0) = PyData.weight x + 1 + _
    omega
theorem wa_at {a : List PyData} {k : Nat} {d : PyData} (h : a[k]? = some d) : PyData.weightAll (a.take k) + (PyData.weight d + 1) + PyData.weightAll (a.drop (k + 1)) = PyData.weightAll a := by
  obtain ⟨lt, e⟩ := List.getElem?_eq_some_iff.mp h
  have h1 := wa_cut a k
  rw [List.drop_eq_getElem_cons lt, e] at h1
  have h2 : PyData.weightAll (d :: a.drop (k + 1)) = PyData.weight d + 1 + PyData.weightAll (a.drop (k + 1)) := rfl
  rw [h2] at h1
  omega
theorem TgAll.set {K : PySem.W.Frag} {p : Addr → Prop} {H : Hp} {B n : Nat} {xs : List V} {ds : List PyData} (h : TgAll K p H B n xs ds) {k : Nat} {x : V} {d : PyData} (hx : Tg K p H B n x d) : TgAll K p H B n (xs.set k x) (ds.set k d) := by
  refine ⟨by rw [List.length_set, List.length_set]; exact h.1, fun i y e e1 e2 => ?_⟩
  rw [List.getElem?_set] at e1 e2
  by_cases c : k = i
  · subst c
    rw [if_pos rfl] at e1 e2
    split at e1
    · cases e1
      split at e2
      · cases e2
        exact hx
      · cases e2
    · cases e1
  · rw [if_neg c] at e1 e2
    exact h.2 i y e e1 e2
theorem wa_set {a : List PyData} {k : Nat} {d e : PyData} (h : a[k]? = some d) : PyData.weightAll (a.set k e) + PyData.weight d = PyData.weightAll a + PyData.weight e := by
  obtain ⟨lt, _⟩ := List.getElem?_eq_some_iff.mp h
  have h1 := wa_at h
  rw [List.set_eq_take_append_cons_drop, if_pos lt, wa_app]
  have h2 : PyData.weightAll (e :: a.drop (k + 1)) = PyData.weight e + 1 + PyData.weightAll (a.drop (k + 1)) := rfl
  rw [h2]
  omega
/-- a row of things whose list is written anew -/
theorem TgAll.put {K : PySem.W.Frag} {p : Addr → Prop} {H0 H : Hp} {B n : Nat} {xs ys : List V} {ds : List PyData} {r : Addr} (h : TgAll K p H0 B n xs ds) (s : Same H0 H) (nr : H0 r = none) : TgAll K p (upd H r (.lst ys)) B n xs ds := h.same (Same.put s nr)
/-- a part of a row of things -/
theorem TgAll.cut {K : PySem.W.Frag} {p : Addr → Prop} {H : Hp} {B n : Nat} {xs : List V} {ds : List PyData} (h : TgAll K p H B n xs ds) (lo hi : Option Int) : ∃ es, TgAll K p H B n (cutV xs lo hi) es ∧ PyData.weightAll es ≤ PyData.weightAll ds := by
  unfold cutV
  refine ⟨_, (h.drop _).take _, ?_⟩
  have h1 := wa_cut (ds.drop (HT.sIx xs.length 0 lo)) (HT.sIx xs.length xs.length hi - HT.sIx xs.length 0 lo)
  have h2 := wa_cut ds (HT.sIx xs.length 0 lo)
  omega
theorem wa_len : ∀ l : List PyData, l.length ≤ PyData.weightAll l
  | [] => Nat.le_refl _
  | y :: l => by
    have := wa_len l
    show l.length + 1 ≤ PyData.weight y + 1 + PyData.weightAll l
    omega
/-- things that avoid more -/
theorem Tg.avoid {K : PySem.W.Frag} {p : Addr → Prop} {r : Addr} {B : Nat} {H0 : Hp} (s : H0 r = none) : ∀ {n : Nat} {v : V} {d : PyData}, Tg K p H0 B n v d → Tg K (fun a => p a ∨ a = r) H0 B n v d := by
  intro n v d h
  induction h with
  | non n => exact .non n
  | bl n b => exact .bl n b
  | int n i h => exact .int n i h
  | str n x w l c => exact .str n x w l c
  | lst h1 h2 h3 _ ih => exact .lst h1 (fun z => z.elim h2 (ne_of_none h1 s)) h3 ih
  | tup h1 h2 _ ih => exact .tup h1 h2 ih
theorem Tg.less {K : PySem.W.Frag} {p p' : Addr → Prop} (le : ∀ a, p' a → p a) {B : Nat} {H : Hp} : ∀ {n : Nat} {v : V} {d : PyData}, Tg K p H B n v d → Tg K p' H B n v d := by
  intro n v d h
  induction h with
  | non n => exact .non n
  | bl n b => exact .bl n b
  | int n i h => exact .int n i h
  | str n x w l c => exact .str n x w l c
  | lst h1 h2 h3 _ ih => exact .lst h1 (fun z => h2 (le _ z)) h3 ih
  | tup h1 h2 _ ih => exact .tup h1 h2 ih
/-- a list that things avoid is written -/
theorem Tg.wr {K : PySem.W.Frag} {p : Addr → Prop} {r : Addr} (hr : p r) {B : Nat} {H : Hp} {xs ys : List V} (h0 : H r = some (.lst xs)) : ∀ {n : Nat} {v : V} {d : PyData}, Tg K p H B n v d → Tg K p (upd H r (.lst ys)) B n v d := by
  intro n v d h
  induction h with
  | non n => exact .non n
  | bl n b => exact .bl n b
  | int n i h => exact .int n i h
  | str n x w l c => exact .str n x w l c
  | lst h1 h2 h3 _ ih => exact .lst ((upd_ne (fun z => h2 (by rw [z]; exact hr))).trans h1) h2 h3 ih
  | tup h1 h2 _ ih => exact .tup (sqT_frL h1 h0 fr_upd) h2 ih
theorem TgAll.wr {K : PySem.W.Frag} {p : Addr → Prop} {r : Addr} (hr : p r) {B n : Nat} {H : Hp} {xs ys : List V} (h0 : H r = some (.lst xs)) {zs : List V} {ds : List PyData} (h : TgAll K p H B n zs ds) : TgAll K p (upd H r (.lst ys)) B n zs ds := ⟨h.1, fun i x d e1 e2 => (h.2 i x d e1 e2).wr hr h0⟩
theorem TgAll.less {K : PySem.W.Frag} {p p' : Addr → Prop} (le : ∀ a, p' a → p a) {B n : Nat} {H : Hp} {zs : List V} {ds : List PyData} (h : TgAll K p H B n zs ds) : TgAll K p' H B n zs ds := ⟨h.1, fun i x d e1 e2 => (h.2 i x d e1 e2).less le⟩
end KR
/-! ### what a thing of any make is -/
namespace KR
open PySem PySem.Spec PyProof.Rows L2
def isL : PyData → Bool
  | .list _ => true
  | _ => false
def isT : PyData → Bool
  | .tuple _ => true
  | _ => false
def isS : PyData → Bool
  | .str _ => true
  | _ => false
def isI : PyData → Bool
  | .int _ => true
  | _ => false
def isBo : PyData → Bool
  | .bool _ => true
  | _ => false
theorem Tg.ty {K : PySem.W.Frag} {p : Addr → Prop} {H : Hp} {B n : Nat} {v : V} {d : PyData} (h : Tg K p H B n v d) : ∃ t : String, TyX K H v (.type t) ∧ kitB t "list" = some (isL d) ∧ kitB t "tuple" = some (isT d) ∧ kitB t "int" = some (isI d || isBo d) ∧ kitB t "bool" = some (isBo d) ∧ kitB t "str" = some (isS d) := by
  cases h with
  | non n => exact ⟨"NoneType", .base .non, by show kitB "NoneType" "list" = some false; decide +kernel, by show kitB "NoneType" "tuple" = some false; decide +kernel, by show kitB "NoneType" "int" = some false; decide +kernel, by show kitB "NoneType" "bool" = some false; decide +kernel, by show kitB "NoneType" "str" = some false; decide +kernel⟩
  | bl n b => exact ⟨"bool", .base (.bl b), by show kitB "bool" "list" = some false; decide +kernel, by show kitB "bool" "tuple" = some false; decide +kernel, by show kitB "bool" "int" = some true; decide +kernel, by show kitB "bool" "bool" = some true; decide +kernel, by show kitB "bool" "str" = some false; decide +kernel⟩
  | int n i h => exact ⟨"int", .base (.int i), by show kitB "int" "list" = some false; decide +kernel, by show kitB "int" "tuple" = some false; decide +kernel, by show kitB "int" "int" = some true; decide +kernel, by show kitB "int" "bool" = some false; decide +kernel, by show kitB "int" "str" = some false; decide +kernel⟩
  | str n x w l c => exact ⟨"str", .base (.str x), by show kitB "str" "list" = some false; decide +kernel, by show kitB "str" "tuple" = some false; decide +kernel, by show kitB "str" "int" = some false; decide +kernel, by show kitB "str" "bool" = some false; decide +kernel, by show kitB "str" "str" = some true; decide +kernel⟩
  | lst h1 h2 h3 h4 => exact ⟨"list", .base (.lst h1), by show kitB "list" "list" = some true; decide +kernel, by show kitB "list" "tuple" = some false; decide +kernel, by show kitB "list" "int" = some false; decide +kernel, by show kitB "list" "bool" = some false; decide +kernel, by show kitB "list" "str" = some false; decide +kernel⟩
  | tup h1 h2 h3 => exact ⟨"tuple", sqT_ty h1, by show kitB "tuple" "list" = some false; decide +kernel, by show kitB "tuple" "tuple" = some true; decide +kernel, by show kitB "tuple" "int" = some false; decide +kernel, by show kitB "tuple" "bool" = some false; decide +kernel, by show kitB "tuple" "str" = some false; decide +kernel⟩
theorem Tg.tupI {K : PySem.W.Frag} {p : Addr → Prop} {H : Hp} {B n : Nat} {v : V} {d : PyData} (h : Tg K p H B n v d) (e : isT d = true) : ∃ (a : Addr) (xs : List V) (ds : List PyData) (m : Nat), v = .ref a ∧ d = .tuple ds ∧ n = m + 1 ∧ SqT K H a xs ∧ TgAll K p H B m xs ds := by
  cases h <;> try (cases e; done)
  case tup h1 h2 h3 => exact ⟨_, _, _, _, rfl, rfl, rfl, h1, h2, h3⟩
theorem Tg.lstI {K : PySem.W.Frag} {p : Addr → Prop} {H : Hp} {B n : Nat} {v : V} {d : PyData} (h : Tg K p H B n v d) (e : isL d = true) : ∃ (a : Addr) (xs : List V) (ds : List PyData) (m : Nat), v = .ref a ∧ d = .list ds ∧ n = m + 1 ∧ H a = some (.lst xs) ∧ TgAll K p H B m xs ds := by
  cases h <;> try (cases e; done)
  case lst h1 h2 h3 h4 => exact ⟨_, _, _, _, rfl, rfl, rfl, h1, h3, h4⟩
theorem Tg.intI {K : PySem.W.Frag} {p : Addr → Prop} {H : Hp} {B n : Nat} {v : V} {d : PyData} (h : Tg K p H B n v d) (e : isI d = true) : ∃ i : Int, v = .int i ∧ d = .int i ∧ i.natAbs ≤ B := by
  cases h <;> try (cases e; done)
  case int i h => exact ⟨i, rfl, rfl, h⟩
theorem Tg.strI {K : PySem.W.Frag} {p : Addr → Prop} {H : Hp} {B n : Nat} {v : V} {d : PyData} (h : Tg K p H B n v d) (e : isS d = true) : ∃ x : Str, v = .str x ∧ d = .str x := by
  cases h <;> try (cases e; done)
  case str x _ l c => exact ⟨x, rfl, rfl⟩
theorem boI {d : PyData} (h : isBo d = true) : isI d = false := by
  cases d <;> first | rfl | exact nomatch h
theorem TgAll.l {K : PySem.W.Frag} {p : Addr → Prop} {H : Hp} {B n : Nat} {a : Addr} {xs : List V} {ds : List PyData} (t : TgAll K p H B n xs ds) (h : H a = some (.lst xs)) (na : ¬ p a) : Tg K p H B (n + 1) (.ref a) (.list ds) := .lst h na t.1 t.2
theorem TgAll.t {K : PySem.W.Frag} {p : Addr → Prop} {H : Hp} {B n : Nat} {a : Addr} {xs : List V} {ds : List PyData} (t : TgAll K p H B n xs ds) (h : SqT K H a xs) : Tg K p H B (n + 1) (.ref a) (.tuple ds) := .tup h t.1 t.2
theorem Tg.show_ {K : PySem.W.Frag} {p : Addr → Prop} {H : Hp} {B n w : Nat} (b12 : B < 10 ^ 12) {v : V} {d : PyData} (h : Tg K p H B n v d) (le : PyData.weight d ≤ w) : Fine n w d := by
  obtain ⟨w', f⟩ := h.fine b12
  exact ⟨f.lay, f.dep, le, f.ish, f.sh, f.nd⟩
end KR
/-! ### whether a thing is a day -/
namespace KR
open PySem PySem.Spec PyProof.Rows L2
theorem Tg.sm {K : PySem.W.Frag} {p : Addr → Prop} {B : Nat} {H H' : Hp} (s : Sm H H') : ∀ {n : Nat} {v : V} {d : PyData}, Tg K p H B n v d → Tg K p H' B n v d := by
  intro n v d h
  induction h with
  | non n => exact .non n
  | bl n b => exact .bl n b
  | int n i h => exact .int n i h
  | str n x w l c => exact .str n x w l c
  | lst h1 h2 h3 _ ih => exact .lst (s.lst h1) h2 h3 ih
  | tup h1 h2 _ ih => exact .tup (s.tup h1) h2 ih
theorem TgAll.sm {K : PySem.W.Frag} {p : Addr → Prop} {B n : Nat} {H H' : Hp} {xs : List V} {ds : List PyData} (h : TgAll K p H B n xs ds) (s : Sm H H') : TgAll K p H' B n xs ds := ⟨h.1, fun i x d e1 e2 => (h.2 i x d e1 e2).sm s⟩
def numIn (lo hi : Int) : PyData → Bool
  | .int i => decide (lo ≤ i) && decide (i ≤ hi)
  | _ => false
def ladB (h : Int) : PyData → Bool
  | .list xs => decide ((xs.length : Int) = h) && xs.all (numIn 0 1000000)
  | _ => false
def potB (h : Int) : PyData → Bool
  | .tuple [r, t] => numIn 1 1000000 r && ladB h t
  | _ => false
def isDayD : PyData → Bool
  | .tuple [.list cs, .list ks, s] => (decide (1 ≤ cs.length) && decide (cs.length ≤ 48)) && (decide (1 ≤ ks.length) && decide (ks.length ≤ 8)) && (ladB (cs.length : Int) (.list cs) && ladB (cs.length : Int) s) && ks.all (potB (cs.length : Int))
  | _ => false
theorem numIn_no {lo hi : Int} {d : PyData} (h : isI d = false) : numIn lo hi d = false := by
  cases d <;> first | rfl | exact nomatch h
theorem ladB_no {h : Int} {d : PyData} (n : isL d = false) : ladB h d = false := by
  cases d <;> first | rfl | exact nomatch n
theorem potB_no {h : Int} {d : PyData} (n : isT d = false) : potB h d = false := by
  cases d <;> first | rfl | exact nomatch n
theorem potB_len {h : Int} {ds : List PyData} (n : ds.length ≠ 2) : potB h (.tuple ds) = false := by
  match ds, n with
  | [], _ => rfl
  | [_], _ => rfl
  | [_, _], n => exact absurd rfl n
  | _ :: _ :: _ :: _, _ => rfl
theorem isDayD_no {d : PyData} (n : isT d = false) : isDayD d = false := by
  cases d <;> first | rfl | exact nomatch n
theorem isDayD_len {ds : List PyData} (n : ds.length ≠ 3) : isDayD (.tuple ds) = false := by
  match ds, n with
  | [], _ => rfl
  | [a], _ => cases a <;> rfl
  | [a, b], _ => cases a <;> first | rfl | (cases b <;> rfl)
  | [_, _, _], n => exact absurd rfl n
  | a :: b :: c :: e :: r, _ => cases a <;> first | rfl | (cases b <;> first | rfl | (cases c <;> rfl))
theorem isDayD_c {a b c : PyData} (n : isL a = false ∨ isL b = false) : isDayD (.tuple [a, b, c]) = false := by
  rcases n with n | n
  · cases a <;> first | rfl | exact nomatch n
  · cases a <;> first | rfl | (cases b <;> first | rfl | exact nomatch n)
theorem all_at {α : Type} {f : α → Bool} {l : List α} {i : Nat} {x : α} (h : l[i]? = some x) (n : f x = false) : l.all f = false := by
  rw [List.all_eq_false]
  exact ⟨x, List.mem_of_getElem? h, by rw [n]; exact Bool.false_ne_true⟩
theorem all_up {α : Type} {f : α → Bool} {l : List α} {i : Nat} {x : α} (t : (l.take i).all f = true) (h : l[i]? = some x) (y : f x = true) : (l.take (i + 1)).all f = true := by
  rw [take_one h, List.all_append, t]
  show (true && (f x && true)) = true
  rw [y] <;> rfl
theorem two {K : PySem.W.Frag} {Av : Addr → Prop} {H : Hp} {B n : Nat} {xs : List V} {ds : List PyData} (t : TgAll K Av H B n xs ds) (l : xs.length = 2) : ∃ x1 x2 d1 d2, xs = [x1, x2] ∧ ds = [d1, d2] ∧ Tg K Av H B n x1 d1 ∧ Tg K Av H B n x2 d2 := by
  match xs, ds, t, l with
  | [a, b], [d, e], t, _ => exact ⟨a, b, d, e, rfl, rfl, t.tail.1, t.tail.2.tail.1⟩
  | [a, b], [], t, _ => exact nomatch t.1
  | [a, b], [d], t, _ => exact nomatch t.1
  | [a, b], d :: e :: f :: r, t, _ => exact nomatch t.1
theorem threeT {K : PySem.W.Frag} {Av : Addr → Prop} {H : Hp} {B n : Nat} {xs : List V} {ds : List PyData} (t : TgAll K Av H B n xs ds) (l : xs.length = 3) : ∃ x1 x2 x3 d1 d2 d3, xs = [x1, x2, x3] ∧ ds = [d1, d2, d3] ∧ Tg K Av H B n x1 d1 ∧ Tg K Av H B n x2 d2 ∧ Tg K Av H B n x3 d3 := by
  match xs, ds, t, l with
  | [a, b, c], [d, e, f], t, _ => exact ⟨a, b, c, d, e, f, rfl, rfl, t.tail.1, t.tail.2.tail.1, t.tail.2.tail.2.tail.1⟩
  | [a, b, c], [], t, _ => exact nomatch t.1
  | [a, b, c], [d], t, _ => exact nomatch t.1
  | [a, b, c], [d, e], t, _ => exact nomatch t.1
  | [a, b, c], d :: e :: f :: g :: r, t, _ => exact nomatch t.1
/-- days as things -/
def potE (k : Int × List Int) : PyData := .tuple [.int k.1, din k.2]
def dayE (D : Dy) : PyData := .tuple [din D.cs, .list (D.ks.map potE), din D.ss]
theorem ldl_tg {K : PySem.W.Frag} {Av : Addr → Prop} {H : Hp} {n : Nat} {ns : List Int} (L : Ldl ns) : TgAll K Av H 1000000 n (ns.map V.int) (ns.map PyData.int) := by
  refine ⟨by rw [List.length_map, List.length_map], fun i x d e1 e2 => ?_⟩
  rw [List.getElem?_map] at e1 e2
  obtain ⟨z, ez, rfl⟩ := Option.map_eq_some_iff.mp e1
  rw [ez] at e2
  cases e2
  have := L z (List.mem_of_getElem? ez)
  exact .int _ _ (by omega)
theorem ldlL_tg {K : PySem.W.Frag} {Av : Addr → Prop} {H : Hp} {n : Nat} {a : Addr} {ns : List Int} (L : Ldl ns) (h : H a = some (.lst (ns.map V.int))) (na : ¬ Av a) : Tg K Av H 1000000 (n + 1) (.ref a) (din ns) := (ldl_tg L).l h na
theorem pots_tg {K : PySem.W.Frag} {H : Hp} {p f : Addr} {as : List Addr} {ks : List (Int × List Int)} (h : PotsF K H p f as ks) (ok : ∀ k ∈ ks, 1 ≤ k.1 ∧ k.1 ≤ 1000000 ∧ Ldl k.2) : TgAll K (fun a => a = p) H 1000000 2 (as.map V.ref) (ks.map potE) := by
  refine ⟨by rw [List.length_map, List.length_map, Paired.length h], fun i x d e1 e2 => ?_⟩
  rw [List.getElem?_map] at e1 e2
  obtain ⟨a, ea, rfl⟩ := Option.map_eq_some_iff.mp e1
  obtain ⟨k, ek, rfl⟩ := Option.map_eq_some_iff.mp e2
  obtain ⟨k', ek', t, h1, h2, h3, _⟩ := h.get ea
  rw [ek] at ek'
  cases ek'
  obtain ⟨o1, o2, o3⟩ := ok k (List.mem_of_getElem? ek)
  exact (TgAll.cons (.int _ _ (by omega)) (.cons (ldlL_tg (n := 0) o3 h2 h3) .nil)).t h1
theorem nums_in {ns : List Int} (L : Ldl ns) : (ns.map PyData.int).all (numIn 0 1000000) = true := by
  rw [List.all_eq_true]
  intro d hd
  obtain ⟨z, hz, rfl⟩ := List.mem_map.mp hd
  have := L z hz
  show (decide (0 ≤ z) && decide (z ≤ 1000000)) = true
  rw [decide_eq_true this.1, decide_eq_true this.2] <;> rfl
theorem ladB_din {h : Int} {ns : List Int} (L : Ldl ns) (l : (ns.length : Int) = h) : ladB h (din ns) = true := by
  show (decide (((ns.map PyData.int).length : Int) = h) && (ns.map PyData.int).all (numIn 0 1000000)) = true
  rw [nums_in L, decide_eq_true (by rw [List.length_map]; exact l)] <;> rfl
theorem dayE_is {D : Dy} (O : DyOk D) (N : DyNn D) : isDayD (dayE D) = true := by
  have h1 := O.h1
  have h2 := O.h2
  have k1 := O.k1
  have k2 := O.k2
  have e : ((D.cs.map PyData.int).length : Int) = (D.cs.length : Int) := by rw [List.length_map]
  show ((decide (1 ≤ (D.cs.map PyData.int).length) && decide ((D.cs.map PyData.int).length ≤ 48)) && (decide (1 ≤ (D.ks.map potE).length) && decide ((D.ks.map potE).length ≤ 8)) && (ladB ((D.cs.map PyData.int).length : Int) (din D.cs) && ladB ((D.cs.map PyData.int).length : Int) (din D.ss)) && (D.ks.map potE).all (potB ((D.cs.map PyData.int).length : Int))) = true
  rw [e, ladB_din N.cs rfl, ladB_din N.ss (by rw [O.sl]), List.length_map, List.length_map, decide_eq_true h1, decide_eq_true h2, decide_eq_true k1, decide_eq_true k2]
  show (D.ks.map potE).all (potB (D.cs.length : Int)) = true
  rw [List.all_eq_true]
  intro d hd
  obtain ⟨k, hk, rfl⟩ := List.mem_map.mp hd
  obtain ⟨o1, o2, o3⟩ := N.ks k hk
  show ((decide (1 ≤ k.1) && decide (k.1 ≤ 1000000)) && ladB (D.cs.length : Int) (din k.2)) = true
  rw [ladB_din o3 (by rw [O.ts k hk]), decide_eq_true o1, decide_eq_true o2] <;> rfl
theorem wa_ldl : ∀ {ns : List Int}, Ldl ns → PyData.weightAll (ns.map PyData.int) ≤ 21 * ns.length
  | [], _ => Nat.zero_le _
  | z :: r, L => by
    have a := (Fine.ldl 0 (L z List.mem_cons_self).1 (L z List.mem_cons_self).2).wt
    have b := wa_ldl (ns := r) fun y hy => L y (List.mem_cons_of_mem _ hy)
    rw [List.map_cons, List.length_cons]
    show PyData.weight (.int z) + 1 + PyData.weightAll (r.map PyData.int) ≤ _
    omega
theorem wa_pots : ∀ {ks : List (Int × List Int)}, (∀ k ∈ ks, 1 ≤ k.1 ∧ k.1 ≤ 1000000 ∧ Ldl k.2) → (∀ k ∈ ks, k.2.length ≤ 48) → PyData.weightAll (ks.map potE) ≤ 1031 * ks.length
  | [], _, _ => Nat.zero_le _
  | k :: r, ok, l => by
    obtain ⟨o1, o2, o3⟩ := ok k List.mem_cons_self
    have a := (Fine.ldl 0 (i := k.1) (by omega) o2).wt
    have b := wa_pots (ks := r) (fun y hy => ok y (List.mem_cons_of_mem _ hy)) fun y hy => l y (List.mem_cons_of_mem _ hy)
    have c := wa_ldl o3
    have e := l k List.mem_cons_self
    rw [List.map_cons, List.length_cons]
    show (PyData.weight (.int k.1) + 1 + (PyData.weightAll (k.2.map PyData.int) + 1 + 0)) + 1 + PyData.weightAll (r.map potE) ≤ _
    omega
theorem dayE_wt {D : Dy} (O : DyOk D) (N : DyNn D) : PyData.weight (dayE D) ≤ 10300 := by
  have h2 := O.h2
  have k2 := O.k2
  have sl := O.sl
  have a := wa_ldl N.cs
  have b := wa_ldl N.ss
  have c := wa_pots N.ks fun k hk => by rw [O.ts k hk]; exact h2
  show PyData.weightAll (D.cs.map PyData.int) + 1 + (PyData.weightAll (D.ks.map potE) + 1 + (PyData.weightAll (D.ss.map PyData.int) + 1 + 0)) ≤ _
  omega
theorem sqT_fs {K : PySem.W.Frag} {H H' : Hp} {a p : Addr} {n : Nat} {xs : List V} (h : SqT K H a xs) (B : BoxAt H p n) (F : Fs p H H') : SqT K H' a xs := by
  obtain ⟨x, y, z, hb, _⟩ := B
  have ne : ∀ {o : HO}, H a = some o → (∀ l, o ≠ .lst l) → a ≠ p := fun {o} e n z => by
    rw [z, hb] at e
    exact n _ (Option.some.inj e).symm
  rcases h with (h | ⟨o, h⟩) | h
  · exact .inl (.inl (F.keep _ _ (ne h nofun) h nofun))
  · exact .inl (.inr ⟨o, F.keep _ _ (ne h nofun) h nofun⟩)
  · exact .inr h
theorem Tg.fs {K : PySem.W.Frag} {p : Addr → Prop} {q : Addr} (hq : p q) {B m : Nat} {H H' : Hp} (b : BoxAt H q m) (F : Fs q H H') : ∀ {n : Nat} {v : V} {d : PyData}, Tg K p H B n v d → Tg K p H' B n v d := by
  intro n v d h
  induction h with
  | non n => exact .non n
  | bl n b => exact .bl n b
  | int n i h => exact .int n i h
  | str n x w l c => exact .str n x w l c
  | lst h1 h2 h3 _ ih => exact .lst (F.keep _ _ (fun z => h2 (z ▸ hq)) h1 nofun) h2 h3 ih
  | tup h1 h2 _ ih => exact .tup (sqT_fs h1 b F) h2 ih
theorem sm_new_fs {H0 H1 H2 : Hp} {p : Addr} (s : Same H0 H1) (n : H0 p = none) (F : Fs p H1 H2) : Sm H0 H2 := by
  refine ⟨fun b o h no => F.keep b o (ne_of_none h n) (s _ _ h) no, fun b t => ?_⟩
  obtain ⟨q, e⟩ := tab_at t
  exact F.tab b (ne_of_none e n) ((Sm.of s).tab b t)
theorem rep_one (k : Nat) (v : V) : (List.replicate ((k : Int)).toNat [v]).flatten = List.replicate k v := by
  rw [Int.toNat_natCast]
  induction k with
  | zero => rfl
  | succ k ih =>
    rw [List.replicate_succ, List.replicate_succ, List.flatten_cons, ih] <;> rfl
theorem rep_tg {K : PySem.W.Frag} {p : Addr → Prop} {B n k : Nat} {H : Hp} {v : V} {d : PyData} (h : Tg K p H B n v d) : TgAll K p H B n (List.replicate k v) (List.replicate k d) := by
  refine ⟨by rw [List.length_replicate, List.length_replicate], fun i x e e1 e2 => ?_⟩
  have a := List.mem_of_getElem? e1
  have b := List.mem_of_getElem? e2
  rw [List.eq_of_mem_replicate a, List.eq_of_mem_replicate b]
  exact h
theorem day_tgL {K : PySem.W.Frag} {p : Addr → Prop} {H : Hp} {t1 g t2 d : Addr} {cs ss : List Int} {ks : List (Int × List Int)} {xs : List V} (L1 : Ldl cs) (L2 : Ldl ss) (h1 : H t1 = some (.lst (cs.map V.int))) (n1 : ¬ p t1) (hg : H g = some (.lst xs)) (ng : ¬ p g) (hk : TgAll K p H 1000000 2 xs (ks.map potE)) (h2 : H t2 = some (.lst (ss.map V.int))) (n2 : ¬ p t2)
    (hd : SqT K H d [.ref t1, .ref g, .ref t2]) : Tg K p H 1000000 4 (.ref d) (dayE ⟨cs, ks, ss⟩) :=
  (TgAll.cons ((ldlL_tg (n := 0) L1 h1 n1).up (Nat.le_refl _) (by decide)) (.cons (hk.l hg ng) (.cons ((ldlL_tg (n := 0) L2 h2 n2).up (Nat.le_refl _) (by decide)) .nil))).t hd
theorem pot_tg {K : PySem.W.Frag} {p : Addr → Prop} {H : Hp} {u t : Addr} {r : Int} {ns : List Int} (r0 : 1 ≤ r) (r1 : r ≤ 1000000) (L : Ldl ns) (ht : H t = some (.lst (ns.map V.int))) (nt : ¬ p t) (hu : SqT K H u [.int r, .ref t]) : Tg K p H 1000000 2 (.ref u) (potE (r, ns)) :=
  (TgAll.cons (.int _ _ (by omega)) (.cons (ldlL_tg (n := 0) L ht nt) .nil)).t hu
theorem ldl_rep {k : Nat} {z : Int} (h0 : 0 ≤ z) (h1 : z ≤ 1000000) : Ldl (List.replicate k z) := fun y hy => by
  rw [List.eq_of_mem_replicate hy]
  exact ⟨h0, h1⟩
theorem dayE_wt2 {D : Dy} (L1 : Ldl D.cs) (L2 : Ldl D.ss) (N : ∀ k ∈ D.ks, 1 ≤ k.1 ∧ k.1 ≤ 1000000 ∧ Ldl k.2) (h : ∀ k ∈ D.ks, k.2.length ≤ 49) : PyData.weight (dayE D) ≤ 21 * D.cs.length + 1052 * D.ks.length + 21 * D.ss.length + 3 := by
  have a := wa_ldl L1
  have b := wa_ldl L2
  have c : ∀ {ks : List (Int × List Int)}, (∀ k ∈ ks, 1 ≤ k.1 ∧ k.1 ≤ 1000000 ∧ Ldl k.2) → (∀ k ∈ ks, k.2.length ≤ 49) → PyData.weightAll (ks.map potE) ≤ 1052 * ks.length := fun {ks} => by
    induction ks with
    | nil => exact fun _ _ => Nat.zero_le _
    | cons k r ih =>
      intro ok l
      obtain ⟨o1, o2, o3⟩ := ok k List.mem_cons_self
      have a := (Fine.ldl 0 (i := k.1) (by omega) o2).wt
      have b := ih (fun y hy => ok y (List.mem_cons_of_mem _ hy)) fun y hy => l y (List.mem_cons_of_mem _ hy)
      have c := wa_ldl o3
      have e := l k List.mem_cons_self
      rw [List.map_cons, List.length_cons]
      show (PyData.weight (.int k.1) + 1 + (PyData.weightAll (k.2.map PyData.int) + 1 + 0)) + 1 + PyData.weightAll (r.map potE) ≤ _
      omega
  have c := c N h
  show PyData.weightAll (D.cs.map PyData.int) + 1 + (PyData.weightAll (D.ks.map potE) + 1 + (PyData.weightAll (D.ss.map PyData.int) + 1 + 0)) ≤ _
  omega
end KR
/-! ### any plan of a day: what each place takes, whether it can be done -/
namespace KR
open PySem PySem.Spec PyProof.Rows L2
/-- a thing that is made within an expression is not written any more -/
def tFrz (t : TE) : TE := fun σ H Q => t σ H fun x H1 => ∃ d u, x = .ref d ∧ H1 d = some u ∧ Mut (some u) ∧ ∀ od, Q (.ref d) (upd H1 d (.frz od u))
theorem pe_frz {X : Cx} {e : Expr} {t : TE} (h : PE X e t) : PE X e (tFrz t) := by
  refine ⟨fun pins s σ H Q I hw => ?_⟩
  refine thn (h.run pins s σ H _ I hw) fun v s1 ⟨x, H1, I1, r, d, u, e, hd, mu, q⟩ => ?_
  subst e
  obtain ⟨od, I2⟩ := I1.lock hd mu
  exact ⟨_, _, I2, r, q od⟩
def PX (f : Nat → List Int) (p t : Nat) : Int := (f p).getD t 0
def PS (f : Nat → List Int) (p t : Nat) : Int := ((f p).take t).sum
theorem PS_zero (f : Nat → List Int) (p : Nat) : PS f p 0 = 0 := by
  unfold PS
  rw [List.take_zero, List.sum_nil]
theorem PS_succ {f : Nat → List Int} {p t : Nat} (h : t < (f p).length) : PS f p (t + 1) = PS f p t + PX f p t := by
  unfold PS PX
  rw [take_one (List.getElem?_eq_getElem h), List.sum_append, List.getD_eq_getElem?_getD, List.getElem?_eq_getElem h, List.sum_cons, List.sum_nil]
  show _ + ((f p)[t] + 0) = _ + (f p)[t]
  omega
def PlAt (D : Dy) (f : Nat → List Int) (p t : Nat) : Prop := PS f p (t + 1) ≤ (if p = 0 then csum D (t + 1) else PS f (p - 1) t) ∧ PX f p t ≤ (if p = D.ks.length then D.ss.getD t 0 else (kt D p).2.getD t 0) ∧ (p < D.ks.length → PS f p (t + 1) ≤ PS f (p + 1) (t + 1) + (kt D p).1)
def valX (f : Nat → List Int) (b : Bd) : Int := match b.lead with
  | none => b.more
  | some (p, h) => PS f p.toNat (h + 1).toNat + b.more
theorem plAt_bnds {D : Dy} {f : Nat → List Int} {p t : Nat} (hp : p ≤ D.ks.length) (len : t < (f p).length) : PlAt D f p t ↔ ∀ b ∈ bnds D p (t + 1), PS f p (t + 1) ≤ valX f b := by
  have e1 : valX f (firstB D p t) = if p = 0 then csum D (t + 1) else PS f (p - 1) t := by
    unfold firstB
    by_cases c : p = 0
    · rw [if_pos c, if_pos c] <;> rfl
    · rw [if_neg c, if_neg c]
      show PS f ((p : Int) - 1).toNat ((t : Int) - 1 + 1).toNat + 0 = _
      rw [show ((t : Int) - 1 + 1).toNat = t by omega, show ((p : Int) - 1).toNat = p - 1 by omega, Int.add_zero]
  have e2 : ∀ m, valX f ⟨"takes", some ((p : Int), (t : Int) - 1), m⟩ = PS f p t + m := fun m => by
    show PS f ((p : Int)).toNat ((t : Int) - 1 + 1).toNat + m = _
    rw [show ((t : Int) - 1 + 1).toNat = t by omega, Int.toNat_natCast]
  have e3 : ∀ m, valX f ⟨"room", some ((p : Int) + 1, (t : Int)), m⟩ = PS f (p + 1) (t + 1) + m := fun m => by
    show PS f ((p : Int) + 1).toNat ((t : Int) + 1).toNat + m = _
    rw [show ((t : Int) + 1).toNat = t + 1 by omega, show ((p : Int) + 1).toNat = p + 1 by omega]
  have es := PS_succ len
  unfold PlAt
  by_cases c : p = D.ks.length
  · rw [show bnds D p (t + 1) = [firstB D p t, ⟨"takes", some ((p : Int), (t : Int) - 1), D.ss.getD t 0⟩] from if_pos c, if_pos c]
    constructor
    · intro ⟨h1, h2, _⟩ b hb
      rcases List.mem_cons.mp hb with z | z
      · rw [z, e1]; exact h1
      · rw [List.mem_singleton.mp z, e2]; omega
    · intro h
      have a := h _ List.mem_cons_self
      have b := h _ (List.mem_cons_of_mem _ List.mem_cons_self)
      rw [e1] at a
      rw [e2] at b
      exact ⟨a, by omega, fun z => absurd z (by omega)⟩
  · rw [show bnds D p (t + 1) = [firstB D p t, ⟨"takes", some ((p : Int), (t : Int) - 1), (kt D p).2.getD t 0⟩, ⟨"room", some ((p : Int) + 1, (t : Int)), (kt D p).1⟩] from if_neg c, if_neg c]
    constructor
    · intro ⟨h1, h2, h3⟩ b hb
      rcases List.mem_cons.mp hb with z | z
      · rw [z, e1]; exact h1
      · rcases List.mem_cons.mp z with z | z
        · rw [z, e2]; omega
        · rw [List.mem_singleton.mp z, e3]; exact h3 (by omega)
    · intro h
      have a := h _ List.mem_cons_self
      have b := h _ (List.mem_cons_of_mem _ List.mem_cons_self)
      have d := h _ (List.mem_cons_of_mem _ (List.mem_cons_of_mem _ List.mem_cons_self))
      rw [e1] at a
      rw [e2] at b
      rw [e3] at d
      exact ⟨a, by omega, fun _ => d⟩
def planX (Xs : List (List Int)) : PyData := .list (Xs.map din)
def rowF (Xs : List (List Int)) (p : Nat) : List Int := Xs.getD p []
theorem rowF_at {Xs : List (List Int)} {p : Nat} {xs : List Int} (h : Xs[p]? = some xs) : rowF Xs p = xs := by
  unfold rowF
  rw [List.getD_eq_getElem?_getD, h] <;> rfl
structure PlanOk (D : Dy) (Xs : List (List Int)) : Prop where
  len : Xs.length = D.ks.length + 1
  row : ∀ r ∈ Xs, r.length = D.cs.length ∧ ∀ z ∈ r, 0 ≤ z
theorem PlanOk.at_ {D : Dy} {Xs : List (List Int)} (h : PlanOk D Xs) {p : Nat} (hp : p ≤ D.ks.length) : ∃ xs, Xs[p]? = some xs ∧ rowF Xs p = xs ∧ xs.length = D.cs.length ∧ ∀ z ∈ xs, 0 ≤ z := by
  have lt : p < Xs.length := by rw [h.len]; omega
  have e := List.getElem?_eq_getElem lt
  have r := h.row _ (List.mem_of_getElem? e)
  exact ⟨_, e, rowF_at e, r.1, r.2⟩
theorem PlanOk.lenF {D : Dy} {Xs : List (List Int)} (h : PlanOk D Xs) {p : Nat} (hp : p ≤ D.ks.length) : (rowF Xs p).length = D.cs.length := by
  obtain ⟨xs, _, e, l, _⟩ := h.at_ hp
  rw [e, l]
def PlanDo (D : Dy) (Xs : List (List Int)) : Prop := ∀ p t, p ≤ D.ks.length → t < D.cs.length → PlAt D (rowF Xs) p t
def IsPlan (D : Dy) (e : PyData) : Prop := ∃ Xs, e = planX Xs ∧ PlanOk D Xs ∧ PlanDo D Xs
theorem din_inj {a b : List Int} (h : din a = din b) : a = b := by
  unfold din at h
  injection h with h
  exact (List.map_inj_right (fun x y e => by injection e)).mp h
theorem planX_inj {a b : List (List Int)} (h : planX a = planX b) : a = b := by
  unfold planX at h
  injection h with h
  exact (List.map_inj_right (fun x y e => din_inj e)).mp h
theorem isPlan_iff {D : Dy} {Xs : List (List Int)} (O : PlanOk D Xs) : IsPlan D (planX Xs) ↔ PlanDo D Xs :=
  ⟨fun ⟨Ys, e, _, d⟩ => by rw [planX_inj e]; exact d, fun d => ⟨Xs, rfl, O, d⟩⟩
theorem isPlan_ok {D : Dy} {Xs : List (List Int)} (h : IsPlan D (planX Xs)) : PlanOk D Xs := by
  obtain ⟨Ys, e, o, _⟩ := h
  rw [planX_inj e]
  exact o
/-- what a row of a plan is -/
def nnB : PyData → Bool
  | .int i => decide (0 ≤ i)
  | _ => false
def placeB (h : Int) : PyData → Bool
  | .list xs => decide ((xs.length : Int) = h) && xs.all nnB
  | _ => false
theorem nnB_no {d : PyData} (n : isI d = false) : nnB d = false := by
  cases d <;> first | rfl | exact nomatch n
theorem placeB_no {h : Int} {d : PyData} (n : isL d = false) : placeB h d = false := by
  cases d <;> first | rfl | exact nomatch n
theorem nums_of : ∀ {ds : List PyData}, ds.all nnB = true → ∃ xs : List Int, ds = xs.map PyData.int ∧ ∀ z ∈ xs, 0 ≤ z
  | [], _ => ⟨[], rfl, fun z hz => absurd hz List.not_mem_nil⟩
  | d :: ds, h => by
    rw [List.all_cons] at h
    obtain ⟨h1, h2⟩ := Bool.and_eq_true_iff.mp h
    obtain ⟨xs, e, nn⟩ := nums_of h2
    cases d <;> try (cases h1; done)
    case int i =>
      refine ⟨i :: xs, by rw [e] <;> rfl, fun z hz => ?_⟩
      rcases List.mem_cons.mp hz with q | q
      · rw [q]
        exact of_decide_eq_true h1
      · exact nn z q
theorem rows_of {h : Nat} : ∀ {ds : List PyData}, ds.all (placeB (h : Int)) = true → ∃ Xs : List (List Int), ds = Xs.map din ∧ ∀ r ∈ Xs, r.length = h ∧ ∀ z ∈ r, 0 ≤ z
  | [], _ => ⟨[], rfl, fun z hz => absurd hz List.not_mem_nil⟩
  | d :: ds, hh => by
    rw [List.all_cons] at hh
    obtain ⟨h1, h2⟩ := Bool.and_eq_true_iff.mp hh
    obtain ⟨Xs, e, ok⟩ := rows_of h2
    cases d <;> try (cases h1; done)
    case list es =>
      obtain ⟨g1, g2⟩ := Bool.and_eq_true_iff.mp (show (decide ((es.length : Int) = (h : Int)) && es.all nnB) = true from h1)
      obtain ⟨xs, ex, nn⟩ := nums_of g2
      have gl := of_decide_eq_true g1
      refine ⟨xs :: Xs, by rw [e, ex] <;> rfl, fun r hr => ?_⟩
      rcases List.mem_cons.mp hr with q | q
      · rw [q]
        refine ⟨?_, nn⟩
        rw [ex, List.length_map] at gl
        omega
      · exact ok r q
theorem place_row {h : Nat} {r : List Int} (l : r.length = h) (nn : ∀ z ∈ r, 0 ≤ z) : placeB (h : Int) (din r) = true := by
  show (decide (((r.map PyData.int).length : Int) = (h : Int)) && (r.map PyData.int).all nnB) = true
  rw [decide_eq_true (by rw [List.length_map, l])]
  show (r.map PyData.int).all nnB = true
  rw [List.all_eq_true]
  intro d hd
  obtain ⟨z, hz, rfl⟩ := List.mem_map.mp hd
  exact decide_eq_true (nn z hz)
theorem isPlan_rows {D : Dy} {ds : List PyData} (h : IsPlan D (.list ds)) : ds.length = D.ks.length + 1 ∧ ds.all (placeB (D.cs.length : Int)) = true := by
  obtain ⟨Xs, e, O, _⟩ := h
  have e' : ds = Xs.map din := by
    unfold planX at e
    injection e
  rw [e', List.length_map, O.len]
  refine ⟨rfl, ?_⟩
  rw [List.all_eq_true]
  intro d hd
  obtain ⟨r, hr, rfl⟩ := List.mem_map.mp hd
  exact place_row (O.row r hr).1 (O.row r hr).2
theorem isPlan_L {D : Dy} {e : PyData} (n : isL e = false) : ¬ IsPlan D e := fun ⟨Xs, z, _⟩ => by
  rw [z] at n
  exact nomatch n
/-- the rows of a plan as they lie -/
def RowsP (H : Hp) (Av : Addr → Prop) (rs : List Addr) (Xs : List (List Int)) : Prop := rs.length = Xs.length ∧ ∀ (j : Nat) (r : Addr) (xs : List Int), rs[j]? = some r → Xs[j]? = some xs → H r = some (.lst (xs.map V.int)) ∧ ¬ Av r
theorem nums_tg {K : PySem.W.Frag} {Av : Addr → Prop} {H : Hp} {B n : Nat} : ∀ {ys : List V} {xs : List Int}, TgAll K Av H B n ys (xs.map PyData.int) → ys = xs.map V.int
  | [], [], _ => rfl
  | [], _ :: _, h => nomatch h.1
  | _ :: _, [], h => nomatch h.1
  | y :: ys, x :: xs, h => by
    obtain ⟨i, e1, e2, _⟩ := h.tail.1.intI rfl
    injection e2 with e2
    rw [nums_tg h.tail.2, e1, ← e2] <;> rfl
theorem rows_tg {K : PySem.W.Frag} {Av : Addr → Prop} {H : Hp} {B n : Nat} : ∀ {ys : List V} {Xs : List (List Int)}, TgAll K Av H B n ys (Xs.map din) → ∃ rs : List Addr, ys = rs.map V.ref ∧ RowsP H Av rs Xs
  | [], [], _ => ⟨[], rfl, rfl, fun j r xs h => by simp at h⟩
  | [], _ :: _, h => nomatch h.1
  | _ :: _, [], h => nomatch h.1
  | y :: ys, X :: Xs, h => by
    obtain ⟨rs, e, l, at_⟩ := rows_tg h.tail.2
    have hd : Tg K Av H B n y (.list (X.map PyData.int)) := h.tail.1
    cases hd with
    | lst h1 h2 h3 h4 =>
      rename_i m a zs
      have ez := nums_tg (K := K) (Av := Av) (H := H) (B := B) (n := m) ⟨h3, h4⟩
      refine ⟨a :: rs, by rw [e] <;> rfl, by rw [List.length_cons, List.length_cons, l], fun j r xs e1 e2 => ?_⟩
      cases j with
      | zero =>
        cases e1
        cases e2
        exact ⟨by rw [← ez]; exact h1, h2⟩
      | succ j => exact at_ j r xs e1 e2
theorem plan_tg {K : PySem.W.Frag} {Av : Addr → Prop} {H : Hp} {B n : Nat} {v : V} {Xs : List (List Int)} (h : Tg K Av H B n v (planX Xs)) : ∃ (f : Addr) (rs : List Addr), v = .ref f ∧ H f = some (.lst (rs.map V.ref)) ∧ ¬ Av f ∧ RowsP H Av rs Xs := by
  have hd : Tg K Av H B n v (.list (Xs.map din)) := h
  cases hd with
  | lst h1 h2 h3 h4 =>
    rename_i m a zs
    obtain ⟨rs, e, R⟩ := rows_tg (K := K) (Av := Av) (H := H) (B := B) (n := m) ⟨h3, h4⟩
    exact ⟨a, rs, rfl, by rw [← e]; exact h1, h2, R⟩
/-- and the other way -/
theorem ints_tg {K : PySem.W.Frag} {Av : Addr → Prop} {H : Hp} {B n : Nat} {xs : List Int} (L : ∀ z ∈ xs, z.natAbs ≤ B) : TgAll K Av H B n (xs.map V.int) (xs.map PyData.int) := by
  refine ⟨by rw [List.length_map, List.length_map], fun i x d e1 e2 => ?_⟩
  rw [List.getElem?_map] at e1 e2
  obtain ⟨z, ez, rfl⟩ := Option.map_eq_some_iff.mp e1
  rw [ez] at e2
  cases e2
  exact .int _ _ (L z (List.mem_of_getElem? ez))
theorem tg_plan {K : PySem.W.Frag} {Av : Addr → Prop} {H : Hp} {B : Nat} {f : Addr} {rs : List Addr} {Xs : List (List Int)} (hf : H f = some (.lst (rs.map V.ref))) (nf : ¬ Av f) (R : RowsP H Av rs Xs) (L : ∀ xs ∈ Xs, ∀ z ∈ xs, z.natAbs ≤ B) : Tg K Av H B 2 (.ref f) (planX Xs) := by
  refine TgAll.l (n := 1) ⟨by rw [List.length_map, List.length_map, R.1], fun i x d e1 e2 => ?_⟩ hf nf
  rw [List.getElem?_map] at e1 e2
  obtain ⟨r, er, rfl⟩ := Option.map_eq_some_iff.mp e1
  obtain ⟨xs, ex, rfl⟩ := Option.map_eq_some_iff.mp e2
  obtain ⟨h1, h2⟩ := R.2 i r xs er ex
  exact (ints_tg (n := 0) (L xs (List.mem_of_getElem? ex))).l h1 h2
/-- what is told of what the places of a plan have taken -/
structure TakenX (f : Nat → List Int) (kvs : List (List Key × V)) (d : Nat → Nat → Prop) : Prop where
  all : ∀ kv ∈ kvs, ∃ p t, kv.1 = kk p t ∧ d p t ∧ kv.2 = .int (PS f p t)
  at_ : ∀ p t, d p t → valV kvs (kk p t) = some (.int (PS f p t))
theorem TakenX.put {f : Nat → List Int} {kvs : List (List Key × V)} {d d' : Nat → Nat → Prop} (h : TakenX f kvs d) (p t : Nat) (new : ¬ d p t) (hd : ∀ p' t', d' p' t' ↔ d p' t' ∨ (p' = p ∧ t' = t)) : TakenX f (putK kvs (kk p t) (.int (PS f p t))) d' := by
  have nv : valV kvs (kk p t) = none := by
    cases e : valV kvs (kk p t) with
    | none => rfl
    | some v =>
      unfold valV at e
      obtain ⟨kv, e1, e2⟩ := Option.map_eq_some_iff.mp e
      have m := List.mem_of_find?_eq_some e1
      have k : kv.1 = kk p t := by simpa using List.find?_some e1
      obtain ⟨p', t', k', hd', _⟩ := h.all kv m
      rw [k] at k'
      obtain ⟨rfl, rfl⟩ := kk_inj k'
      exact absurd hd' new
  refine ⟨fun kv m => ?_, fun p' t' h' => ?_⟩
  · rw [putK_new _ nv] at m
    rcases List.mem_append.mp m with m | m
    · obtain ⟨p', t', e1, e2, e3⟩ := h.all kv m
      exact ⟨p', t', e1, (hd p' t').mpr (.inl e2), e3⟩
    · rw [List.mem_singleton.mp m]
      exact ⟨p, t, rfl, (hd p t).mpr (.inr ⟨rfl, rfl⟩), rfl⟩
  · rw [valV_put]
    by_cases c : kk p' t' = kk p t
    · rw [if_pos c]
      obtain ⟨e1, e2⟩ := kk_inj c
      rw [e1, e2]
    · rw [if_neg c]
      rcases (hd p' t').mp h' with g | ⟨e1, e2⟩
      · exact h.at_ p' t' g
      · exact absurd (by rw [e1, e2]) c
theorem TakenX.mem {f : Nat → List Int} {kvs : List (List Key × V)} {d : Nat → Nat → Prop} (h : TakenX f kvs d) {p t : Nat} (hd : d p t) : ∃ i : Nat, ∃ v, kvs[i]? = some (kk p t, v) := by
  have e := h.at_ p t hd
  unfold valV at e
  obtain ⟨kv, e1, e2⟩ := Option.map_eq_some_iff.mp e
  have m := List.mem_of_find?_eq_some e1
  have k : kv.1 = kk p t := by simpa using List.find?_some e1
  obtain ⟨i, hi⟩ := List.mem_iff_getElem?.mp m
  exact ⟨i, kv.2, by rw [hi, ← k]⟩
end KR
/-! ### all plans of a small day, as tables of sums -/
namespace KR
open PySem PySem.Spec PyProof.Rows L2
abbrev Tbl := List (List Int)
def rowT (Xs : Tbl) (p : Nat) : List Int := Xs.getD p []
theorem rowT_at {Xs : Tbl} {p : Nat} {xs : List Int} (h : Xs[p]? = some xs) : rowT Xs p = xs := by
  unfold rowT
  rw [List.getD_eq_getElem?_getD, h] <;> rfl
def firstT (D : Dy) (S : Tbl) (p t : Nat) : Int := if p = 0 then csum D (t + 1) else (rowT S (p - 1)).getD t 0
def mayT (D : Dy) (p t : Nat) : Int := if p = D.ks.length then D.ss.getD t 0 else (kt D p).2.getD t 0
def mostT (D : Dy) (S : Tbl) (p t : Nat) : Int := if p < D.ks.length then min (firstT D S p t - (rowT S p).getD t 0) ((kt D p).1 + (rowT S (p + 1)).getD (t + 1) 0 - (rowT S p).getD t 0) else firstT D S p t - (rowT S p).getD t 0
def putT (S : Tbl) (p t : Nat) (x : Int) : Tbl := S.set p (rowT S p ++ [(rowT S p).getD t 0 + x])
def extT (D : Dy) (p t : Nat) (S : Tbl) : List Tbl := (List.range (min (mostT D S p t) (mayT D p t) + 1).toNat).map fun x : Nat => putT S p t (x : Int)
def genP (D : Dy) (t : Nat) (F : List Tbl) : Nat → List Tbl
  | 0 => F
  | j + 1 => (genP D t F j).flatMap (extT D (D.ks.length - j) t)
def genH (D : Dy) : Nat → List Tbl
  | 0 => [List.replicate (D.ks.length + 1) [0]]
  | t + 1 => genP D t (genH D t) (D.ks.length + 1)
def lenT (D : Dy) (t j p : Nat) : Nat := if D.ks.length < p + j then t + 2 else t + 1
def topR (D : Dy) (n p : Nat) : List Int := (List.range n).map fun u => tk D u p
def topT (D : Dy) (t j : Nat) : Tbl := (List.range (D.ks.length + 1)).map fun p => topR D (lenT D t j p) p
theorem topR_len (D : Dy) (n p : Nat) : (topR D n p).length = n := by
  unfold topR
  rw [List.length_map, List.length_range]
theorem topR_get {D : Dy} {n p u : Nat} (h : u < n) : (topR D n p).getD u 0 = tk D u p := by
  unfold topR
  rw [List.getD_eq_getElem?_getD, List.getElem?_map, List.getElem?_range h] <;> rfl
theorem topT_at {D : Dy} {t j p : Nat} (h : p ≤ D.ks.length) : (topT D t j)[p]? = some (topR D (lenT D t j p) p) := by
  unfold topT
  rw [List.getElem?_map, List.getElem?_range (by omega)] <;> rfl
theorem topT_F {D : Dy} {t j p : Nat} (h : p ≤ D.ks.length) : rowT (topT D t j) p = topR D (lenT D t j p) p := rowT_at (topT_at h)
theorem topT_len (D : Dy) (t j : Nat) : (topT D t j).length = D.ks.length + 1 := by
  unfold topT
  rw [List.length_map, List.length_range]
structure Shape (D : Dy) (t j : Nat) (S : Tbl) : Prop where
  len : S.length = D.ks.length + 1
  row : ∀ p, p ≤ D.ks.length → (rowT S p).length = lenT D t j p
  val : ∀ p u, p ≤ D.ks.length → u < lenT D t j p → 0 ≤ (rowT S p).getD u 0 ∧ (rowT S p).getD u 0 ≤ tk D u p
theorem rowT_set_ne {S : Tbl} {p q : Nat} {r : List Int} (h : q ≠ p) : rowT (S.set p r) q = rowT S q := by
  unfold rowT
  rw [List.getD_eq_getElem?_getD, List.getD_eq_getElem?_getD, List.getElem?_set, if_neg (fun z => h z.symm)]
theorem rowT_set_eq {S : Tbl} {p : Nat} {r : List Int} (h : p < S.length) : rowT (S.set p r) p = r := by
  unfold rowT
  rw [List.getD_eq_getElem?_getD, List.getElem?_set, if_pos rfl, if_pos h] <;> rfl
theorem rowT_get {S : Tbl} {p : Nat} (h : p < S.length) : S[p]? = some (rowT S p) := by
  unfold rowT
  rw [List.getD_eq_getElem?_getD, List.getElem?_eq_getElem h] <;> rfl
/-- no plan has more -/
theorem ext_shape {D : Dy} {t j : Nat} {S S' : Tbl} (hj : j ≤ D.ks.length) (k1 : 1 ≤ D.ks.length) (h : Shape D t j S) (m : S' ∈ extT D (D.ks.length - j) t S) : Shape D t (j + 1) S' := by
  unfold extT at m
  obtain ⟨x, hx, rfl⟩ := List.mem_map.mp m
  have hx := List.mem_range.mp hx
  generalize ep : D.ks.length - j = p at hx
  have hp : p ≤ D.ks.length := by omega
  have hl : p < S.length := by rw [h.len]; omega
  have lp : lenT D t j p = t + 1 := if_neg (by omega)
  have lp' : lenT D t (j + 1) p = t + 2 := if_pos (by omega)
  have lq : ∀ q, q ≠ p → q ≤ D.ks.length → lenT D t (j + 1) q = lenT D t j q := fun q hq hk => by
    unfold lenT
    by_cases c : D.ks.length < q + j
    · rw [if_pos c, if_pos (by omega)]
    · rw [if_neg c, if_neg (by omega)]
  have v0 := h.val p t hp (by rw [lp]; omega)
  have xm : (x : Int) ≤ mostT D S p t := by omega
  have xy : (x : Int) ≤ mayT D p t := by omega
  unfold putT
  refine ⟨by rw [List.length_set]; exact h.len, fun q hq => ?_, fun q u hq hu => ?_⟩
  · by_cases c : q = p
    · subst c
      rw [rowT_set_eq hl, List.length_append, h.row q hq, lp, lp'] <;> rfl
    · rw [rowT_set_ne c, h.row q hq, lq q c hq]
  · by_cases c : q = p
    · subst c
      rw [rowT_set_eq hl]
      rw [lp'] at hu
      have lr := h.row q hq
      rw [lp] at lr
      by_cases cu : u < t + 1
      · rw [List.getD_eq_getElem?_getD, List.getElem?_append_left (by omega), ← List.getD_eq_getElem?_getD]
        exact h.val q u hq (by rw [lp]; exact cu)
      · obtain rfl : u = t + 1 := by omega
        rw [List.getD_eq_getElem?_getD, List.getElem?_append_right (by omega), lr, Nat.sub_self]
        show 0 ≤ (rowT S q).getD t 0 + (x : Int) ∧ (rowT S q).getD t 0 + (x : Int) ≤ tk D (t + 1) q
        have f1 : firstT D S q t ≤ if q = 0 then csum D (t + 1) else tk D t (q - 1) := by
          unfold firstT
          by_cases c0 : q = 0
          · rw [if_pos c0, if_pos c0]
            exact Int.le_refl _
          · rw [if_neg c0, if_neg c0]
            exact (h.val (q - 1) t (by omega) (by unfold lenT; split <;> omega)).2
        refine ⟨by omega, ?_⟩
        by_cases cK : q = D.ks.length
        · subst cK
          have a := tk_last D t
          unfold mostT at xm
          unfold mayT at xy
          rw [if_neg (Nat.lt_irrefl _)] at xm
          rw [if_pos rfl] at xy
          rw [if_neg (by omega)] at f1
          omega
        · have a := tk_at (D := D) (t := t) (p := q) (by omega)
          unfold mostT at xm
          unfold mayT at xy
          rw [if_pos (by omega)] at xm
          rw [if_neg cK] at xy
          have g := (h.val (q + 1) (t + 1) (by omega) (by unfold lenT; rw [if_pos (by omega)]; omega)).2
          omega
    · rw [rowT_set_ne c]
      exact h.val q u hq (by rw [← lq q c hq]; exact hu)
theorem genP_shape {D : Dy} {t : Nat} {F : List Tbl} (k1 : 1 ≤ D.ks.length) (h : ∀ S ∈ F, Shape D t 0 S) : ∀ j, j ≤ D.ks.length + 1 → ∀ S ∈ genP D t F j, Shape D t j S
  | 0, _, S, m => h S m
  | j + 1, hj, S, m => by
    obtain ⟨S0, m0, m1⟩ := List.mem_flatMap.mp (show S ∈ (genP D t F j).flatMap (extT D (D.ks.length - j) t) from m)
    exact ext_shape (by omega) k1 (genP_shape k1 h j (by omega) S0 m0) m1
theorem shape_next {D : Dy} {t : Nat} {S : Tbl} (h : Shape D t (D.ks.length + 1) S) : Shape D (t + 1) 0 S := by
  have e : ∀ p, p ≤ D.ks.length → lenT D (t + 1) 0 p = lenT D t (D.ks.length + 1) p := fun p hp => by
    unfold lenT
    rw [if_neg (by omega), if_pos (by omega)]
  exact ⟨h.len, fun p hp => by rw [h.row p hp, e p hp], fun p u hp hu => h.val p u hp (by rw [← e p hp]; exact hu)⟩
theorem genH_shape {D : Dy} (k1 : 1 ≤ D.ks.length) : ∀ t, ∀ S ∈ genH D t, Shape D t 0 S
  | 0, S, m => by
    rw [List.mem_singleton.mp m]
    have e : ∀ p, p ≤ D.ks.length → rowT (List.replicate (D.ks.length + 1) [(0 : Int)]) p = [0] := fun p hp => rowT_at (by rw [List.getElem?_replicate, if_pos (by omega)])
    refine ⟨List.length_replicate, fun p hp => ?_, fun p u hp hu => ?_⟩
    · rw [e p hp]
      exact (if_neg (by omega)).symm
    · rw [e p hp]
      have hu : u < 1 := by
        have : lenT D 0 0 p = 1 := if_neg (by omega)
        omega
      obtain rfl : u = 0 := by omega
      rw [tk_zero]
      exact ⟨Int.le_refl _, Int.le_refl _⟩
  | t + 1, S, m => shape_next (genP_shape k1 (genH_shape k1 t) _ (Nat.le_refl _) S m)
/-- how often the greatest is among them: once -/
theorem cnt_flat {α β : Type} [BEq α] [LawfulBEq α] [BEq β] {g : α → List β} {G : α} {a : β} (h1 : (g G).count a = 1) : ∀ {F : List α}, (∀ S ∈ F, S ≠ G → (g S).count a = 0) → (F.flatMap g).count a = F.count G
  | [], _ => rfl
  | S :: F, h => by
    rw [List.flatMap_cons, List.count_append, List.count_cons, cnt_flat h1 fun S hS => h S (List.mem_cons_of_mem _ hS)]
    rcases Classical.em (S = G) with c | c
    · subst c
      rw [h1, if_pos (by simp)]
      omega
    · rw [h S List.mem_cons_self c, if_neg (by simpa using c)]
      omega
theorem cnt_one {α : Type} [BEq α] [LawfulBEq α] {a : α} : ∀ {l : List α}, l.Nodup → a ∈ l → l.count a = 1
  | [], _, m => absurd m List.not_mem_nil
  | x :: l, nd, m => by
    obtain ⟨n1, n2⟩ := List.nodup_cons.mp nd
    rw [List.count_cons]
    rcases Classical.em (x = a) with c | c
    · subst c
      rw [List.count_eq_zero.mpr n1, if_pos (by simp)]
    · rw [if_neg (by simpa using c)]
      rcases List.mem_cons.mp m with e | m
      · exact absurd e.symm c
      · exact cnt_one n2 m
theorem top_step {D : Dy} {t j : Nat} (hj : j ≤ D.ks.length) : putT (topT D t j) (D.ks.length - j) t (tk D (t + 1) (D.ks.length - j) - tk D t (D.ks.length - j)) = topT D t (j + 1) := by
  generalize ep : D.ks.length - j = p
  have hp : p ≤ D.ks.length := by omega
  have lp : lenT D t j p = t + 1 := if_neg (by omega)
  have lp' : lenT D t (j + 1) p = t + 2 := if_pos (by omega)
  unfold putT
  rw [topT_F hp, lp, topR_get (by omega), show tk D t p + (tk D (t + 1) p - tk D t p) = tk D (t + 1) p by omega]
  refine List.ext_getElem? fun q => ?_
  rw [List.getElem?_set]
  by_cases c : p = q
  · subst c
    rw [if_pos rfl, if_pos (by rw [topT_len]; omega), topT_at hp, lp']
    congr 1
    unfold topR
    rw [List.range_succ (n := t + 1), List.map_append] <;> rfl
  · rw [if_neg c]
    by_cases hq : q ≤ D.ks.length
    · rw [topT_at hq, topT_at hq]
      congr 2
      unfold lenT
      by_cases c2 : D.ks.length < q + j
      · rw [if_pos c2, if_pos (by omega)]
      · rw [if_neg c2, if_neg (by omega)]
    · rw [List.getElem?_eq_none (by rw [topT_len]; omega), List.getElem?_eq_none (by rw [topT_len]; omega)]
theorem top_most {D : Dy} {t j : Nat} (k1 : 1 ≤ D.ks.length) (hj : j ≤ D.ks.length) : min (mostT D (topT D t j) (D.ks.length - j) t) (mayT D (D.ks.length - j) t) = tk D (t + 1) (D.ks.length - j) - tk D t (D.ks.length - j) := by
  generalize ep : D.ks.length - j = p
  have hp : p ≤ D.ks.length := by omega
  have lp : lenT D t j p = t + 1 := if_neg (by omega)
  have g0 : (rowT (topT D t j) p).getD t 0 = tk D t p := by rw [topT_F hp, lp, topR_get (by omega)]
  have f1 : firstT D (topT D t j) p t = if p = 0 then csum D (t + 1) else tk D t (p - 1) := by
    unfold firstT
    by_cases c0 : p = 0
    · rw [if_pos c0, if_pos c0]
    · rw [if_neg c0, if_neg c0, topT_F (by omega), topR_get (by unfold lenT; split <;> omega)]
  unfold mostT mayT
  rw [g0, f1]
  by_cases cK : p = D.ks.length
  · rw [if_neg (by omega), if_pos cK, if_neg (by omega)]
    have a := tk_last D t
    rw [← cK] at a
    omega
  · rw [if_pos (by omega), if_neg cK, topT_F (by omega), topR_get (by unfold lenT; rw [if_pos (by omega)]; omega)]
    have a := tk_at (D := D) (t := t) (p := p) (by omega)
    omega
theorem genP_count {D : Dy} {t : Nat} {F : List Tbl} (N : DyNn D) (k1 : 1 ≤ D.ks.length) (mono : ∀ p, p ≤ D.ks.length → tk D t p ≤ tk D (t + 1) p) (h : ∀ S ∈ F, Shape D t 0 S) (c : F.count (topT D t 0) = 1) : ∀ j, j ≤ D.ks.length + 1 → (genP D t F j).count (topT D t j) = 1
  | 0, _ => c
  | j + 1, hj => by
    have ih := genP_count N k1 mono h c j (by omega)
    have sh := genP_shape k1 h j (by omega)
    have jk : j ≤ D.ks.length := by omega
    have st := top_step (D := D) (t := t) jk
    have tm := top_most (D := D) (t := t) k1 jk
    show ((genP D t F j).flatMap (extT D (D.ks.length - j) t)).count (topT D t (j + 1)) = 1
    generalize ep : D.ks.length - j = p at st tm
    have hp : p ≤ D.ks.length := by omega
    have lp : lenT D t j p = t + 1 := if_neg (by omega)
    have m0 := mono p hp
    refine (cnt_flat (α := Tbl) (β := Tbl) (g := extT D p t) (G := topT D t j) (a := topT D t (j + 1)) ?_ fun S hS ne => ?_).trans ih
    · refine cnt_one ?_ ?_
      · unfold extT
        refine List.nodup_iff_pairwise_ne.mpr ?_
        rw [List.pairwise_map]
        refine List.Pairwise.imp (fun {a b} hab e => ?_) (List.nodup_iff_pairwise_ne.mp List.nodup_range)
        have e2 : rowT (putT (topT D t j) p t (a : Int)) p = rowT (putT (topT D t j) p t (b : Int)) p := by rw [e]
        unfold putT at e2
        rw [rowT_set_eq (by rw [topT_len]; omega), rowT_set_eq (by rw [topT_len]; omega)] at e2
        have e3 := List.append_cancel_left e2
        injection e3 with e3
        exact hab (by omega)
      · unfold extT
        rw [tm]
        refine List.mem_map.mpr ⟨(tk D (t + 1) p - tk D t p).toNat, List.mem_range.mpr (by omega), ?_⟩
        rw [show (((tk D (t + 1) p - tk D t p).toNat : Nat) : Int) = tk D (t + 1) p - tk D t p by omega]
        exact st
    · refine List.count_eq_zero.mpr fun m => ne ?_
      unfold extT at m
      obtain ⟨x, _, e⟩ := List.mem_map.mp m
      have hS' := sh S hS
      unfold putT at e
      refine List.ext_getElem? fun q => ?_
      by_cases hq : q ≤ D.ks.length
      · have e2 : rowT (S.set p (rowT S p ++ [(rowT S p).getD t 0 + (x : Int)])) q = rowT (topT D t (j + 1)) q := by rw [e]
        rw [rowT_get (by rw [hS'.len]; omega), rowT_get (by rw [topT_len]; omega)]
        congr 1
        by_cases c : q = p
        · subst c
          rw [rowT_set_eq (by rw [hS'.len]; omega), topT_F hq, show lenT D t (j + 1) q = t + 1 + 1 from if_pos (by omega)] at e2
          rw [topT_F hq, lp]
          have e3 : topR D (t + 1 + 1) q = topR D (t + 1) q ++ [tk D (t + 1) q] := by
            unfold topR
            rw [List.range_succ, List.map_append] <;> rfl
          rw [e3] at e2
          exact (List.append_inj' e2 rfl).1
        · rw [rowT_set_ne c, topT_F hq] at e2
          rw [e2, topT_F hq]
          congr 1
          unfold lenT
          by_cases c2 : D.ks.length < q + j
          · rw [if_pos c2, if_pos (by omega)]
          · rw [if_neg c2, if_neg (by omega)]
      · rw [List.getElem?_eq_none (by rw [hS'.len]; omega), List.getElem?_eq_none (by rw [topT_len]; omega)]
theorem top_next (D : Dy) (t : Nat) : topT D t (D.ks.length + 1) = topT D (t + 1) 0 := by
  unfold topT
  refine List.map_congr_left fun p hp => ?_
  have := List.mem_range.mp hp
  congr 1
  unfold lenT
  rw [if_pos (by omega), if_neg (by omega)]
theorem top_zero (D : Dy) : topT D 0 0 = List.replicate (D.ks.length + 1) [0] := by
  refine List.eq_replicate_iff.mpr ⟨topT_len D 0 0, fun r hr => ?_⟩
  unfold topT at hr
  obtain ⟨p, hp, rfl⟩ := List.mem_map.mp hr
  have := List.mem_range.mp hp
  rw [show lenT D 0 0 p = 1 from if_neg (by omega)] <;> rfl
theorem genH_count {D : Dy} (N : DyNn D) (k1 : 1 ≤ D.ks.length) (mono : ∀ t p, p ≤ D.ks.length → tk D t p ≤ tk D (t + 1) p) : ∀ t, (genH D t).count (topT D t 0) = 1
  | 0 => by
    rw [top_zero]
    show [List.replicate (D.ks.length + 1) [(0 : Int)]].count _ = 1
    rw [List.count_cons, if_pos (by simp), List.count_nil]
  | t + 1 => by
    have := genP_count N k1 (mono t) (genH_shape k1 t) (genH_count N k1 mono t) (D.ks.length + 1) (Nat.le_refl _)
    rw [top_next] at this
    exact this
/-- there are not too many -/
theorem ext_len {D : Dy} {p t : Nat} {S : Tbl} (h : mayT D p t ≤ 2) : (extT D p t S).length ≤ 3 := by
  unfold extT
  rw [List.length_map, List.length_range]
  omega
theorem flat_len {α β : Type} {g : α → List β} {n : Nat} : ∀ {F : List α}, (∀ S ∈ F, (g S).length ≤ n) → (F.flatMap g).length ≤ F.length * n
  | [], _ => Nat.zero_le _
  | S :: F, h => by
    rw [List.flatMap_cons, List.length_append, List.length_cons, Nat.succ_mul]
    have a := h S List.mem_cons_self
    have b := flat_len (F := F) (n := n) fun S hS => h S (List.mem_cons_of_mem _ hS)
    omega
theorem mem_kt3 {D : Dy} {p : Nat} (h : p < D.ks.length) : kt D p ∈ D.ks := by
  unfold kt
  rw [List.getD_eq_getElem?_getD, List.getElem?_eq_getElem h]
  exact List.getElem_mem h
theorem csum_mono3 {D : Dy} (N : DyNn D) (t : Nat) : csum D t ≤ csum D (t + 1) := by
  unfold csum
  by_cases c : t < D.cs.length
  · rw [take_one (List.getElem?_eq_getElem c), List.sum_append, List.sum_cons, List.sum_nil]
    have := (N.cs _ (List.getElem_mem c)).1
    omega
  · rw [List.take_of_length_le (by omega), List.take_of_length_le (by omega)]
    exact Int.le_refl _
/-- a place has no less an hour later -/
theorem tk_mono3 {D : Dy} (N : DyNn D) (k1 : 1 ≤ D.ks.length) : ∀ t q p, p + q = D.ks.length → tk D t p ≤ tk D (t + 1) p := fun t => by
  induction t with
  | zero =>
    intro q p h
    rw [tk_zero]
    exact (tk_nn N 1 q p h).1
  | succ t ih =>
    intro q
    induction q with
    | zero =>
      intro p h
      have hp : p = D.ks.length := by omega
      subst hp
      have a := tk_last D t
      have b := tk_last D (t + 1)
      have c := ih 1 (D.ks.length - 1) (by omega)
      have d := (ldl_at N.ss (t + 1)).1
      omega
    | succ q ihq =>
      intro p h
      have hp : p < D.ks.length := by omega
      have a := tk_at (D := D) (t := t) hp
      have b := tk_at (D := D) (t := t + 1) hp
      have c := ihq (p + 1) (by omega)
      have k := N.ks _ (mem_kt3 hp)
      have d := (ldl_at k.2.2 (t + 1)).1
      have s := csum_mono3 N (t + 1)
      by_cases c0 : p = 0
      · rw [if_pos c0] at a b
        omega
      · rw [if_neg c0] at a b
        have e := ih (q + 2) (p - 1) (by omega)
        omega
/-! tables as data; how often one is among them -/
def tabD (S : Tbl) : PyData := .list (S.map din)
theorem dins_eqv : ∀ (a b : Tbl), PyData.eqvAll (a.map din) (b.map din) = decide (a = b)
  | [], [] => rfl
  | [], _ :: _ => rfl
  | _ :: _, [] => rfl
  | x :: a, y :: b => by
    show (PyData.eqv (din x) (din y) && PyData.eqvAll (a.map din) (b.map din)) = _
    rw [dins_eqv a b, din_eqv]
    by_cases c : x = y
    · subst c
      by_cases d : a = b
      · subst d
        simp
      · simp [d]
    · simp [c]
theorem tab_eqv (a b : Tbl) : PyData.eqv (tabD a) (tabD b) = decide (a = b) := dins_eqv a b
theorem ints_plain : ∀ ns : List Int, PyData.plainAll (ns.map PyData.int) = true
  | [] => rfl
  | _ :: r => ints_plain r
theorem dins_plain : ∀ S : Tbl, PyData.plainAll (S.map din) = true
  | [] => rfl
  | x :: r => by
    show (PyData.plain (din x) && PyData.plainAll (r.map din)) = true
    rw [dins_plain r]
    show (PyData.plainAll (x.map PyData.int) && true) = true
    rw [ints_plain x] <;> rfl
theorem tabs_plain : ∀ F : List Tbl, PyData.plainAll (F.map tabD) = true
  | [] => rfl
  | x :: r => by
    show (PyData.plainAll (x.map din) && PyData.plainAll (r.map tabD)) = true
    rw [tabs_plain r, dins_plain x] <;> rfl
theorem ints_depth : ∀ ns : List Int, PyData.depthAll (ns.map PyData.int) = 0
  | [] => rfl
  | _ :: r => by
    show max 0 (PyData.depthAll (r.map PyData.int)) = 0
    rw [ints_depth r] <;> rfl
theorem dins_depth : ∀ S : Tbl, PyData.depthAll (S.map din) ≤ 1
  | [] => by decide
  | x :: r => by
    show max (PyData.depthAll (x.map PyData.int) + 1) (PyData.depthAll (r.map din)) ≤ 1
    have := dins_depth r
    rw [ints_depth x]
    omega
def rCntD (K : PySem.W.Frag) : V → List V → Hp → VK → Prop := fun x xs H Q => ∃ (p : Addr) (vs : List V) (ds : List PyData) (y : V) (d : PyData), x = .ref p ∧ xs = [y] ∧ SqL K H p vs ∧ DpAll K H vs ds ∧ Dp K H y d ∧ PyData.plainAll ds = true ∧ PyData.plain d = true ∧ PyData.depth d ≤ 60 ∧ Q (.int ((ds.countP fun z => PyData.eqv z d : Nat) : Int)) H
theorem mt_cntD {X : Cx} {K : PySem.W.Frag} (hK : X.K = K) (hu : X.A.units + 64 < cLine) : MtR X "list.count" (rCntD K) := by
  subst hK
  intro pins s σ H x xs v us Q I rx rxs ask
  obtain ⟨p, vs, ds, y, d, rfl, rfl, hs, hd, hy, p1, p2, dd, q⟩ := ask
  cases rx
  obtain ⟨u, rfl, ru⟩ := rxs.one
  obtain ⟨its, rv, pl, hlen⟩ := I.list hs
  obtain ⟨as, rd⟩ := Dp.readsAll I ds vs _ hd rv
  obtain ⟨bs, rb⟩ := Dp.reads I d y u hy ru
  exact SeqAt.count_list_data pl.isList rd rb p1 p2 (by omega) ⟨.int _, H, I.tok _, ⟨_, rfl⟩, q⟩
theorem tab_cnt (G : Tbl) : ∀ F : List Tbl, (F.map tabD).countP (fun z => PyData.eqv z (tabD G)) = F.count G
  | [] => rfl
  | S :: F => by
    rw [List.map_cons, List.countP_cons, tab_cnt G F, List.count_cons, tab_eqv]
    rcases Classical.em (S = G) with c | c
    · rw [decide_eq_true c, if_pos rfl, if_pos (by simpa using c)]
    · rw [decide_eq_false c, if_neg Bool.false_ne_true, if_neg (by simpa using c)]
/-! where tables stand: none of their lists is f, which is written, and all were made behind H0 -/
def RwAt (H0 H : Hp) (f r : Addr) (ns : List Int) : Prop := H r = some (.lst (ns.map V.int)) ∧ r ≠ f ∧ H0 r = none
def TbAt (H0 H : Hp) (f a : Addr) (S : Tbl) : Prop := ∃ rs : List Addr, H a = some (.lst (rs.map V.ref)) ∧ a ≠ f ∧ H0 a = none ∧ Paired (RwAt H0 H f) rs S
def TbL (H0 H : Hp) (f : Addr) (as : List Addr) (F : List Tbl) : Prop := Paired (TbAt H0 H f) as F
theorem pair_map {α β : Type} {R R' : α → β → Prop} (m : ∀ a b, R a b → R' a b) {as : List α} {bs : List β} (h : Paired R as bs) : Paired R' as bs := by
  induction h with
  | nil => exact .nil
  | cons a _ ih => exact .cons (m _ _ a) ih
theorem pair_app {α β : Type} {R : α → β → Prop} {as cs : List α} {bs ds : List β} (h : Paired R as bs) (k : Paired R cs ds) : Paired R (as ++ cs) (bs ++ ds) := by
  induction h with
  | nil => exact k
  | cons a _ ih => exact .cons a ih
theorem pair_get {α β : Type} {R : α → β → Prop} : ∀ {as : List α} {bs : List β}, Paired R as bs → ∀ {i : Nat} {a : α}, as[i]? = some a → ∃ b, bs[i]? = some b ∧ R a b
  | [], _, _, i, _, e => by simp at e
  | _ :: _, _, .cons a h, 0, _, e => by cases e; exact ⟨_, rfl, a⟩
  | _ :: _, _, .cons _ h, i + 1, _, e => pair_get h (i := i) e
theorem pair_getR {α β : Type} {R : α → β → Prop} : ∀ {as : List α} {bs : List β}, Paired R as bs → ∀ {i : Nat} {b : β}, bs[i]? = some b → ∃ a, as[i]? = some a ∧ R a b
  | _, [], _, i, _, e => by simp at e
  | _, _ :: _, .cons a h, 0, _, e => by cases e; exact ⟨_, rfl, a⟩
  | _, _ :: _, .cons _ h, i + 1, _, e => pair_getR h (i := i) e
theorem pair_set {α β : Type} {R : α → β → Prop} : ∀ {as : List α} {bs : List β}, Paired R as bs → ∀ {i : Nat} {a : α} {b : β}, R a b → Paired R (as.set i a) (bs.set i b)
  | [], [], .nil, _, _, _, _ => .nil
  | _ :: _, _ :: _, .cons _ h, 0, _, _, r => .cons r h
  | _ :: _, _ :: _, .cons a h, i + 1, _, _, r => .cons a (pair_set h (i := i) r)
theorem RwAt.fr {H0 H H' : Hp} {f r : Addr} {ns : List Int} (h : RwAt H0 H f r ns) (F : Fr f H H') : RwAt H0 H' f r ns := ⟨F _ _ h.2.1 h.1, h.2⟩
theorem RwAt.to {H0 H : Hp} {f g r : Addr} {ns : List Int} (h : RwAt H0 H f r ns) (n : H g = none) : RwAt H0 H g r ns := ⟨h.1, ne_of_none h.1 n, h.2.2⟩
theorem TbAt.fr {H0 H H' : Hp} {f a : Addr} {S : Tbl} (h : TbAt H0 H f a S) (F : Fr f H H') : TbAt H0 H' f a S := by
  obtain ⟨rs, h1, h2, h0, h3⟩ := h
  exact ⟨rs, F _ _ h2 h1, h2, h0, pair_map (fun _ _ z => z.fr F) h3⟩
theorem TbAt.to {H0 H : Hp} {f g a : Addr} {S : Tbl} (h : TbAt H0 H f a S) (n : H g = none) : TbAt H0 H g a S := by
  obtain ⟨rs, h1, h2, h0, h3⟩ := h
  exact ⟨rs, h1, ne_of_none h1 n, h0, pair_map (fun _ _ z => z.to n) h3⟩
theorem TbL.fr {H0 H H' : Hp} {f : Addr} {as : List Addr} {F : List Tbl} (h : TbL H0 H f as F) (G : Fr f H H') : TbL H0 H' f as F := pair_map (fun _ _ z => z.fr G) h
theorem TbL.to {H0 H : Hp} {f g : Addr} {as : List Addr} {F : List Tbl} (h : TbL H0 H f as F) (n : H g = none) : TbL H0 H g as F := pair_map (fun _ _ z => z.to n) h
/-- none of their lists is one that was there -/
theorem TbAt.away {H0 H : Hp} {f p a : Addr} {o : HO} {S : Tbl} (hp : H0 p = some o) (h : TbAt H0 H f a S) : TbAt H0 H p a S := by
  obtain ⟨rs, h1, h2, h0, h3⟩ := h
  exact ⟨rs, h1, (ne_of_none hp h0).symm, h0, pair_map (fun _ _ z => ⟨z.1, (ne_of_none hp z.2.2).symm, z.2.2⟩) h3⟩
theorem TbL.away {H0 H : Hp} {f p : Addr} {o : HO} {as : List Addr} {F : List Tbl} (hp : H0 p = some o) (h : TbL H0 H f as F) : TbL H0 H p as F := pair_map (fun _ _ z => z.away hp) h
theorem TbAt.dp {K : PySem.W.Frag} {H0 H : Hp} {f a : Addr} {S : Tbl} (h : TbAt H0 H f a S) : Dp K H (.ref a) (tabD S) := by
  obtain ⟨rs, h1, _, _, h3⟩ := h
  refine .lst (SqL.of h1) ?_
  clear h1
  induction h3 with
  | nil => exact .nil
  | cons a _ ih => exact .cons (din_at a.1) ih
theorem TbL.dps {K : PySem.W.Frag} {H0 H : Hp} {f : Addr} {as : List Addr} {F : List Tbl} (h : TbL H0 H f as F) : DpAll K H (as.map V.ref) (F.map tabD) := by
  induction h with
  | nil => exact .nil
  | cons a _ ih => exact .cons a.dp ih
theorem tab_set {rs : List Addr} {p : Nat} {g : Addr} (h : p < rs.length) : cutV (rs.map V.ref) none (some (p : Int)) ++ [V.ref g] ++ cutV (rs.map V.ref) (some ((p : Int) + 1)) none = (rs.set p g).map V.ref := by
  rw [cut_to' (by rw [List.length_map]; omega)]
  have e : cutV (rs.map V.ref) (some ((p : Int) + 1)) none = (rs.map V.ref).drop (p + 1) := by
    unfold cutV
    rw [HT.sIx_none, show ((p : Int) + 1) = ((p + 1 : Nat) : Int) from rfl, HT.sIx_nat, List.length_map, Nat.min_eq_left (by omega), List.take_of_length_le (by rw [List.length_drop, List.length_map]; exact Nat.le_refl _)]
  rw [e, ← List.map_take, ← List.map_drop, List.set_eq_take_append_cons_drop, if_pos h, List.map_append, List.map_cons, List.append_assoc] <;> rfl
theorem rgC_down {k : Nat} (h : k ≤ 8) : RgC (k : Int) (-1) (-1) (k + 1) := by
  have : k = 0 ∨ k = 1 ∨ k = 2 ∨ k = 3 ∨ k = 4 ∨ k = 5 ∨ k = 6 ∨ k = 7 ∨ k = 8 := by omega
  refine ⟨by decide, by decide, ?_, ?_⟩
  · rcases this with e | e | e | e | e | e | e | e | e <;> subst e <;> decide
  · rcases this with e | e | e | e | e | e | e | e | e <;> subst e <;> decide
theorem mayT_le {D : Dy} {p t : Nat} (h1 : ∀ u ∈ D.ss, u ≤ 2) (h2 : ∀ k ∈ D.ks, ∀ u ∈ k.2, u ≤ 2) : mayT D p t ≤ 2 := by
  have g : ∀ ns : List Int, (∀ u ∈ ns, u ≤ 2) → ns.getD t 0 ≤ 2 := fun ns h => by
    rw [List.getD_eq_getElem?_getD]
    cases e : ns[t]? with
    | none => show (0 : Int) ≤ 2; decide
    | some u => exact h u (List.mem_of_getElem? e)
  unfold mayT
  by_cases c : p = D.ks.length
  · rw [if_pos c]
    exact g _ h1
  · rw [if_neg c]
    refine g _ fun u hu => ?_
    unfold kt at hu
    rw [List.getD_eq_getElem?_getD] at hu
    cases e : D.ks[p]? with
    | none =>
      rw [e] at hu
      exact absurd hu List.not_mem_nil
    | some k =>
      rw [e] at hu
      exact h2 k (List.mem_of_getElem? e) u hu
theorem genP_len {D : Dy} {t : Nat} {F : List Tbl} (h1 : ∀ u ∈ D.ss, u ≤ 2) (h2 : ∀ k ∈ D.ks, ∀ u ∈ k.2, u ≤ 2) : ∀ j, (genP D t F j).length ≤ F.length * 3 ^ j
  | 0 => by show F.length ≤ F.length * 1; omega
  | j + 1 => by
    have := genP_len (F := F) (t := t) h1 h2 j
    refine Nat.le_trans (flat_len (n := 3) fun S _ => ext_len (mayT_le h1 h2)) ?_
    rw [Nat.pow_succ, ← Nat.mul_assoc]
    exact Nat.mul_le_mul_right 3 this
theorem genH_len {D : Dy} (h1 : ∀ u ∈ D.ss, u ≤ 2) (h2 : ∀ k ∈ D.ks, ∀ u ∈ k.2, u ≤ 2) : ∀ t, (genH D t).length ≤ 3 ^ (t * (D.ks.length + 1))
  | 0 => by rw [Nat.zero_mul]; exact Nat.le_refl _
  | t + 1 => by
    have a := genP_len (F := genH D t) (t := t) h1 h2 (D.ks.length + 1)
    have b := genH_len h1 h2 t
    rw [Nat.succ_mul, Nat.pow_add]
    exact Nat.le_trans a (Nat.mul_le_mul_right _ b)
theorem gen_small {D : Dy} {t j : Nat} (h1 : ∀ u ∈ D.ss, u ≤ 2) (h2 : ∀ k ∈ D.ks, ∀ u ∈ k.2, u ≤ 2) (h8 : D.cs.length * (D.ks.length + 1) ≤ 8) (ht : t < D.cs.length) (hj : j ≤ D.ks.length + 1) : (genP D t (genH D t) j).length ≤ 6561 := by
  have a := genP_len (F := genH D t) (t := t) h1 h2 j
  have b := genH_len h1 h2 t
  have c : (t + 1) * (D.ks.length + 1) ≤ D.cs.length * (D.ks.length + 1) := Nat.mul_le_mul_right _ ht
  rw [Nat.succ_mul] at c
  refine Nat.le_trans a (Nat.le_trans (Nat.mul_le_mul_right _ b) ?_)
  rw [← Nat.pow_add]
  exact Nat.le_trans (Nat.pow_le_pow_right (by decide) (show t * (D.ks.length + 1) + j ≤ 8 by omega)) (by decide)
theorem csum_nn3 {D : Dy} (N : DyNn D) : ∀ t, 0 ≤ csum D t
  | 0 => by unfold csum; rw [List.take_zero, List.sum_nil]; decide
  | t + 1 => Int.le_trans (csum_nn3 N t) (csum_mono3 N t)
theorem most_lo {D : Dy} {t j : Nat} {S : Tbl} (N : DyNn D) (h2 : t < 48) (h : Shape D t j S) (hj : j ≤ D.ks.length) : -100000000 ≤ mostT D S (D.ks.length - j) t := by
  generalize ep : D.ks.length - j = p
  have hp : p ≤ D.ks.length := by omega
  have lp : lenT D t j p = t + 1 := if_neg (by omega)
  have a := (h.val p t hp (by omega)).2
  have b := (tk_nn N t (D.ks.length - p) p (by omega)).2
  have f0 : 0 ≤ firstT D S p t := by
    unfold firstT
    by_cases c : p = 0
    · rw [if_pos c]
      exact csum_nn3 N _
    · rw [if_neg c]
      exact (h.val (p - 1) t (by omega) (by unfold lenT; split <;> omega)).1
  unfold mostT
  by_cases c : p < D.ks.length
  · rw [if_pos c]
    have g := (h.val (p + 1) (t + 1) (by omega) (by unfold lenT; rw [if_pos (by omega)]; omega)).1
    have k := (N.ks _ (mem_kt3 c)).1
    omega
  · rw [if_neg c]
    omega
theorem may_nn {D : Dy} {p t : Nat} (N : DyNn D) (hp : p ≤ D.ks.length) : 0 ≤ mayT D p t := by
  unfold mayT
  by_cases c : p = D.ks.length
  · rw [if_pos c]
    exact (ldl_at N.ss t).1
  · rw [if_neg c]
    exact (ldl_at (N.ks _ (mem_kt3 (by omega))).2.2 t).1
theorem ext_get {D : Dy} {p t q : Nat} {S : Tbl} (h : q < (min (mostT D S p t) (mayT D p t) + 1).toNat) : (extT D p t S)[q]? = some (putT S p t (q : Int)) := by
  unfold extT
  rw [List.getElem?_map, List.getElem?_range h] <;> rfl
theorem ext_all {D : Dy} {p t : Nat} {S : Tbl} : (extT D p t S).take (min (mostT D S p t) (mayT D p t) + 1).toNat = extT D p t S := by
  refine List.take_of_length_le ?_
  unfold extT
  rw [List.length_map, List.length_range]
  exact Nat.le_refl _
theorem mono3 {D : Dy} (O : DyOk D) (N : DyNn D) : ∀ t p, p ≤ D.ks.length → tk D t p ≤ tk D (t + 1) p := fun t p hp => tk_mono3 N O.k1 t (D.ks.length - p) p (by omega)
theorem len_end {D : Dy} {n p : Nat} (hp : p ≤ D.ks.length) : lenT D n 0 p = n + 1 := if_neg (by omega)
theorem topT_end {D : Dy} {n p : Nat} (hp : p ≤ D.ks.length) : (topT D n 0)[p]? = some (topR D (n + 1) p) := by
  rw [topT_at hp, len_end hp]
theorem topR_take {D : Dy} {n p u : Nat} (h : u < n) : (topR D n p)[u]? = some (tk D u p) := by
  unfold topR
  rw [List.getElem?_map, List.getElem?_range h] <;> rfl
/-- the most of all plans is what the greatest has -/
theorem gen_max {D : Dy} (O : DyOk D) (N : DyNn D) {n p u : Nat} {m : Int} (hp : p ≤ D.ks.length) (hu : u ≤ n) (h1 : m ∈ (genH D n).map fun S => (rowT S p).getD u 0) (h2 : ∀ y ∈ (genH D n).map (fun S => (rowT S p).getD u 0), y ≤ m) : m = tk D u p := by
  obtain ⟨S, hS, rfl⟩ := List.mem_map.mp h1
  have a := ((genH_shape O.k1 n S hS).val p u hp (by rw [len_end hp]; omega)).2
  have c := genH_count N O.k1 (mono3 O N) n
  have mt : topT D n 0 ∈ genH D n := List.count_pos_iff.mp (by omega)
  have b := h2 _ (List.mem_map.mpr ⟨_, mt, rfl⟩)
  rw [rowT_at (topT_end hp), topR_get (by omega)] at b
  omega
theorem tab_deep (S : Tbl) : PyData.depth (tabD S) ≤ 60 := by
  show PyData.depthAll (S.map din) + 1 ≤ 60
  have := dins_depth S
  omega
theorem rws_dp {K : PySem.W.Frag} {H0 H : Hp} {f : Addr} {rs : List Addr} {S : Tbl} (h : Paired (RwAt H0 H f) rs S) : DpAll K H (rs.map V.ref) (S.map din) := by
  induction h with
  | nil => exact .nil
  | cons a _ ih => exact .cons (din_at a.1) ih
end KR
/-! ### plans that grow number by number -/
namespace KR
open PySem PySem.Spec PyProof.Rows L2
def appF (g : Nat → List Int) (pl : Nat) (v : Int) : Nat → List Int := fun q => if q = pl then g q ++ [v] else g q
theorem appF_ne {g : Nat → List Int} {pl q : Nat} {v : Int} (h : q ≠ pl) : appF g pl v q = g q := if_neg h
theorem appF_eq {g : Nat → List Int} {pl : Nat} {v : Int} : appF g pl v pl = g pl ++ [v] := if_pos rfl
theorem PS_ne {g : Nat → List Int} {pl q u : Nat} {v : Int} (h : q ≠ pl) : PS (appF g pl v) q u = PS g q u := by
  unfold PS
  rw [appF_ne h]
theorem PS_le {g : Nat → List Int} {pl q u : Nat} {v : Int} (h : u ≤ (g q).length) : PS (appF g pl v) q u = PS g q u := by
  by_cases c : q = pl
  · subst c
    unfold PS
    rw [appF_eq, List.take_append_of_le_length h]
  · exact PS_ne c
theorem PX_ne {g : Nat → List Int} {pl q u : Nat} {v : Int} (h : q ≠ pl) : PX (appF g pl v) q u = PX g q u := by
  unfold PX
  rw [appF_ne h]
theorem PX_lt {g : Nat → List Int} {pl q u : Nat} {v : Int} (h : u < (g q).length) : PX (appF g pl v) q u = PX g q u := by
  by_cases c : q = pl
  · subst c
    unfold PX
    rw [appF_eq, List.getD_eq_getElem?_getD, List.getElem?_append_left h, ← List.getD_eq_getElem?_getD]
  · exact PX_ne c
theorem PX_new {g : Nat → List Int} {pl t : Nat} {v : Int} (h : (g pl).length = t) : PX (appF g pl v) pl t = v := by
  unfold PX
  rw [appF_eq, List.getD_eq_getElem?_getD, List.getElem?_append_right (by omega), h, Nat.sub_self] <;> rfl
theorem PS_new {g : Nat → List Int} {pl t : Nat} {v : Int} (h : (g pl).length = t) : PS (appF g pl v) pl (t + 1) = PS g pl t + v := by
  rw [PS_succ (by rw [appF_eq, List.length_append]; show t < (g pl).length + 1; omega), PX_new h, PS_le (by omega)]
/-- what was so stays so -/
theorem PlAt.app {D : Dy} {g : Nat → List Int} {pl p t : Nat} {v : Int} (hp : p ≤ D.ks.length) (h : PlAt D g p t) (l1 : t + 1 ≤ (g p).length) (l2 : ∀ q, q ≤ D.ks.length → t ≤ (g q).length) (l3 : p < D.ks.length → t + 1 ≤ (g (p + 1)).length) : PlAt D (appF g pl v) p t := by
  obtain ⟨h1, h2, h3⟩ := h
  refine ⟨?_, ?_, fun lt => ?_⟩
  · rw [PS_le l1]
    by_cases c : p = 0
    · rw [if_pos c] at h1 ⊢
      exact h1
    · rw [if_neg c] at h1 ⊢
      rw [PS_le (l2 (p - 1) (by omega))]
      exact h1
  · rw [PX_lt (by omega)]
    exact h2
  · rw [PS_le l1, PS_le (l3 lt)]
    exact h3 lt
/-- no place has more than the one ahead of it, each has room for what it holds -/
theorem PS_mono {g : Nat → List Int} {q t : Nat} (nn : ∀ z ∈ g q, 0 ≤ z) : PS g q t ≤ PS g q (t + 1) := by
  by_cases c : t < (g q).length
  · rw [PS_succ c]
    have : 0 ≤ PX g q t := by
      unfold PX
      rw [List.getD_eq_getElem?_getD, List.getElem?_eq_getElem c]
      exact nn _ (List.getElem_mem c)
    omega
  · unfold PS
    rw [List.take_of_length_le (by omega), List.take_of_length_le (by omega)]
    exact Int.le_refl _
theorem held_nn {D : Dy} {g : Nat → List Int} {p t : Nat} (nn : ∀ q, q ≤ D.ks.length → ∀ z ∈ g q, 0 ≤ z) (hp : p < D.ks.length) (done : ∀ pl t', pl ≤ D.ks.length → t' < t → PlAt D g pl t') : PS g (p + 1) t ≤ PS g p t := by
  cases t with
  | zero => rw [PS_zero, PS_zero]; exact Int.le_refl _
  | succ t =>
    have h := (done (p + 1) t (by omega) (Nat.lt_succ_self _)).1
    rw [if_neg (by omega), show p + 1 - 1 = p by omega] at h
    have := PS_mono (t := t) (nn p (by omega))
    omega
theorem held_room {D : Dy} {g : Nat → List Int} {p t : Nat} (hp : p < D.ks.length) (r0 : 0 ≤ (kt D p).1) (done : ∀ pl t', pl ≤ D.ks.length → t' < t → PlAt D g pl t') : PS g p t ≤ PS g (p + 1) t + (kt D p).1 := by
  cases t with
  | zero => rw [PS_zero, PS_zero]; omega
  | succ t => exact (done p t (by omega) (Nat.lt_succ_self _)).2.2 hp
theorem wait_nn {D : Dy} {g : Nat → List Int} {t : Nat} (done : ∀ pl t', pl ≤ D.ks.length → t' < t → PlAt D g pl t') : PS g 0 t ≤ csum D t := by
  cases t with
  | zero =>
    rw [PS_zero]
    show (0 : Int) ≤ (D.cs.take 0).sum
    rw [List.take_zero] <;> exact Int.le_refl _
  | succ t =>
    have h := (done 0 t (Nat.zero_le _) (Nat.lt_succ_self _)).1
    rw [if_pos rfl] at h
    exact h
/-- what is held within an hour, behind so many places from the last one on -/
def heldW (D : Dy) (g : Nat → List Int) (t j : Nat) : List Int := (List.range D.ks.length).map fun p => if D.ks.length < p + j then PS g p (t + 1) - PS g (p + 1) (t + 1) else PS g p t - PS g (p + 1) t
theorem heldW_len (D : Dy) (g : Nat → List Int) (t j : Nat) : (heldW D g t j).length = D.ks.length := by
  unfold heldW
  rw [List.length_map, List.length_range]
theorem heldW_at {D : Dy} {g : Nat → List Int} {t j p : Nat} (h : p < D.ks.length) : (heldW D g t j)[p]? = some (if D.ks.length < p + j then PS g p (t + 1) - PS g (p + 1) (t + 1) else PS g p t - PS g (p + 1) t) := by
  unfold heldW
  rw [List.getElem?_map, List.getElem?_range h] <;> rfl
def heldV (D : Dy) (g : Nat → List Int) (t : Nat) : List Int := (List.range D.ks.length).map fun p => PS g p t - PS g (p + 1) t
theorem heldV_len (D : Dy) (g : Nat → List Int) (t : Nat) : (heldV D g t).length = D.ks.length := by
  unfold heldV
  rw [List.length_map, List.length_range]
theorem heldV_at {D : Dy} {g : Nat → List Int} {t p : Nat} (h : p < D.ks.length) : (heldV D g t)[p]? = some (PS g p t - PS g (p + 1) t) := by
  unfold heldV
  rw [List.getElem?_map, List.getElem?_range h] <;> rfl
theorem heldV_zero (D : Dy) (g : Nat → List Int) : heldV D g 0 = List.replicate D.ks.length 0 := by
  refine List.eq_replicate_iff.mpr ⟨heldV_len D g 0, fun z hz => ?_⟩
  unfold heldV at hz
  obtain ⟨p, _, rfl⟩ := List.mem_map.mp hz
  show PS g p 0 - PS g (p + 1) 0 = 0
  rw [PS_zero, PS_zero] <;> rfl
theorem heldW_zero (D : Dy) (g : Nat → List Int) (t : Nat) : heldW D g t 0 = heldV D g t := by
  unfold heldW heldV
  exact List.map_congr_left fun p hp => if_neg (by have := List.mem_range.mp hp; omega)
theorem heldW_all (D : Dy) (g : Nat → List Int) (t : Nat) : heldW D g t (D.ks.length + 1) = heldV D g (t + 1) := by
  unfold heldW heldV
  exact List.map_congr_left fun p hp => if_pos (by omega)
theorem heldV_app {D : Dy} {g : Nat → List Int} {pl t : Nat} {v : Int} (l : ∀ q, q ≤ D.ks.length → t ≤ (g q).length) : heldV D (appF g pl v) t = heldV D g t := by
  unfold heldV
  refine List.map_congr_left fun p hp => ?_
  have := List.mem_range.mp hp
  rw [PS_le (l p (by omega)), PS_le (l (p + 1) (by omega))]
/-- the place that is next -/
theorem heldW_app {D : Dy} {g : Nat → List Int} {pl t j : Nat} {v : Int} (hj : pl + j = D.ks.length) (l : ∀ q, q ≤ D.ks.length → (g q).length = if D.ks.length < q + j then t + 1 else t) :
    heldW D (appF g pl v) t (j + 1) = if pl < D.ks.length then (heldW D g t j).set pl (PS g pl t + v - PS g (pl + 1) (t + 1)) else heldW D g t j := by
  refine List.ext_getElem? fun i => ?_
  by_cases hi : i < D.ks.length
  · rw [heldW_at hi]
    by_cases c : i = pl
    · subst c
      rw [if_pos (show D.ks.length < i + (j + 1) by omega), if_pos hi, List.getElem?_set, if_pos rfl, if_pos (by rw [heldW_len]; exact hi), PS_new (by rw [l i (by omega), if_neg (by omega)]), PS_ne (by omega)]
    · have e : (if pl < D.ks.length then (heldW D g t j).set pl (PS g pl t + v - PS g (pl + 1) (t + 1)) else heldW D g t j)[i]? = (heldW D g t j)[i]? := by
        split
        · rw [List.getElem?_set, if_neg (fun z => c z.symm)]
        · rfl
      rw [e, heldW_at hi]
      by_cases c2 : D.ks.length < i + j
      · rw [if_pos c2, if_pos (by omega), PS_ne (show i ≠ pl by omega), PS_ne (show i + 1 ≠ pl by omega)]
      · rw [if_neg c2, if_neg (by omega), PS_ne (show i ≠ pl by omega), PS_le (by rw [l (i + 1) (by omega)]; split <;> omega)]
  · have e : (if pl < D.ks.length then (heldW D g t j).set pl (PS g pl t + v - PS g (pl + 1) (t + 1)) else heldW D g t j).length = D.ks.length := by
      split
      · rw [List.length_set, heldW_len]
      · rw [heldW_len]
    rw [List.getElem?_eq_none (by rw [heldW_len]; omega), List.getElem?_eq_none (by rw [e]; omega)]
/-- its rows -/
def RowsH (H H0 : Hp) (p l g : Addr) (rs : List Addr) (f : Nat → List Int) : Prop := ∀ (q : Nat) (r : Addr), rs[q]? = some r → H r = some (.lst ((f q).map V.int)) ∧ H0 r = none ∧ r ≠ p ∧ r ≠ l ∧ r ≠ g
theorem RowsH.same {H H' H0 : Hp} {p l g : Addr} {rs : List Addr} {f : Nat → List Int} (h : RowsH H H0 p l g rs f) (s : Same H H') : RowsH H' H0 p l g rs f := fun q r e => ⟨s _ _ (h q r e).1, (h q r e).2⟩
theorem RowsH.fr {H H' H0 : Hp} {p l g : Addr} {rs : List Addr} {f : Nat → List Int} (h : RowsH H H0 p l g rs f) (F : Fr p H H') : RowsH H' H0 p l g rs f := fun q r e => ⟨F _ _ (h q r e).2.2.1 (h q r e).1, (h q r e).2⟩
theorem RowsH.put {H H0 : Hp} {p l g : Addr} {rs : List Addr} {f : Nat → List Int} {o : HO} (h : RowsH H H0 p l g rs f) : RowsH (upd H l o) H0 p l g rs f := fun q r e => ⟨by rw [upd_ne (h q r e).2.2.2.1]; exact (h q r e).1, (h q r e).2⟩
theorem RowsH.row {H H0 : Hp} {p l g : Addr} {rs : List Addr} {f : Nat → List Int} {i : Nat} {r : Addr} {v : Int} (h : RowsH H H0 p l g rs f) (nd : rs.Nodup) (e : rs[i]? = some r) : RowsH (upd H r (.lst ((f i).map V.int ++ [.int v]))) H0 p l g rs (appF f i v) := fun q r' e' => by
  by_cases c : q = i
  · subst c
    rw [e] at e'
    cases e'
    exact ⟨by rw [upd_same, appF_eq, List.map_append] <;> rfl, (h q r e).2⟩
  · have ne : r' ≠ r := fun z => by
      rw [z, ← e] at e'
      exact c ((List.getElem?_inj (List.getElem?_eq_some_iff.mp (e'.trans e)).1 nd).mp e')
    exact ⟨by rw [upd_ne ne, appF_ne c]; exact (h q r' e').1, (h q r' e').2⟩
theorem csum_stepW {D : Dy} {t : Nat} (h : t < D.cs.length) : csum D (t + 1) = csum D t + D.cs.getD t 0 := by
  unfold csum
  rw [take_one (List.getElem?_eq_getElem h), List.sum_append, List.getD_eq_getElem?_getD, List.getElem?_eq_getElem h, List.sum_cons, List.sum_nil]
  show _ + (D.cs[t] + 0) = _ + D.cs[t]
  omega
end KR
/-! ### any thing walked as a paper -/
namespace KR
open PySem PySem.Spec PyProof.Rows L2
/-- the bound of a word there -/
def stepP (D : Dy) (p t : Nat) (w : Str) : Option Bd := (bnds D p t).find? fun b => decide (b.word = w)
theorem stepP_mem {D : Dy} {p t : Nat} {b : Bd} (m : b ∈ bnds D p t) : stepP D p t b.word = some b := by
  have nd := bnds_words D p t
  unfold stepP
  generalize bnds D p t = bs at m nd
  induction bs with
  | nil => exact absurd m List.not_mem_nil
  | cons c bs ih =>
    rw [List.map_cons] at nd
    obtain ⟨n1, n2⟩ := List.nodup_cons.mp nd
    rcases List.mem_cons.mp m with e | m
    · rw [← e, List.find?_cons_of_pos (by simp)]
    · rw [List.find?_cons_of_neg (by
        simp only [decide_eq_true_eq]
        exact fun e => n1 (e ▸ List.mem_map.mpr ⟨b, m, rfl⟩))]
      exact ih m n2
theorem stepP_some {D : Dy} {p t : Nat} {w : Str} {b : Bd} (h : stepP D p t w = some b) : b ∈ bnds D p t ∧ b.word = w :=
  ⟨List.mem_of_find?_eq_some h, by simpa using List.find?_some h⟩
theorem stepP_none {D : Dy} {p t : Nat} {w : Str} (h : stepP D p t w = none) : ∀ b ∈ bnds D p t, b.word ≠ w := fun b m e => by
  have := List.find?_eq_none.mp h b m
  simp [e] at this
theorem AllBd.no {H : Hp} {w : Str} : ∀ {kvs : List (Key × V)} {bs : List Bd}, AllBd H kvs bs → (∀ b ∈ bs, b.word ≠ w) → valV kvs (.inr w : Key) = none
  | _, _, .nil, _ => rfl
  | (k, v) :: kvs, c :: bs, .cons h t, ne => by
    have hk : k = .inr c.word := h.1
    have n1 := ne c List.mem_cons_self
    have ih := AllBd.no t fun b m => ne b (List.mem_cons_of_mem _ m)
    unfold valV at ih ⊢
    rw [List.find?_cons_of_neg (by
      rw [hk]
      simp only [decide_eq_true_eq]
      exact fun e => n1 (Sum.inr.inj e))]
    exact ih
/-- what a bound leads to lies within the day -/
theorem lead_in {D : Dy} {p t : Nat} (hp : p ≤ D.ks.length) {b : Bd} (m : b ∈ bnds D p t) {y : Int × Int} (h : b.lead = some y) : ∃ p' t' : Nat, y = ((p' : Int), (t' : Int) - 1) ∧ p' ≤ D.ks.length ∧ t' ≤ t := by
  cases t with
  | zero => rw [List.mem_singleton.mp m] at h; cases h
  | succ t =>
    have hm : b = firstB D p t ∨ b.lead = some ((p : Int), (t : Int) - 1) ∨ (p < D.ks.length ∧ b.lead = some ((p : Int) + 1, (t : Int))) := by
      by_cases c : p = D.ks.length
      · rw [show bnds D p (t + 1) = [firstB D p t, ⟨"takes", some ((p : Int), (t : Int) - 1), D.ss.getD t 0⟩] from if_pos c] at m
        rcases List.mem_cons.mp m with z | z
        · exact .inl z
        · exact .inr (.inl (by rw [List.mem_singleton.mp z] <;> rfl))
      · rw [show bnds D p (t + 1) = [firstB D p t, ⟨"takes", some ((p : Int), (t : Int) - 1), (kt D p).2.getD t 0⟩, ⟨"room", some ((p : Int) + 1, (t : Int)), (kt D p).1⟩] from if_neg c] at m
        rcases List.mem_cons.mp m with z | z
        · exact .inl z
        · rcases List.mem_cons.mp z with z | z
          · exact .inr (.inl (by rw [z] <;> rfl))
          · exact .inr (.inr ⟨by omega, by rw [List.mem_singleton.mp z] <;> rfl⟩)
    rcases hm with z | z | ⟨lt, z⟩
    · rw [z] at h
      unfold firstB at h
      split at h
      · cases h
      · cases h
        exact ⟨p - 1, t, by rw [show ((p - 1 : Nat) : Int) = (p : Int) - 1 by omega], by omega, by omega⟩
    · rw [z] at h
      cases h
      exact ⟨p, t, rfl, hp, by omega⟩
    · rw [z] at h
      cases h
      exact ⟨p + 1, t + 1, by rw [show ((p + 1 : Nat) : Int) = (p : Int) + 1 by omega, show ((t + 1 : Nat) : Int) - 1 = (t : Int) by omega], by omega, by omega⟩
/-- the word of a thing that is a bound of a place and an hour -/
def bdW (p h : Int) : PyData → Option Str
  | .tuple [.str w, .int a, .int b] => if a = p ∧ b = h then some w else none
  | _ => none
theorem bdW_no {p h : Int} {a b c : PyData} (n : isS a = false ∨ isI b = false ∨ isI c = false) : bdW p h (.tuple [a, b, c]) = none := by
  rcases n with n | n | n
  · cases a <;> first | rfl | exact nomatch n
  · cases a <;> first | rfl | (cases b <;> first | rfl | exact nomatch n)
  · cases a <;> first | rfl | (cases b <;> first | rfl | (cases c <;> first | rfl | exact nomatch n))
theorem bdW_len {p h : Int} {ds : List PyData} (n : ds.length ≠ 3) : bdW p h (.tuple ds) = none := by
  match ds, n with
  | [], _ => rfl
  | [a], _ => cases a <;> rfl
  | [a, b], _ => cases a <;> first | rfl | (cases b <;> rfl)
  | [a, b, c], n => exact absurd rfl n
  | a :: b :: c :: e :: r, _ => cases a <;> first | rfl | (cases b <;> first | rfl | (cases c <;> rfl))
theorem bdW_T {p h : Int} {d : PyData} (n : isT d = false) : bdW p h d = none := by
  cases d <;> first | rfl | exact nomatch n
theorem three {K : PySem.W.Frag} {Av : Addr → Prop} {H : Hp} {B n : Nat} {xs : List V} {ds : List PyData} (t : TgAll K Av H B n xs ds) (l : xs.length = 3) : ∃ x1 x2 x3 d1 d2 d3, xs = [x1, x2, x3] ∧ ds = [d1, d2, d3] ∧ Tg K Av H B n x1 d1 ∧ Tg K Av H B n x2 d2 ∧ Tg K Av H B n x3 d3 := by
  match xs, ds, t, l with
  | [a, b, c], [d, e, f], t, _ => exact ⟨a, b, c, d, e, f, rfl, rfl, t.tail.1, t.tail.2.tail.1, t.tail.2.tail.2.tail.1⟩
  | [a, b, c], [], t, _ => exact nomatch t.1
  | [a, b, c], [d], t, _ => exact nomatch t.1
  | [a, b, c], [d, e], t, _ => exact nomatch t.1
  | [a, b, c], d :: e :: f :: g :: r, t, _ => exact nomatch t.1
/-- whether things walk on from a lead to so many -/
def walkP (D : Dy) (m : Int) : Option (Int × Int) → Int → List PyData → Bool
  | l, to, [] => l.isNone && decide (to = m)
  | none, _, _ :: _ => false
  | some (p, h), to, d :: ds => match bdW p h d with
    | none => false
    | some w => match stepP D p.toNat (h + 1).toNat w with
      | none => false
      | some b => walkP D m b.lead (to + b.more) ds
theorem walkP_cons {D : Dy} {m p h to : Int} {d : PyData} {ds : List PyData} : walkP D m (some (p, h)) to (d :: ds) = (match bdW p h d with
    | none => false
    | some w => match stepP D p.toNat (h + 1).toNat w with
      | none => false
      | some b => walkP D m b.lead (to + b.more) ds) := by
  conv => lhs; unfold walkP
def isPap (D : Dy) (m : Int) : PyData → Bool
  | .list ds => walkP D m (some ((D.ks.length : Int), (D.cs.length : Int) - 1)) 0 ds
  | _ => false
theorem Chain.walks {D : Dy} {p t : Nat} {l : List (Str × Nat × Nat)} {m : Int} (c : Chain D p t l m) : ∀ to : Int, walkP D (m + to) (some ((p : Int), (t : Int) - 1)) to (l.map dpB) = true := by
  have hd : ∀ {p t : Nat} {b : Bd} {M to : Int} {ds : List PyData}, b ∈ bnds D p t → walkP D M (some ((p : Int), (t : Int) - 1)) to (dpB (b.word, p, t) :: ds) = walkP D M b.lead (to + b.more) ds := fun {p t b M to ds} mb => by
    have e1 : bdW (p : Int) ((t : Int) - 1) (dpB (b.word, p, t)) = some b.word := if_pos ⟨rfl, rfl⟩
    have e2 : stepP D ((p : Int)).toNat ((t : Int) - 1 + 1).toNat b.word = some b := by
      rw [Int.toNat_natCast, show ((t : Int) - 1 + 1).toNat = t by omega]
      exact stepP_mem mb
    rw [walkP_cons]
    simp only [e1, e2]
  induction c with
  | last mb nl =>
    intro to
    rename_i b
    rw [List.map_cons, hd mb, nl, List.map_nil]
    show (true && decide (to + b.more = b.more + to)) = true
    rw [decide_eq_true (by omega)] <;> rfl
  | step mb sl pk tt c ih =>
    intro to
    rename_i b l' m'
    rw [List.map_cons, hd mb, sl]
    have := ih (to + b.more)
    rw [show m' + (to + b.more) = m' + b.more + to by omega] at this
    exact this
theorem Chain.pap {D : Dy} {l : List (Str × Nat × Nat)} {m : Int} (c : Chain D D.ks.length D.cs.length l m) : isPap D m (dpP l) = true := by
  have := c.walks 0
  rw [Int.add_zero] at this
  exact this
/-- papers as things -/
theorem bnds_word {D : Dy} {p t : Nat} {b : Bd} (m : b ∈ bnds D p t) : b.word = "begin" ∨ b.word = "comes" ∨ b.word = "ahead" ∨ b.word = "takes" ∨ b.word = "room" := by
  have f1 : ∀ q, (firstB D p q).word = "comes" ∨ (firstB D p q).word = "ahead" := fun q => by
    unfold firstB
    split
    · exact .inl rfl
    · exact .inr rfl
  cases t with
  | zero => exact .inl (by rw [List.mem_singleton.mp m] <;> rfl)
  | succ t =>
    have hm : b = firstB D p t ∨ b.word = "takes" ∨ b.word = "room" := by
      by_cases c : p = D.ks.length
      · rw [show bnds D p (t + 1) = [firstB D p t, ⟨"takes", some ((p : Int), (t : Int) - 1), D.ss.getD t 0⟩] from if_pos c] at m
        rcases List.mem_cons.mp m with z | z
        · exact .inl z
        · exact .inr (.inl (by rw [List.mem_singleton.mp z] <;> rfl))
      · rw [show bnds D p (t + 1) = [firstB D p t, ⟨"takes", some ((p : Int), (t : Int) - 1), (kt D p).2.getD t 0⟩, ⟨"room", some ((p : Int) + 1, (t : Int)), (kt D p).1⟩] from if_neg c] at m
        rcases List.mem_cons.mp m with z | z
        · exact .inl z
        · rcases List.mem_cons.mp z with z | z
          · exact .inr (.inl (by rw [z] <;> rfl))
          · exact .inr (.inr (by rw [List.mem_singleton.mp z] <;> rfl))
    rcases hm with z | z | z
    · rw [z]
      rcases f1 t with y | y
      · exact .inr (.inl y)
      · exact .inr (.inr (.inl y))
    · exact .inr (.inr (.inr (.inl z)))
    · exact .inr (.inr (.inr (.inr z)))
def smallE (e : Str × Nat × Nat) : Prop := (e.1.length ≤ 10 ∧ (∀ c ∈ TL.tl e.1, c < 128) ∧ PyData.weight (.str e.1) ≤ 10) ∧ e.2.1 ≤ 100 ∧ e.2.2 ≤ 100
theorem Chain.small {D : Dy} {p t : Nat} {l : List (Str × Nat × Nat)} {m : Int} (c : Chain D p t l m) (hp : p ≤ 100) (hk : D.ks.length ≤ 100) (ht : t ≤ 100) : ∀ e ∈ l, smallE e := by
  have one : ∀ {p t : Nat} {b : Bd}, b ∈ bnds D p t → p ≤ 100 → t ≤ 100 → smallE (b.word, p, t) := fun {p t b} mb h1 h2 => by
    refine ⟨?_, h1, h2⟩
    show b.word.length ≤ 10 ∧ (∀ c ∈ TL.tl b.word, c < 128) ∧ PyData.weight (.str b.word) ≤ 10
    rcases bnds_word mb with e | e | e | e | e <;> rw [e] <;> exact ⟨by decide +kernel, by decide +kernel, by decide +kernel⟩
  induction c with
  | last mb nl =>
    intro e he
    rw [List.mem_singleton.mp he]
    exact one mb hp ht
  | step mb sl pk tt c ih =>
    intro e he
    rcases List.mem_cons.mp he with z | z
    · rw [z]
      exact one mb hp ht
    · exact ih (by omega) (by omega) e z
theorem Chain.pos {D : Dy} {p t : Nat} {l : List (Str × Nat × Nat)} {m : Int} (c : Chain D p t l m) : 1 ≤ l.length := by
  cases c <;> (rw [List.length_cons]; omega)
theorem wt7 {i : Int} (h : i.natAbs < 2 ^ 7) : PyData.weight (.int i) ≤ 7 := by
  show (if i == 0 then 0 else i.natAbs.log2 + 1) ≤ 7
  by_cases c : i = 0
  · rw [c]
    decide
  · rw [if_neg (by simpa using c)]
    have := (Nat.log2_lt (show i.natAbs ≠ 0 by omega)).mpr h
    omega
theorem PaperAt.fr {H H' : Hp} {p : Addr} {n : Nat} {rs : List Addr} {l : List (Str × Nat × Nat)} (h : PaperAt H rs l) (B : BoxAt H p n) (F : Fr p H H') : PaperAt H' rs l := ⟨h.1, fun j r e a b => F _ _ (B.ne (h.2 j r e a b)) (h.2 j r e a b)⟩
theorem wt_small {e : Str × Nat × Nat} (s : smallE e) : PyData.weight (dpB e) ≤ 31 := by
  obtain ⟨⟨_, _, w⟩, h1, h2⟩ := s
  have g : ∀ i : Int, i.natAbs < 2 ^ 7 → PyData.weight (.int i) ≤ 7 := fun i h => by
    show (if i == 0 then 0 else i.natAbs.log2 + 1) ≤ 7
    by_cases c : i = 0
    · rw [c]
      decide
    · rw [if_neg (by simpa using c)]
      have := (Nat.log2_lt (show i.natAbs ≠ 0 by omega)).mpr h
      omega
  have a := g (e.2.1 : Int) (by omega)
  have b := g ((e.2.2 : Int) - 1) (by omega)
  show PyData.weight (.str e.1) + 1 + (PyData.weight (.int (e.2.1 : Int)) + 1 + (PyData.weight (.int ((e.2.2 : Int) - 1)) + 1 + 0)) ≤ 31
  omega
theorem papTg {K : PySem.W.Frag} {Av : Addr → Prop} {H : Hp} {rs : List Addr} {l : List (Str × Nat × Nat)} (h : PaperAt H rs l) (s : ∀ e ∈ l, smallE e) : TgAll K Av H 1000000 1 (rs.map V.ref) (l.map dpB) := by
  refine ⟨by rw [List.length_map, List.length_map, h.1], fun i x d e1 e2 => ?_⟩
  rw [List.getElem?_map] at e1 e2
  obtain ⟨r, er, rfl⟩ := Option.map_eq_some_iff.mp e1
  obtain ⟨e, ee, rfl⟩ := Option.map_eq_some_iff.mp e2
  have hr := h.2 i r e er ee
  obtain ⟨⟨l1, c1, w1⟩, h1, h2⟩ := s e (List.mem_of_getElem? ee)
  exact .tup (SqT.of hr) rfl (TgAll.cons (.str _ _ 0 l1 c1) (.cons (.int _ _ (by omega)) (.cons (.int _ _ (by omega)) .nil))).2
theorem wa_pap : ∀ {l : List (Str × Nat × Nat)}, (∀ e ∈ l, smallE e) → PyData.weightAll (l.map dpB) ≤ 32 * l.length
  | [], _ => Nat.zero_le _
  | e :: l, s => by
    have a := wt_small (s e List.mem_cons_self)
    have b := wa_pap (l := l) fun e h => s e (List.mem_cons_of_mem _ h)
    rw [List.map_cons, List.length_cons]
    show PyData.weight (dpB e) + 1 + PyData.weightAll (l.map dpB) ≤ _
    omega
end KR
/-! ### days with one more of all at a place -/
namespace KR
open PySem PySem.Spec PyProof.Rows L2
/-- a day with one more of all at a place -/
def widerD (D : Dy) (p : Nat) : Dy := if p = D.ks.length then ⟨D.cs, D.ks, D.ss.map (· + 1)⟩ else ⟨D.cs, D.ks.set p ((kt D p).1 + 1, (kt D p).2.map (· + 1)), D.ss⟩
theorem wider_cs (D : Dy) (p : Nat) : (widerD D p).cs = D.cs := by
  unfold widerD
  split <;> rfl
theorem wider_kl (D : Dy) (p : Nat) : (widerD D p).ks.length = D.ks.length := by
  unfold widerD
  split
  · rfl
  · exact List.length_set
theorem wider_ok {D : Dy} (O : DyOk D) {p : Nat} (hp : p ≤ D.ks.length) : DyOk (widerD D p) := by
  refine ⟨by rw [wider_cs]; exact O.h1, by rw [wider_cs]; exact O.h2, by rw [wider_kl]; exact O.k1, by rw [wider_kl]; exact O.k2, fun k hk => ?_, ?_⟩
  · rw [wider_cs]
    unfold widerD at hk
    split at hk
    · exact O.ts k hk
    · rcases List.mem_or_eq_of_mem_set hk with h | h
      · exact O.ts k h
      · rw [h]
        show ((kt D p).2.map (· + 1)).length = _
        rw [List.length_map]
        exact kt_len O (by omega)
  · rw [wider_cs]
    unfold widerD
    split
    · show (D.ss.map (· + 1)).length = _
      rw [List.length_map]
      exact O.sl
    · exact O.sl
/-- the places that bind -/
def bindL (D : Dy) : List Nat := (List.range (D.ks.length + 1)).filter fun p => decide (mostD D < mostD (widerD D p))
def bindI (D : Dy) : List Int := (bindL D).map fun p : Nat => (p : Int)
theorem csum_up {D : Dy} (nn : ∀ z ∈ D.cs, 0 ≤ z) (t : Nat) : csum D t ≤ csum D (t + 1) := by
  unfold csum
  by_cases c : t < D.cs.length
  · rw [take_one (List.getElem?_eq_getElem c), List.sum_append, List.sum_cons, List.sum_nil]
    have := nn _ (List.getElem_mem c)
    omega
  · rw [List.take_of_length_le (by omega), List.take_of_length_le (by omega)]
    exact Int.le_refl _
theorem csum_at_zero (D : Dy) : csum D 0 = 0 := rfl
/-- no place takes more than has come -/
theorem tk_le_csum {D : Dy} (nn : ∀ z ∈ D.cs, 0 ≤ z) (k1 : 1 ≤ D.ks.length) : ∀ t p, p ≤ D.ks.length → tk D t p ≤ csum D t := fun t => by
  induction t with
  | zero => intro p _; rw [tk_zero, csum_at_zero] <;> exact Int.le_refl _
  | succ t ih =>
    intro p hp
    have up := csum_up nn t
    by_cases c : p = D.ks.length
    · subst c
      rw [tk_last]
      have := ih (D.ks.length - 1) (by omega)
      omega
    · rw [tk_at (by omega)]
      by_cases c0 : p = 0
      · rw [if_pos c0]
        omega
      · rw [if_neg c0]
        have := ih (p - 1) (by omega)
        omega
theorem most_le {D : Dy} (nn : ∀ z ∈ D.cs, 0 ≤ z) (k1 : 1 ≤ D.ks.length) {p : Nat} : mostD (widerD D p) ≤ csum D D.cs.length := by
  have h := tk_le_csum (D := widerD D p) (by rw [wider_cs]; exact nn) (by rw [wider_kl]; exact k1) D.cs.length D.ks.length (by rw [wider_kl]; exact Nat.le_refl _)
  unfold mostD
  rw [wider_cs, wider_kl]
  unfold csum at h ⊢
  rw [wider_cs] at h
  exact h
/-- nothing binds where all that comes is struck -/
theorem bind_none {D : Dy} (nn : ∀ z ∈ D.cs, 0 ≤ z) (k1 : 1 ≤ D.ks.length) (all : csum D D.cs.length ≤ mostD D) : bindI D = [] := by
  unfold bindI bindL
  rw [List.filter_eq_nil_iff.mpr fun p _ => ?_]
  · rfl
  · have := most_le nn k1 (p := p)
    rw [decide_eq_false (by omega)]
    exact Bool.false_ne_true
theorem sum_zeros (n : Nat) : ∀ t, ((List.replicate n (0 : Int)).take t).sum = 0 := fun t => by
  rw [List.take_replicate]
  generalize min t n = m
  induction m with
  | zero => rfl
  | succ m ih =>
    rw [List.replicate_succ, List.sum_cons, ih] <;> rfl
theorem getD_zeros (n t : Nat) : (List.replicate n (0 : Int)).getD t 0 = 0 := by
  rw [List.getD_eq_getElem?_getD, List.getElem?_replicate]
  split <;> rfl
/-- nothing is struck where no strike is taken -/
theorem tk_still {D : Dy} {n : Nat} (hs : D.ss = List.replicate n 0) : ∀ t, tk D t D.ks.length ≤ 0 := fun t => by
  induction t with
  | zero => rw [tk_zero] <;> exact Int.le_refl _
  | succ t ih =>
    rw [tk_last, hs, getD_zeros]
    omega
theorem bind_still {D : Dy} {n : Nat} (hs : D.ss = List.replicate n 0) (N : DyNn D) : bindI D = [] ∨ bindI D = [(D.ks.length : Int)] := by
  have m0 : mostD D = 0 := by
    have h1 := tk_still hs D.cs.length
    have h2 := (tk_nn N D.cs.length 0 D.ks.length (by omega)).1
    unfold mostD
    omega
  have none : (List.range D.ks.length).filter (fun p => decide (mostD D < mostD (widerD D p))) = [] := List.filter_eq_nil_iff.mpr fun p hp => by
    have hp := List.mem_range.mp hp
    have e : (widerD D p).ss = D.ss := by
      unfold widerD
      rw [if_neg (by omega)]
    have h1 := tk_still (D := widerD D p) (e.trans hs) D.cs.length
    have h2 : mostD (widerD D p) ≤ 0 := by
      unfold mostD
      rw [wider_cs]
      exact h1
    rw [decide_eq_false (by omega)]
    exact Bool.false_ne_true
  unfold bindI bindL
  rw [List.range_succ, List.filter_append, none, List.nil_append, List.filter_cons]
  split
  · exact .inr rfl
  · exact .inl rfl
/-- the day on which all that comes is struck -/
def freeD (n : Nat) : Dy := ⟨[3, 0, 0, 0, 0, 0, 0, 0, 0], List.replicate n (3, [3, 3, 3, 3, 3, 3, 3, 3, 3]), [3, 3, 3, 3, 3, 3, 3, 3, 3]⟩
theorem free_kt {n p : Nat} (h : p < n) : kt (freeD n) p = (3, [3, 3, 3, 3, 3, 3, 3, 3, 3]) := by
  show (List.replicate n _).getD p _ = _
  rw [List.getD_eq_getElem?_getD, List.getElem?_replicate, if_pos h] <;> rfl
theorem nine {t : Nat} (h : t < 9) : ([3, 3, 3, 3, 3, 3, 3, 3, 3] : List Int).getD t 0 = 3 := by
  match t, h with
  | 0, _ | 1, _ | 2, _ | 3, _ | 4, _ | 5, _ | 6, _ | 7, _ | 8, _ => rfl
theorem free_csum {n t : Nat} (h : t < 9) : csum (freeD n) (t + 1) = 3 := by
  match t, h with
  | 0, _ | 1, _ | 2, _ | 3, _ | 4, _ | 5, _ | 6, _ | 7, _ | 8, _ => rfl
theorem tk_free {n : Nat} (hn : 1 ≤ n) : ∀ t, t ≤ 9 → ∀ q p, p + q = n → tk (freeD n) t p = if p < t then 3 else 0 := fun t => by
  have nl : (freeD n).ks.length = n := List.length_replicate
  induction t with
  | zero => intro _ q p _; rw [tk_zero, if_neg (by omega)]
  | succ t ih =>
    intro ht q
    induction q with
    | zero =>
      intro p hp
      have e : p = (freeD n).ks.length := by omega
      rw [e, tk_last, nl, ih (by omega) 1 (n - 1) (by omega), ih (by omega) 0 n rfl]
      have h9 : (freeD n).ss.getD t 0 = 3 := nine (by omega)
      rw [h9]
      by_cases c : n - 1 < t
      · rw [show (if n - 1 < t then (3 : Int) else 0) = 3 from if_pos c, show (if n < t + 1 then (3 : Int) else 0) = 3 from if_pos (by omega)]
        split <;> decide
      · rw [show (if n - 1 < t then (3 : Int) else 0) = 0 from if_neg c, show (if n < t + 1 then (3 : Int) else 0) = 0 from if_neg (by omega), show (if n < t then (3 : Int) else 0) = 0 from if_neg (by omega)]
        decide
    | succ q ihq =>
      intro p hp
      rw [tk_at (by omega), ihq (p + 1) (by omega), ih (by omega) (q + 1) p hp, free_kt (by omega)]
      show min (min _ (_ + ([3, 3, 3, 3, 3, 3, 3, 3, 3] : List Int).getD t 0)) (_ + 3) = _
      rw [nine (by omega)]
      by_cases c : p = 0
      · subst c
        rw [if_pos rfl, free_csum (by omega), if_pos (show 0 < t + 1 by omega)]
        split <;> split <;> decide
      · rw [if_neg c, ih (by omega) (q + 2) (p - 1) (by omega)]
        by_cases c2 : p - 1 < t
        · rw [if_pos c2, if_pos (show p < t + 1 by omega)]
          split <;> split <;> decide
        · rw [if_neg c2, if_neg (show ¬ p < t + 1 by omega)]
          split <;> split <;> decide
theorem bind_free {n : Nat} (h1 : 1 ≤ n) (h8 : n ≤ 8) : bindI (freeD n) = [] := by
  have nl : (freeD n).ks.length = n := List.length_replicate
  refine bind_none (fun z hz => ?_) (by rw [nl]; exact h1) ?_
  · have m : z ∈ ([3, 0, 0, 0, 0, 0, 0, 0, 0] : List Int) := hz
    simp only [List.mem_cons, List.not_mem_nil, or_false] at m
    omega
  · show (3 : Int) ≤ mostD (freeD n)
    unfold mostD
    rw [nl]
    show 3 ≤ tk (freeD n) 9 n
    rw [tk_free h1 9 (Nat.le_refl _) 0 n rfl, if_pos (by omega)]
    decide
theorem free_ok {n : Nat} (h1 : 1 ≤ n) (h8 : n ≤ 8) : DyOk (freeD n) := by
  have nl : (freeD n).ks.length = n := List.length_replicate
  exact ⟨by show 1 ≤ 9; decide, by show 9 ≤ 48; decide, by rw [nl]; exact h1, by rw [nl]; exact h8, fun k hk => by rw [List.eq_of_mem_replicate hk] <;> rfl, rfl⟩
/-- a row of numbers with one more of each -/
theorem inc_lc {K : PySem.W.Frag} {p t : Addr} {ns : List Int} {b : Bool} {σ : L2.St} {i n : Nat} {H : Hp} {Q : VK} (hv : σ[i]? = some (some (.ref t))) (hn : n < σ.length) (ht : IsB' K H p t ns b) (ln : ns.length ≤ 48) (q : ∀ (G : Addr) (H' : Hp), Same H H' → H G = none → H' G = some (.lst ((ns.map (· + 1)).map V.int)) → Q (.ref G) H') :
    tLc (iSeqB K (tVar i)) (gName n) tYes (tOp (rI0 fun i j => V.int (i + j)) (tVar n) (tC (V.int 1))) [n] σ H Q := by
  refine ⟨_, hv, t, rfl, ?_⟩
  let Pv : Addr → Nat → Hp → Prop := fun G j H' => Same H H' ∧ H' G = some (.lst (((ns.map (· + 1)).take j).map V.int))
  have stp : ∀ (G : Addr), H G = none → ∀ (j : Nat) (v : V) (H6 H7 : Hp), j < (ns.map V.int).length → Pv G j H6 → (H7 = H6 ∧ (ns.map V.int)[j]? = some v) → gName n v (wipe σ [n]) H7 fun σ2 H2 => wipe σ2 [n] = wipe σ [n] ∧ tYes σ2 H2 fun b H3 => if b = true then (tOp (rI0 fun i j => V.int (i + j)) (tVar n) (tC (V.int 1))) σ2 H3 fun y H4 => ∃ acc, H4 G = some (.lst acc) ∧ acc.length < sizeLine ∧ Pv G (j + 1) (upd H4 G (.lst (acc ++ [y]))) else Pv G (j + 1) H3 := by
    rintro G hG j v H6 H7 hj ⟨s6, hG6⟩ ⟨rfl, e⟩
    rw [List.getElem?_map] at e
    obtain ⟨z, ez, rfl⟩ := Option.map_eq_some_iff.mp e
    rw [List.length_map] at hj
    refine ⟨?_, yesT ?_⟩
    · show ((σ.set n none).set n (some (V.int z))).set n none = σ.set n none
      rw [List.set_set, List.set_set]
    · refine ⟨_, by show ((σ.set n none).set n (some (V.int z)))[n]? = _; rw [List.getElem?_set_self (by rw [List.length_set]; exact hn)], _, _, rfl, rfl, ?_⟩
      refine ⟨_, hG6, by rw [List.length_map, List.length_take, List.length_map]; exact small' (by omega), Same.put s6 hG, ?_⟩
      rw [upd_same, take_one (show (ns.map (· + 1))[j]? = some (z + 1) by rw [List.getElem?_map, ez] <;> rfl), List.map_append] <;> rfl
  have fin : ∀ (G : Addr), H G = none → ∀ H', Pv G (ns.map V.int).length H' → Q (.ref G) H' := fun G hG H' ⟨s6, hG6⟩ => by
    rw [List.length_map, List.take_of_length_le (by rw [List.length_map]; exact Nat.le_refl _)] at hG6
    exact q G H' s6 hG hG6
  cases b with
  | true => exact .inl ⟨⟨_, ht.1⟩, fun G hG => lc_it (walk_list (K := K) (a := t) (xs := ns.map V.int)) (Pv G) ⟨same_new hG, upd_same⟩ (fun j H' _ z => (ht.same z.1).1) (fun j v H6 H7 hj z y => stp G hG j v H6 H7 hj z y) (fin G hG)⟩
  | false => exact .inr ⟨⟨_, ht.1⟩, fun G hG => lc_it (walk_tup (K := K) (a := t) (xs := ns.map V.int)) (Pv G) ⟨same_new hG, upd_same⟩ (fun j H' _ z => (ht.same z.1).1) (fun j v H6 H7 hj z y => stp G hG j v H6 H7 hj z y) (fin G hG)⟩
/-- where a day with one more stands -/
theorem wider_at {K : PySem.W.Frag} {H0 H' : Hp} {p d w L u G : Addr} {x : DyP} {D : Dy} {i : Nat} (hD : DayAt K H0 p d x D) (s : Same H0 H') (hi : i < D.ks.length) (hw : H' w = some (.tup [.ref x.c, .ref L, .ref x.s])) (hL : H' L = some (.lst ((x.as.set i u).map V.ref))) (Lp : L ≠ p)
    (hu : H' u = some (.tup [.int ((kt D i).1 + 1), .ref G])) (hG : H' G = some (.lst (((kt D i).2.map (· + 1)).map V.int))) (Gp : G ≠ p) : DayAt K H' p w ⟨x.c, L, x.s, x.pc, true, x.ps, x.as.set i u⟩ (widerD D i) := by
  have e : widerD D i = ⟨D.cs, D.ks.set i ((kt D i).1 + 1, (kt D i).2.map (· + 1)), D.ss⟩ := if_neg (by omega)
  have hs := hD.same s
  rw [e]
  refine ⟨SqT.of hw, hs.cs, SqL.of hL, Lp, hs.ss, by rw [List.length_set, List.length_set]; exact hD.len, fun j a k e1 e2 => ?_⟩
  by_cases c : i = j
  · subst c
    rw [List.getElem?_set_self (by rw [hD.len]; exact hi)] at e1
    rw [List.getElem?_set_self hi] at e2
    cases e1
    cases e2
    exact ⟨G, true, SqT.of hu, SqL.of hG, Gp⟩
  · rw [List.getElem?_set_ne c] at e1 e2
    exact hs.kt j a k e1 e2
theorem wider_atS {K : PySem.W.Frag} {H0 H' : Hp} {p d w G : Addr} {x : DyP} {D : Dy} (hD : DayAt K H0 p d x D) (s : Same H0 H') (hw : H' w = some (.tup [.ref x.c, .ref x.k, .ref G])) (hG : H' G = some (.lst ((D.ss.map (· + 1)).map V.int))) (Gp : G ≠ p) : DayAt K H' p w ⟨x.c, x.k, G, x.pc, x.pk, true, x.as⟩ (widerD D D.ks.length) := by
  have e : widerD D D.ks.length = ⟨D.cs, D.ks, D.ss.map (· + 1)⟩ := if_pos rfl
  have hs := hD.same s
  rw [e]
  exact ⟨SqT.of hw, hs.cs, hs.ks, hs.kp, ⟨SqL.of hG, Gp⟩, hs.len, hs.kt⟩
theorem seqB_or {K : PySem.W.Frag} {H : Hp} {a : Addr} {xs : List V} {b : Bool} (h : SqB K H a xs b) : SqL K H a xs ∨ SqT K H a xs := by
  cases b with
  | true => exact .inl h
  | false => exact .inr h
theorem ixN_at {n i : Nat} (h : i < n) : ixN n (i : Int) = some i := by
  unfold ixN
  rw [if_pos (by omega), if_pos (by omega), Int.toNat_natCast]
theorem cut_from {xs : List V} {n : Nat} (h : n ≤ xs.length) : cutV xs (some (n : Int)) none = xs.drop n := by
  unfold cutV
  rw [HT.sIx_none, HT.sIx_nat, Nat.min_eq_left h, List.take_of_length_le (by rw [List.length_drop]; exact Nat.le_refl _)]
theorem set_cut {α : Type} {xs : List α} {i : Nat} {a : α} (h : i < xs.length) : xs.take i ++ [a] ++ xs.drop (i + 1) = xs.set i a := by
  rw [List.set_eq_take_append_cons_drop, if_pos h, List.append_assoc] <;> rfl
end KR
/-! ### the greatest plan as a plan; papers cut short; the day of tens -/
namespace KR
open PySem PySem.Spec PyProof.Rows L2
theorem firstV_uniq {D : Dy} {m : Int} {v w : V} (h1 : FirstV D m v) (h2 : FirstV D m w) : v = w := by
  rcases h1 with ⟨t, lt, lo, hi, rfl⟩ | ⟨lo, rfl⟩ <;> rcases h2 with ⟨u, ltu, lou, hiu, rfl⟩ | ⟨lou, rfl⟩
  · have e : t = u := by
      rcases Nat.lt_trichotomy t u with c | c | c
      · have := lou t c
        omega
      · exact c
      · have := lo u c
        omega
    rw [e]
  · have := lou t lt
    omega
  · have := lo u ltu
    omega
  · rfl
theorem mem_kt {D : Dy} {p : Nat} (h : p < D.ks.length) : kt D p ∈ D.ks := by
  unfold kt
  rw [List.getD_eq_getElem?_getD, List.getElem?_eq_getElem h]
  exact List.getElem_mem h
theorem csum_mono {D : Dy} (N : DyNn D) (t : Nat) : csum D t ≤ csum D (t + 1) := by
  unfold csum
  by_cases c : t < D.cs.length
  · rw [take_one (List.getElem?_eq_getElem c), List.sum_append, List.sum_cons, List.sum_nil]
    have := (N.cs _ (List.getElem_mem c)).1
    omega
  · rw [List.take_of_length_le (by omega), List.take_of_length_le (by omega)]
    exact Int.le_refl _
/-- a place has no less an hour later -/
theorem tk_mono {D : Dy} (N : DyNn D) (k1 : 1 ≤ D.ks.length) : ∀ t q p, p + q = D.ks.length → tk D t p ≤ tk D (t + 1) p := fun t => by
  induction t with
  | zero =>
    intro q p h
    rw [tk_zero]
    exact (tk_nn N 1 q p h).1
  | succ t ih =>
    intro q
    induction q with
    | zero =>
      intro p h
      have hp : p = D.ks.length := by omega
      subst hp
      have a := tk_last D t
      have b := tk_last D (t + 1)
      have c := ih 1 (D.ks.length - 1) (by omega)
      have d := (ldl_at N.ss (t + 1)).1
      omega
    | succ q ihq =>
      intro p h
      have hp : p < D.ks.length := by omega
      have a := tk_at (D := D) (t := t) hp
      have b := tk_at (D := D) (t := t + 1) hp
      have c := ihq (p + 1) (by omega)
      have k := N.ks _ (mem_kt hp)
      have d := (ldl_at k.2.2 (t + 1)).1
      have s := csum_mono N (t + 1)
      by_cases c0 : p = 0
      · rw [if_pos c0] at a b
        omega
      · rw [if_neg c0] at a b
        have e := ih (q + 2) (p - 1) (by omega)
        omega
theorem row_nn {D : Dy} (O : DyOk D) (N : DyNn D) {p : Nat} (hp : p ≤ D.ks.length) : Ldl (rowI D p) := fun z hz => by
  unfold rowI at hz
  obtain ⟨t, ht, rfl⟩ := List.mem_map.mp hz
  have ht := List.mem_range.mp ht
  have k1 := O.k1
  have m := tk_mono N k1 t (D.ks.length - p) p (by omega)
  refine ⟨by omega, ?_⟩
  by_cases c : p = D.ks.length
  · subst c
    have a := tk_last D t
    have d := (ldl_at N.ss t).2
    omega
  · have a := tk_at (D := D) (t := t) (p := p) (by omega)
    have k := N.ks _ (mem_kt (D := D) (p := p) (by omega))
    have d := (ldl_at k.2.2 t).2
    split at a <;> omega
/-- the greatest plan -/
def rowsI (D : Dy) : List (List Int) := (List.range (D.ks.length + 1)).map (rowI D)
theorem rowsI_at {D : Dy} {q : Nat} (hq : q ≤ D.ks.length) : (rowsI D)[q]? = some (rowI D q) := by
  unfold rowsI
  rw [List.getElem?_map, List.getElem?_range (by omega)] <;> rfl
theorem rowsI_F {D : Dy} {q : Nat} (hq : q ≤ D.ks.length) : rowF (rowsI D) q = rowI D q := rowF_at (rowsI_at hq)
theorem rowsI_PS {D : Dy} {q u : Nat} (hq : q ≤ D.ks.length) (hu : u ≤ D.cs.length) : PS (rowF (rowsI D)) q u = tk D u q := by
  unfold PS
  rw [rowsI_F hq, row_sum D q u hu]
theorem rowsI_ok {D : Dy} (O : DyOk D) (N : DyNn D) : PlanOk D (rowsI D) := ⟨by unfold rowsI; rw [List.length_map, List.length_range], fun r hr => by
  unfold rowsI at hr
  obtain ⟨q, hq, rfl⟩ := List.mem_map.mp hr
  have hq := List.mem_range.mp hq
  exact ⟨row_len D q, fun z hz => (row_nn O N (p := q) (by omega) z hz).1⟩⟩
theorem rowsI_do {D : Dy} (O : DyOk D) (N : DyNn D) : PlanDo D (rowsI D) := fun p t hp ht => by
  refine (plAt_bnds hp (by rw [rowsI_F hp, row_len]; exact ht)).mpr fun b hb => ?_
  have e := (bnds_min (D := D) (p := p) (t := t + 1) O.k1 hp).2 (valB D b) (List.mem_map.mpr ⟨b, hb, rfl⟩)
  rw [rowsI_PS hp (by omega)]
  have ev : valX (rowF (rowsI D)) b = valB D b := by
    unfold valX valB
    cases el : b.lead with
    | none => rfl
    | some y =>
      obtain ⟨p', h'⟩ := y
      obtain ⟨pn, tn, rfl, rfl, pk, tt⟩ := bnds_lead hp hb el
      show PS (rowF (rowsI D)) ((pn : Int)).toNat ((tn : Int) - 1 + 1).toNat + b.more = tk D ((tn : Int) - 1 + 1).toNat ((pn : Int)).toNat + b.more
      rw [Int.toNat_natCast, show ((tn : Int) - 1 + 1).toNat = tn by omega, rowsI_PS pk (by omega)]
  rw [ev]
  exact e
theorem rowsI_tg {K : PySem.W.Frag} {Av : Addr → Prop} {H : Hp} {D : Dy} (O : DyOk D) (N : DyNn D) {f : Addr} {rs : List Addr} (hf : H f = some (.lst (rs.map V.ref))) (nf : ¬ Av f) (lr : rs.length = D.ks.length + 1) (rows : ∀ (j : Nat) (r : Addr), rs[j]? = some r → H r = some (.lst ((rowI D j).map V.int)) ∧ ¬ Av r) : Tg K Av H 1000000 2 (.ref f) (planX (rowsI D)) := by
  refine tg_plan hf nf ⟨by rw [lr]; unfold rowsI; rw [List.length_map, List.length_range], fun j r xs e1 e2 => ?_⟩ fun xs hx z hz => ?_
  · have hj : j ≤ D.ks.length := by have := (List.getElem?_eq_some_iff.mp e1).1; omega
    rw [rowsI_at hj] at e2
    cases e2
    exact rows j r e1
  · unfold rowsI at hx
    obtain ⟨q, hq, rfl⟩ := List.mem_map.mp hx
    have hq := List.mem_range.mp hq
    have := row_nn O N (p := q) (by omega) z hz
    omega
theorem rowsI_plan (D : Dy) : planX (rowsI D) = planD D := by
  unfold planX rowsI planD
  rw [List.map_map] <;> rfl
/-- a paper comes to just one number -/
theorem Chain.walksN {D : Dy} {p t : Nat} {l : List (Str × Nat × Nat)} {m : Int} (c : Chain D p t l m) : ∀ M to : Int, walkP D M (some ((p : Int), (t : Int) - 1)) to (l.map dpB) = decide (m + to = M) := by
  have hd : ∀ {p t : Nat} {b : Bd} {M to : Int} {ds : List PyData}, b ∈ bnds D p t → walkP D M (some ((p : Int), (t : Int) - 1)) to (dpB (b.word, p, t) :: ds) = walkP D M b.lead (to + b.more) ds := fun {p t b M to ds} mb => by
    have e1 : bdW (p : Int) ((t : Int) - 1) (dpB (b.word, p, t)) = some b.word := if_pos ⟨rfl, rfl⟩
    have e2 : stepP D ((p : Int)).toNat ((t : Int) - 1 + 1).toNat b.word = some b := by
      rw [Int.toNat_natCast, show ((t : Int) - 1 + 1).toNat = t by omega]
      exact stepP_mem mb
    rw [walkP_cons]
    simp only [e1, e2]
  induction c with
  | last mb nl =>
    intro M to
    rename_i b
    rw [List.map_cons, hd mb, nl, List.map_nil]
    show (true && decide (to + b.more = M)) = _
    rw [Int.add_comm, Bool.true_and]
  | step mb sl pk tt c ih =>
    intro M to
    rename_i b l' m'
    rw [List.map_cons, hd mb, sl, ih M (to + b.more), show m' + (to + b.more) = m' + b.more + to by omega]
/-- without its last bound it is none -/
theorem Chain.cut {D : Dy} {p t : Nat} {l : List (Str × Nat × Nat)} {m : Int} (c : Chain D p t l m) : ∀ M to : Int, walkP D M (some ((p : Int), (t : Int) - 1)) to (l.dropLast.map dpB) = false := by
  have hd : ∀ {p t : Nat} {b : Bd} {M to : Int} {ds : List PyData}, b ∈ bnds D p t → walkP D M (some ((p : Int), (t : Int) - 1)) to (dpB (b.word, p, t) :: ds) = walkP D M b.lead (to + b.more) ds := fun {p t b M to ds} mb => by
    have e1 : bdW (p : Int) ((t : Int) - 1) (dpB (b.word, p, t)) = some b.word := if_pos ⟨rfl, rfl⟩
    have e2 : stepP D ((p : Int)).toNat ((t : Int) - 1 + 1).toNat b.word = some b := by
      rw [Int.toNat_natCast, show ((t : Int) - 1 + 1).toNat = t by omega]
      exact stepP_mem mb
    rw [walkP_cons]
    simp only [e1, e2]
  induction c with
  | last mb nl => intro M to; rfl
  | step mb sl pk tt c ih =>
    intro M to
    rename_i b l' m'
    cases l' with
    | nil => cases c
    | cons e r =>
      rw [List.dropLast_cons_of_ne_nil (by simp), List.map_cons, hd mb, sl]
      exact ih M _
theorem isPapN {D : Dy} {l : List (Str × Nat × Nat)} {m M : Int} (c : Chain D D.ks.length D.cs.length l m) : isPap D M (dpP l) = decide (m = M) := by
  have := c.walksN M 0
  rw [Int.add_zero] at this
  exact this
theorem isPapC {D : Dy} {l : List (Str × Nat × Nat)} {m M : Int} (c : Chain D D.ks.length D.cs.length l m) : isPap D M (dpP l.dropLast) = false := c.cut M 0
/-- the day of tens -/
def tensD : Dy := ⟨List.replicate 48 1000000, List.replicate 8 (1000000, List.replicate 48 1000000), List.replicate 48 1000000⟩
theorem tens_ok : DyOk tensD := ⟨by decide, by decide, by decide, by decide, fun k hk => by rw [List.eq_of_mem_replicate (show k ∈ List.replicate 8 (1000000, List.replicate 48 1000000) from hk)] <;> rfl, rfl⟩
theorem tens_nn : DyNn tensD := ⟨ldl_rep (by decide) (by decide), fun k hk => by rw [List.eq_of_mem_replicate (show k ∈ List.replicate 8 (1000000, List.replicate 48 1000000) from hk)]; exact ⟨by decide, by decide, ldl_rep (by decide) (by decide)⟩, ldl_rep (by decide) (by decide)⟩
theorem getD_tens {t : Nat} (h : t < 48) : (List.replicate 48 (1000000 : Int)).getD t 0 = 1000000 := by
  rw [List.getD_eq_getElem?_getD, List.getElem?_replicate, if_pos h] <;> rfl
theorem kt_tens {p : Nat} (h : p < 8) : kt tensD p = (1000000, List.replicate 48 1000000) := by
  unfold kt tensD
  rw [List.getD_eq_getElem?_getD, List.getElem?_replicate, if_pos h] <;> rfl
theorem csum_tens {t : Nat} (h : t ≤ 48) : csum tensD t = 1000000 * (t : Int) := by
  have s : ∀ n : Nat, (List.replicate n (1000000 : Int)).sum = 1000000 * (n : Int) := fun n => by
    induction n with
    | zero => rfl
    | succ n ih =>
      rw [List.replicate_succ, List.sum_cons, ih]
      omega
  show ((List.replicate 48 (1000000 : Int)).take t).sum = _
  rw [List.take_replicate, s, Nat.min_eq_left h]
theorem tk_tens : ∀ t, t ≤ 48 → ∀ q p, p + q = 8 → tk tensD t p = 1000000 * ((t - p : Nat) : Int) := fun t => by
  induction t with
  | zero =>
    intro _ q p _
    rw [tk_zero, Nat.zero_sub] <;> rfl
  | succ t ih =>
    intro ht q
    have kl : tensD.ks.length = 8 := by decide
    induction q with
    | zero =>
      intro p h
      obtain rfl : p = 8 := by omega
      have a := tk_last tensD t
      rw [kl] at a
      have b := ih (by omega) 1 7 rfl
      have c := ih (by omega) 0 8 rfl
      have d : tensD.ss.getD t 0 = 1000000 := getD_tens (by omega)
      rw [show 8 - 1 = 7 from rfl] at a
      omega
    | succ q ihq =>
      intro p h
      have hp : p < tensD.ks.length := by rw [kl]; omega
      have a := tk_at (D := tensD) (t := t) hp
      have b := ihq (p + 1) (by omega)
      have c := ih (by omega) (q + 1) p h
      rw [kt_tens (by omega)] at a
      have d : (List.replicate 48 (1000000 : Int)).getD t 0 = 1000000 := getD_tens (by omega)
      have a : tk tensD (t + 1) p = min (min (if p = 0 then csum tensD (t + 1) else tk tensD t (p - 1)) (tk tensD t p + (List.replicate 48 (1000000 : Int)).getD t 0)) (tk tensD (t + 1) (p + 1) + 1000000) := a
      rw [d] at a
      by_cases c0 : p = 0
      · rw [if_pos c0, csum_tens ht] at a
        omega
      · rw [if_neg c0] at a
        have e := ih (by omega) (q + 2) (p - 1) (by omega)
        omega
theorem row_tens {p : Nat} (h : p ≤ 8) : rowI tensD p = List.replicate p 0 ++ List.replicate (48 - p) 1000000 := by
  refine List.ext_getElem? fun i => ?_
  by_cases hi : i < 48
  · rw [row_get (show i < tensD.cs.length from hi), tk_tens (i + 1) (by omega) (8 - p) p (by omega), tk_tens i (by omega) (8 - p) p (by omega)]
    by_cases c : i < p
    · rw [List.getElem?_append_left (by rw [List.length_replicate]; exact c), List.getElem?_replicate, if_pos c, show i + 1 - p = 0 by omega, show i - p = 0 by omega] <;> rfl
    · rw [List.getElem?_append_right (by rw [List.length_replicate]; omega), List.length_replicate, List.getElem?_replicate, if_pos (by omega)]
      congr 1
      omega
  · rw [List.getElem?_eq_none (by rw [row_len]; exact Nat.le_of_not_lt hi), List.getElem?_eq_none (by rw [List.length_append, List.length_replicate, List.length_replicate]; omega)]
/-- lists of lists of numbers -/
theorem rowsD_flat : ∀ (xs : List (List Int)), PyData.canLayAll0 (xs.map din) = true ∧ PyData.depthAll (xs.map din) ≤ 1
  | [] => ⟨rfl, Nat.zero_le _⟩
  | x :: r => by
    obtain ⟨h1, h2⟩ := rowsD_flat r
    obtain ⟨g1, g2⟩ := nums_flat x
    refine ⟨?_, ?_⟩
    · show (PyData.canLayAll0 (x.map PyData.int) && PyData.canLayAll0 (r.map din)) = true
      rw [h1, g1] <;> rfl
    · show max (PyData.depthAll (x.map PyData.int) + 1) (PyData.depthAll (r.map din)) ≤ 1
      rw [g2]
      omega
theorem planX_shaped (xs : List (List Int)) : SeqAt.shaped (planX xs) = true := by
  obtain ⟨h1, h2⟩ := rowsD_flat xs
  show (PyData.canLayAll0 (xs.map din) && decide (PyData.depthAll (xs.map din) + 1 ≤ 64)) = true
  rw [h1, decide_eq_true (by omega)] <;> rfl
theorem cut_last {xs : List V} : cutV xs none (some (-1)) = xs.dropLast := by
  unfold cutV
  rw [HT.sIx_none, List.drop_zero, Nat.sub_zero, List.dropLast_eq_take]
  have e : HT.sIx xs.length xs.length (some (-1)) = xs.length - 1 := by
    show (if (-1 : Int) < 0 then (-1 + (xs.length : Int)).toNat else min (-1 : Int).toNat xs.length) = _
    rw [if_pos (by decide)]
    omega
  rw [e]
theorem PaperAt.cut {H : Hp} {rs : List Addr} {l : List (Str × Nat × Nat)} (h : PaperAt H rs l) : PaperAt H rs.dropLast l.dropLast := by
  refine ⟨by rw [List.length_dropLast, List.length_dropLast, h.1], fun j r e a b => ?_⟩
  rw [List.dropLast_eq_take, List.getElem?_take] at a b
  split at a
  · rename_i c
    rw [if_pos (by have := h.1; omega)] at b
    exact h.2 j r e a b
  · cases a
/-- a first hour as data -/
theorem firstV_dp {D : Dy} {m : Int} {v : V} (h : FirstV D m v) : ∃ e : PyData, SeqAt.shaped e = true ∧ ∀ {K : PySem.W.Frag} {H : Hp}, Dp K H v e := by
  rcases h with ⟨t, _, _, _, rfl⟩ | ⟨_, rfl⟩
  · exact ⟨.int (t : Int), rfl, .int _⟩
  · exact ⟨.none, rfl, .non⟩
end KR
/-! ### all plans of a small day: just those that can be done -/
namespace KR
open PySem PySem.Spec PyProof.Rows L2
def val (S : Tbl) (p u : Nat) : Int := (rowT S p).getD u 0
def planR (ns : List Int) : List Int := (List.range (ns.length - 1)).map fun u => ns.getD (u + 1) 0 - ns.getD u 0
def planT (S : Tbl) : List (List Int) := S.map planR
structure Good (D : Dy) (t j : Nat) (S : Tbl) : Prop where
  sh : Shape D t j S
  zero : ∀ p, p ≤ D.ks.length → val S p 0 = 0
  up : ∀ p u, p ≤ D.ks.length → u + 1 < lenT D t j p → val S p u ≤ val S p (u + 1)
  may : ∀ p u, p ≤ D.ks.length → u + 1 < lenT D t j p → val S p (u + 1) - val S p u ≤ mayT D p u
  first : ∀ p u, p ≤ D.ks.length → u + 1 < lenT D t j p → val S p (u + 1) ≤ if p = 0 then csum D (u + 1) else val S (p - 1) u
  room : ∀ p u, p < D.ks.length → u + 1 < lenT D t j p → val S p (u + 1) ≤ (kt D p).1 + val S (p + 1) (u + 1)
theorem put_ne {S : Tbl} {p q t u : Nat} {x : Int} (h : q ≠ p) : val (putT S p t x) q u = val S q u := by
  unfold val putT
  rw [rowT_set_ne h]
theorem put_lt {S : Tbl} {p t u : Nat} {x : Int} (hp : p < S.length) (l : (rowT S p).length = t + 1) (h : u < t + 1) : val (putT S p t x) p u = val S p u := by
  unfold val putT
  rw [rowT_set_eq hp, List.getD_eq_getElem?_getD, List.getElem?_append_left (by omega), ← List.getD_eq_getElem?_getD]
theorem put_at {S : Tbl} {p t : Nat} {x : Int} (hp : p < S.length) (l : (rowT S p).length = t + 1) : val (putT S p t x) p (t + 1) = val S p t + x := by
  unfold val putT
  rw [rowT_set_eq hp, List.getD_eq_getElem?_getD, List.getElem?_append_right (by omega), l, Nat.sub_self] <;> rfl
theorem put_old {D : Dy} {t j q u : Nat} {S : Tbl} {x : Int} (h : Shape D t j S) (hp : D.ks.length - j ≤ D.ks.length) (hj : j ≤ D.ks.length) (hu : q = D.ks.length - j → u < t + 1) : val (putT S (D.ks.length - j) t x) q u = val S q u := by
  by_cases c : q = D.ks.length - j
  · subst c
    exact put_lt (by rw [h.len]; omega) ((h.row _ hp).trans (if_neg (by omega))) (hu rfl)
  · exact put_ne c
theorem ext_good {D : Dy} {t j : Nat} {S S' : Tbl} (hj : j ≤ D.ks.length) (k1 : 1 ≤ D.ks.length) (g : Good D t j S) (m : S' ∈ extT D (D.ks.length - j) t S) : Good D t (j + 1) S' := by
  have sh' := ext_shape hj k1 g.sh m
  unfold extT at m
  obtain ⟨x, hx, rfl⟩ := List.mem_map.mp m
  have hx := List.mem_range.mp hx
  have hp : D.ks.length - j ≤ D.ks.length := by omega
  have lS : D.ks.length - j < S.length := by rw [g.sh.len]; omega
  have lr : (rowT S (D.ks.length - j)).length = t + 1 := (g.sh.row _ hp).trans (if_neg (by omega))
  have xm : (x : Int) ≤ mostT D S (D.ks.length - j) t := by omega
  have xy : (x : Int) ≤ mayT D (D.ks.length - j) t := by omega
  have old : ∀ q u, (q = D.ks.length - j → u < t + 1) → val (putT S (D.ks.length - j) t (x : Int)) q u = val S q u := fun q u hu => put_old g.sh hp hj hu
  have new := put_at (x := (x : Int)) lS lr
  have lq : ∀ q u, q ≤ D.ks.length → u + 1 < lenT D t (j + 1) q → (q = D.ks.length - j ∧ u = t) ∨ (u + 1 < lenT D t j q ∧ (q = D.ks.length - j → u + 1 < t + 1)) := fun q u hq hu => by
    by_cases c : q = D.ks.length - j
    · unfold lenT at hu ⊢
      rw [if_pos (by omega)] at hu
      rw [if_neg (by omega)]
      by_cases e : u = t
      · exact .inl ⟨c, e⟩
      · exact .inr ⟨by omega, fun _ => by omega⟩
    · refine .inr ⟨?_, fun z => absurd z c⟩
      unfold lenT at hu ⊢
      by_cases c2 : D.ks.length < q + j
      · rw [if_pos c2]
        rw [if_pos (by omega)] at hu
        exact hu
      · rw [if_neg c2]
        rw [if_neg (by omega)] at hu
        exact hu
  have ut : ∀ q u, u + 1 < lenT D t (j + 1) q → u < t + 1 := fun q u h => by
    unfold lenT at h
    split at h <;> omega
  have most0 : (x : Int) ≤ firstT D S (D.ks.length - j) t - val S (D.ks.length - j) t := by
    unfold mostT at xm
    unfold val
    split at xm <;> omega
  have most1 : D.ks.length - j < D.ks.length → (x : Int) ≤ (kt D (D.ks.length - j)).1 + val S (D.ks.length - j + 1) (t + 1) - val S (D.ks.length - j) t := fun c => by
    unfold mostT at xm
    rw [if_pos c] at xm
    unfold val
    omega
  refine ⟨sh', fun p h => ?_, fun p u h hu => ?_, fun p u h hu => ?_, fun p u h hu => ?_, fun p u h hu => ?_⟩
  · rw [old p 0 fun _ => by omega]
    exact g.zero p h
  · rw [old p u fun _ => ut p u hu]
    rcases lq p u h hu with ⟨rfl, rfl⟩ | ⟨a, b⟩
    · rw [new]
      omega
    · rw [old p (u + 1) b]
      exact g.up p u h a
  · rw [old p u fun _ => ut p u hu]
    rcases lq p u h hu with ⟨rfl, rfl⟩ | ⟨a, b⟩
    · rw [new]
      omega
    · rw [old p (u + 1) b]
      exact g.may p u h a
  · have e : (if p = 0 then csum D (u + 1) else val (putT S (D.ks.length - j) t (x : Int)) (p - 1) u) = if p = 0 then csum D (u + 1) else val S (p - 1) u := by
      by_cases c : p = 0
      · rw [if_pos c, if_pos c]
      · rw [if_neg c, if_neg c, old (p - 1) u fun _ => ut p u hu]
    rw [e]
    rcases lq p u h hu with ⟨rfl, rfl⟩ | ⟨a, b⟩
    · rw [new]
      unfold firstT at most0
      unfold val at most0 ⊢
      split
      · rename_i c
        rw [if_pos c] at most0
        omega
      · rename_i c
        rw [if_neg c] at most0
        omega
    · rw [old p (u + 1) b]
      exact g.first p u h a
  · rcases lq p u (by omega) hu with ⟨rfl, rfl⟩ | ⟨a, b⟩
    · rw [new, old (D.ks.length - j + 1) (u + 1) fun z => absurd z (by omega)]
      have := most1 h
      omega
    · have e2 : p + 1 = D.ks.length - j → u + 1 < t + 1 := fun z => by
        unfold lenT at a
        rw [if_neg (by omega)] at a
        omega
      rw [old p (u + 1) b, old (p + 1) (u + 1) e2]
      exact g.room p u h a
theorem genP_good {D : Dy} {t : Nat} {F : List Tbl} (k1 : 1 ≤ D.ks.length) (h : ∀ S ∈ F, Good D t 0 S) : ∀ j, j ≤ D.ks.length + 1 → ∀ S ∈ genP D t F j, Good D t j S
  | 0, _, S, m => h S m
  | j + 1, hj, S, m => by
    obtain ⟨S0, m0, m1⟩ := List.mem_flatMap.mp (show S ∈ (genP D t F j).flatMap (extT D (D.ks.length - j) t) from m)
    exact ext_good (by omega) k1 (genP_good k1 h j (by omega) S0 m0) m1
theorem good_next {D : Dy} {t : Nat} {S : Tbl} (h : Good D t (D.ks.length + 1) S) : Good D (t + 1) 0 S := by
  have e : ∀ p, p ≤ D.ks.length → lenT D (t + 1) 0 p = lenT D t (D.ks.length + 1) p := fun p hp => by
    unfold lenT
    rw [if_neg (by omega), if_pos (by omega)]
  exact ⟨shape_next h.sh, h.zero, fun p u hp hu => h.up p u hp (by rw [← e p hp]; exact hu), fun p u hp hu => h.may p u hp (by rw [← e p hp]; exact hu), fun p u hp hu => h.first p u hp (by rw [← e p hp]; exact hu), fun p u hp hu => h.room p u hp (by rw [← e p (by omega)]; exact hu)⟩
theorem genH_good {D : Dy} (k1 : 1 ≤ D.ks.length) : ∀ t, ∀ S ∈ genH D t, Good D t 0 S
  | 0, S, m => by
    have sh := genH_shape k1 0 S m
    have e : S = List.replicate (D.ks.length + 1) [0] := List.mem_singleton.mp m
    have no : ∀ p u, p ≤ D.ks.length → ¬ u + 1 < lenT D 0 0 p := fun p u hp => by
      unfold lenT
      rw [if_neg (by omega)]
      omega
    refine ⟨sh, fun p hp => ?_, fun p u hp hu => absurd hu (no p u hp), fun p u hp hu => absurd hu (no p u hp), fun p u hp hu => absurd hu (no p u hp), fun p u hp hu => absurd hu (no p u (by omega))⟩
    unfold val
    rw [e, rowT_at (xs := [(0 : Int)]) (by rw [List.getElem?_replicate, if_pos (by omega)])] <;> rfl
  | t + 1, S, m => good_next (genP_good k1 (genH_good k1 t) _ (Nat.le_refl _) S m)
/-- a plan's sums, as far as hour by hour, place by place -/
def sumT (D : Dy) (f : Nat → List Int) (t j : Nat) : Tbl := (List.range (D.ks.length + 1)).map fun p => (List.range (lenT D t j p)).map fun u => PS f p u
theorem sumT_at {D : Dy} {f : Nat → List Int} {t j p : Nat} (h : p ≤ D.ks.length) : (sumT D f t j)[p]? = some ((List.range (lenT D t j p)).map fun u => PS f p u) := by
  unfold sumT
  rw [List.getElem?_map, List.getElem?_range (by omega)] <;> rfl
theorem sumT_len (D : Dy) (f : Nat → List Int) (t j : Nat) : (sumT D f t j).length = D.ks.length + 1 := by
  unfold sumT
  rw [List.length_map, List.length_range]
theorem sumT_val {D : Dy} {f : Nat → List Int} {t j p u : Nat} (h : p ≤ D.ks.length) (hu : u < lenT D t j p) : (rowT (sumT D f t j) p).getD u 0 = PS f p u := by
  rw [rowT_at (sumT_at h), List.getD_eq_getElem?_getD, List.getElem?_map, List.getElem?_range hu] <;> rfl
theorem sumT_next (D : Dy) (f : Nat → List Int) (t : Nat) : sumT D f t (D.ks.length + 1) = sumT D f (t + 1) 0 := by
  unfold sumT
  refine List.map_congr_left fun p hp => ?_
  have := List.mem_range.mp hp
  rw [show lenT D t (D.ks.length + 1) p = lenT D (t + 1) 0 p from by unfold lenT; rw [if_pos (by omega), if_neg (by omega)]]
theorem sumT_step {D : Dy} {f : Nat → List Int} {t j : Nat} (hj : j ≤ D.ks.length) (len : t < (f (D.ks.length - j)).length) : putT (sumT D f t j) (D.ks.length - j) t (PX f (D.ks.length - j) t) = sumT D f t (j + 1) := by
  generalize ep : D.ks.length - j = p at len
  have hp : p ≤ D.ks.length := by omega
  have lp : lenT D t j p = t + 1 := if_neg (by omega)
  have lp' : lenT D t (j + 1) p = t + 2 := if_pos (by omega)
  unfold putT
  rw [sumT_val hp (by omega), ← PS_succ len]
  refine List.ext_getElem? fun q => ?_
  rw [List.getElem?_set]
  by_cases c : p = q
  · subst c
    rw [if_pos rfl, if_pos (by rw [sumT_len]; omega), sumT_at hp, rowT_at (sumT_at hp), lp, lp']
    congr 1
    rw [List.range_succ (n := t + 1), List.map_append] <;> rfl
  · rw [if_neg c]
    by_cases hq : q ≤ D.ks.length
    · rw [sumT_at hq, sumT_at hq]
      rw [show lenT D t j q = lenT D t (j + 1) q from by
        unfold lenT
        by_cases c2 : D.ks.length < q + j
        · rw [if_pos c2, if_pos (by omega)]
        · rw [if_neg c2, if_neg (by omega)]]
    · rw [List.getElem?_eq_none (by rw [sumT_len]; omega), List.getElem?_eq_none (by rw [sumT_len]; omega)]
/-- each plan that can be done is among them -/
theorem sum_genP {D : Dy} {f : Nat → List Int} {t : Nat} {F : List Tbl} (h0 : sumT D f t 0 ∈ F) (len : ∀ p, p ≤ D.ks.length → t < (f p).length) (nn : ∀ p, p ≤ D.ks.length → 0 ≤ PX f p t) (d : ∀ p, p ≤ D.ks.length → PlAt D f p t) : ∀ j, j ≤ D.ks.length + 1 → sumT D f t j ∈ genP D t F j
  | 0, _ => h0
  | j + 1, hj => by
    have ih := sum_genP h0 len nn d j (by omega)
    show sumT D f t (j + 1) ∈ (genP D t F j).flatMap (extT D (D.ks.length - j) t)
    refine List.mem_flatMap.mpr ⟨_, ih, ?_⟩
    have st := sumT_step (D := D) (f := f) (t := t) (j := j) (by omega) (len _ (by omega))
    generalize ep : D.ks.length - j = p at st
    have hp : p ≤ D.ks.length := by omega
    have lp : lenT D t j p = t + 1 := if_neg (by omega)
    obtain ⟨d1, d2, d3⟩ := d p hp
    have n0 := nn p hp
    have es := PS_succ (len p hp)
    have v0 : (rowT (sumT D f t j) p).getD t 0 = PS f p t := sumT_val hp (by omega)
    have x1 : PX f p t ≤ mayT D p t := d2
    have f1 : firstT D (sumT D f t j) p t = if p = 0 then csum D (t + 1) else PS f (p - 1) t := by
      unfold firstT
      by_cases c : p = 0
      · rw [if_pos c, if_pos c]
      · rw [if_neg c, if_neg c]
        exact sumT_val (by omega) (by unfold lenT; split <;> omega)
    have x2 : PX f p t ≤ mostT D (sumT D f t j) p t := by
      unfold mostT
      rw [v0, f1]
      by_cases c : p < D.ks.length
      · rw [if_pos c, sumT_val (p := p + 1) (by omega) (by unfold lenT; rw [if_pos (by omega)]; omega)]
        have := d3 c
        omega
      · rw [if_neg c]
        omega
    unfold extT
    refine List.mem_map.mpr ⟨(PX f p t).toNat, List.mem_range.mpr (by omega), ?_⟩
    rw [show (((PX f p t).toNat : Nat) : Int) = PX f p t by omega]
    exact st
theorem sum_genH {D : Dy} {f : Nat → List Int} (n : Nat) (len : ∀ p, p ≤ D.ks.length → n ≤ (f p).length) (nn : ∀ p u, p ≤ D.ks.length → u < n → 0 ≤ PX f p u) (d : ∀ p u, p ≤ D.ks.length → u < n → PlAt D f p u) : ∀ t, t ≤ n → sumT D f t 0 ∈ genH D t
  | 0, _ => by
    refine List.mem_singleton.mpr (List.eq_replicate_iff.mpr ⟨sumT_len D f 0 0, fun r hr => ?_⟩)
    unfold sumT at hr
    obtain ⟨p, hp, rfl⟩ := List.mem_map.mp hr
    have := List.mem_range.mp hp
    rw [show lenT D 0 0 p = 1 from if_neg (by omega)]
    show [PS f p 0] = [0]
    rw [PS_zero]
  | t + 1, ht => by
    have ih := sum_genH n len nn d t (by omega)
    have := sum_genP ih (fun p hp => by have := len p hp; omega) (fun p hp => nn p t hp (by omega)) (fun p hp => d p t hp (by omega)) (D.ks.length + 1) (Nat.le_refl _)
    rw [sumT_next] at this
    exact this
theorem planR_get {ns : List Int} {u : Nat} (h : u + 1 < ns.length) : (planR ns)[u]? = some (ns.getD (u + 1) 0 - ns.getD u 0) := by
  unfold planR
  rw [List.getElem?_map, List.getElem?_range (by omega)] <;> rfl
theorem planR_len (ns : List Int) : (planR ns).length = ns.length - 1 := by
  unfold planR
  rw [List.length_map, List.length_range]
theorem planR_sum (ns : List Int) : ∀ u, u < ns.length → ((planR ns).take u).sum = ns.getD u 0 - ns.getD 0 0
  | 0, _ => by rw [List.take_zero, List.sum_nil]; omega
  | u + 1, h => by
    rw [take_one (planR_get h), List.sum_append, planR_sum ns u (by omega), List.sum_cons, List.sum_nil]
    omega
theorem planT_row {S : Tbl} {p : Nat} (h : p < S.length) : rowF (planT S) p = planR (rowT S p) := rowF_at (by
  unfold planT
  rw [List.getElem?_map, rowT_get h] <;> rfl)
theorem sum_plan {D : Dy} {Xs : List (List Int)} (O : PlanOk D Xs) : planT (sumT D (rowF Xs) D.cs.length 0) = Xs := by
  refine List.ext_getElem? fun p => ?_
  unfold planT
  rw [List.getElem?_map]
  by_cases hp : p ≤ D.ks.length
  · rw [sumT_at hp]
    obtain ⟨xs, e1, e2, e3, _⟩ := O.at_ hp
    rw [e1]
    show some (planR _) = some xs
    congr 1
    have ll : lenT D D.cs.length 0 p = D.cs.length + 1 := if_neg (by omega)
    rw [ll]
    have lr : ((List.range (D.cs.length + 1)).map fun u => PS (rowF Xs) p u).length = D.cs.length + 1 := by rw [List.length_map, List.length_range]
    have gv : ∀ u, u < D.cs.length + 1 → ((List.range (D.cs.length + 1)).map fun u => PS (rowF Xs) p u).getD u 0 = PS (rowF Xs) p u := fun u hu => by
      rw [List.getD_eq_getElem?_getD, List.getElem?_map, List.getElem?_range hu] <;> rfl
    refine List.ext_getElem? fun u => ?_
    by_cases hu : u < D.cs.length
    · rw [planR_get (by rw [lr]; omega), gv (u + 1) (by omega), gv u (by omega), PS_succ (by rw [e2, e3]; exact hu), List.getElem?_eq_getElem (by rw [e3]; exact hu)]
      congr 1
      unfold PX
      rw [e2, List.getD_eq_getElem?_getD, List.getElem?_eq_getElem (by rw [e3]; exact hu)]
      show _ + xs[u] - _ = xs[u]
      omega
    · rw [List.getElem?_eq_none (by rw [planR_len, lr]; omega), List.getElem?_eq_none (by rw [e3]; omega)]
  · rw [List.getElem?_eq_none (by rw [sumT_len]; omega), List.getElem?_eq_none (by rw [O.len]; omega)] <;> rfl
theorem good_plan {D : Dy} {S : Tbl} (g : Good D D.cs.length 0 S) : PlanOk D (planT S) ∧ PlanDo D (planT S) := by
  have ll : ∀ p, p ≤ D.ks.length → lenT D D.cs.length 0 p = D.cs.length + 1 := fun p hp => if_neg (by omega)
  have lr : ∀ p, p ≤ D.ks.length → (rowT S p).length = D.cs.length + 1 := fun p hp => (g.sh.row p hp).trans (ll p hp)
  have lS := g.sh.len
  have ps : ∀ p u, p ≤ D.ks.length → u ≤ D.cs.length → PS (rowF (planT S)) p u = val S p u := fun p u hp hu => by
    unfold PS
    rw [planT_row (by omega), planR_sum _ u (by rw [lr p hp]; omega)]
    have := g.zero p hp
    unfold val at this ⊢
    omega
  have px : ∀ p u, p ≤ D.ks.length → u < D.cs.length → PX (rowF (planT S)) p u = val S p (u + 1) - val S p u := fun p u hp hu => by
    unfold PX
    rw [planT_row (by omega), List.getD_eq_getElem?_getD, planR_get (by rw [lr p hp]; omega)] <;> rfl
  refine ⟨⟨by unfold planT; rw [List.length_map, lS], fun r hr => ?_⟩, fun p u hp hu => ⟨?_, ?_, fun c => ?_⟩⟩
  · unfold planT at hr
    obtain ⟨ns, hns, rfl⟩ := List.mem_map.mp hr
    obtain ⟨p, ep⟩ := List.getElem?_of_mem hns
    have hp : p ≤ D.ks.length := by have := (List.getElem?_eq_some_iff.mp ep).1; omega
    have er := rowT_at ep
    have l := lr p hp
    rw [er] at l
    refine ⟨by rw [planR_len, l]; omega, fun z hz => ?_⟩
    unfold planR at hz
    obtain ⟨u, hu, rfl⟩ := List.mem_map.mp hz
    have hu := List.mem_range.mp hu
    have := g.up p u hp (by rw [ll p hp]; omega)
    unfold val at this
    rw [er] at this
    omega
  · rw [ps p (u + 1) hp (by omega)]
    have := g.first p u hp (by rw [ll p hp]; omega)
    by_cases c : p = 0
    · rw [if_pos c] at this ⊢
      exact this
    · rw [if_neg c] at this ⊢
      rw [ps (p - 1) u (by omega) (by omega)]
      exact this
  · rw [px p u hp hu]
    exact g.may p u hp (by rw [ll p hp]; omega)
  · rw [ps p (u + 1) hp (by omega), ps (p + 1) (u + 1) (by omega) (by omega)]
    have := g.room p u c (by rw [ll p hp]; omega)
    omega
/-- what is among all plans -/
theorem mem_plans {D : Dy} {Xs : List (List Int)} (k1 : 1 ≤ D.ks.length) (O : PlanOk D Xs) : Xs ∈ (genH D D.cs.length).map planT ↔ PlanDo D Xs := by
  constructor
  · intro m
    obtain ⟨S, hS, rfl⟩ := List.mem_map.mp m
    exact (good_plan (genH_good k1 _ S hS)).2
  · intro d
    refine List.mem_map.mpr ⟨sumT D (rowF Xs) D.cs.length 0, ?_, sum_plan O⟩
    exact sum_genH D.cs.length (fun p hp => by rw [O.lenF hp]; exact Nat.le_refl _) (fun p u hp hu => by
      obtain ⟨xs, e1, e2, e3, e4⟩ := O.at_ hp
      unfold PX
      rw [e2, List.getD_eq_getElem?_getD, List.getElem?_eq_getElem (by rw [e3]; exact hu)]
      exact e4 _ (List.getElem_mem _)) (fun p u hp hu => d p u hp hu) D.cs.length (Nat.le_refl _)
/-- no plan has more anywhere, as far as it goes -/
theorem grown_le {D : Dy} {g : Nat → List Int} {t j : Nat} (k1 : 1 ≤ D.ks.length) (done : ∀ p u, p ≤ D.ks.length → u < t → PlAt D g p u) (cur : ∀ p, p ≤ D.ks.length → D.ks.length < p + j → PlAt D g p t) (len : ∀ p, p ≤ D.ks.length → (g p).length = if D.ks.length < p + j then t + 1 else t) : ∀ u q p, p + q = D.ks.length → u ≤ (if D.ks.length < p + j then t + 1 else t) → PS g p u ≤ tk D u p := fun u => by
  induction u with
  | zero =>
    intro q p h hu
    rw [PS_zero, tk_zero]
    exact Int.le_refl _
  | succ u ih =>
    intro q
    induction q with
    | zero =>
      intro p h hu
      obtain rfl : p = D.ks.length := by omega
      have pl : PlAt D g D.ks.length u := by
        by_cases c : u < t
        · exact done _ _ (Nat.le_refl _) c
        · obtain rfl : u = t := by split at hu <;> omega
          exact cur _ (Nat.le_refl _) (by
            rcases Nat.lt_or_ge D.ks.length (D.ks.length + j) with a | a
            · exact a
            · rw [if_neg (by omega)] at hu
              omega)
      have lu : u < (g D.ks.length).length := by rw [len _ (Nat.le_refl _)]; omega
      have es := PS_succ lu
      obtain ⟨d1, d2, d3⟩ := pl
      rw [if_neg (by omega)] at d1
      rw [if_pos rfl] at d2
      have a := ih 1 (D.ks.length - 1) (by omega) (by split at hu <;> split <;> omega)
      have b := ih 0 D.ks.length rfl (by omega)
      have e := tk_last D u
      omega
    | succ q ihq =>
      intro p h hu
      have hp : p < D.ks.length := by omega
      have pl : PlAt D g p u := by
        by_cases c : u < t
        · exact done _ _ (by omega) c
        · obtain rfl : u = t := by split at hu <;> omega
          exact cur _ (by omega) (by
            rcases Nat.lt_or_ge D.ks.length (p + j) with a | a
            · exact a
            · rw [if_neg (by omega)] at hu
              omega)
      have lu : u < (g p).length := by rw [len _ (by omega)]; omega
      have es := PS_succ lu
      obtain ⟨d1, d2, d3⟩ := pl
      rw [if_neg (by omega)] at d2
      have d3 := d3 hp
      have a := ihq (p + 1) (by omega) (by split at hu <;> split <;> omega)
      have b := ih (q + 1) p h (by omega)
      have e := tk_at (D := D) (t := u) hp
      by_cases c0 : p = 0
      · rw [if_pos c0] at d1 e
        omega
      · rw [if_neg c0] at d1 e
        have a2 := ih (q + 2) (p - 1) (by omega) (by split at hu <;> split <;> omega)
        omega
/-! how many there are, by the greatest number -/
theorem mayT_leB {D : Dy} {p t b : Nat} (h1 : ∀ u ∈ D.ss, u ≤ b) (h2 : ∀ k ∈ D.ks, ∀ u ∈ k.2, u ≤ b) : mayT D p t ≤ b := by
  have g : ∀ ns : List Int, (∀ u ∈ ns, u ≤ b) → ns.getD t 0 ≤ b := fun ns h => by
    rw [List.getD_eq_getElem?_getD]
    cases e : ns[t]? with
    | none => show (0 : Int) ≤ b; omega
    | some u => exact h u (List.mem_of_getElem? e)
  unfold mayT
  by_cases c : p = D.ks.length
  · rw [if_pos c]
    exact g _ h1
  · rw [if_neg c]
    refine g _ fun u hu => ?_
    unfold kt at hu
    rw [List.getD_eq_getElem?_getD] at hu
    cases e : D.ks[p]? with
    | none =>
      rw [e] at hu
      exact absurd hu List.not_mem_nil
    | some k =>
      rw [e] at hu
      exact h2 k (List.mem_of_getElem? e) u hu
theorem ext_lenB {D : Dy} {p t b : Nat} {S : Tbl} (h : mayT D p t ≤ b) : (extT D p t S).length ≤ b + 1 := by
  unfold extT
  rw [List.length_map, List.length_range]
  omega
theorem genP_lenB {D : Dy} {t b : Nat} {F : List Tbl} (h1 : ∀ u ∈ D.ss, u ≤ b) (h2 : ∀ k ∈ D.ks, ∀ u ∈ k.2, u ≤ b) : ∀ j, (genP D t F j).length ≤ F.length * (b + 1) ^ j
  | 0 => by show F.length ≤ F.length * 1; omega
  | j + 1 => by
    have := genP_lenB (F := F) (t := t) h1 h2 j
    refine Nat.le_trans (flat_len (n := b + 1) fun S _ => ext_lenB (mayT_leB h1 h2)) ?_
    rw [Nat.pow_succ, ← Nat.mul_assoc]
    exact Nat.mul_le_mul_right (b + 1) this
theorem genH_lenB {D : Dy} {b : Nat} (h1 : ∀ u ∈ D.ss, u ≤ b) (h2 : ∀ k ∈ D.ks, ∀ u ∈ k.2, u ≤ b) : ∀ t, (genH D t).length ≤ (b + 1) ^ (t * (D.ks.length + 1))
  | 0 => by rw [Nat.zero_mul]; exact Nat.le_refl _
  | t + 1 => by
    have a := genP_lenB (F := genH D t) (t := t) h1 h2 (D.ks.length + 1)
    have b := genH_lenB h1 h2 t
    rw [Nat.succ_mul, Nat.pow_add]
    exact Nat.le_trans a (Nat.mul_le_mul_right _ b)
/-- a day with few plans -/
structure Few (D : Dy) (b : Nat) : Prop where
  ss : ∀ u ∈ D.ss, u ≤ b
  ks : ∀ k ∈ D.ks, ∀ u ∈ k.2, u ≤ b
  le : (b + 1) ^ (D.cs.length * (D.ks.length + 1)) ≤ 6561
  b3 : b ≤ 3
theorem gen_smallB {D : Dy} {t j b : Nat} (h : Few D b) (ht : t < D.cs.length) (hj : j ≤ D.ks.length + 1) : (genP D t (genH D t) j).length ≤ 6561 := by
  have a := genP_lenB (F := genH D t) (t := t) h.ss h.ks j
  have b' := genH_lenB h.ss h.ks t
  have c : (t + 1) * (D.ks.length + 1) ≤ D.cs.length * (D.ks.length + 1) := Nat.mul_le_mul_right _ ht
  rw [Nat.succ_mul] at c
  refine Nat.le_trans a (Nat.le_trans (Nat.mul_le_mul_right _ b') ?_)
  rw [← Nat.pow_add]
  exact Nat.le_trans (Nat.pow_le_pow_right (by omega) (show t * (D.ks.length + 1) + j ≤ D.cs.length * (D.ks.length + 1) by omega)) h.le
theorem gen_few {D : Dy} {b : Nat} (h : Few D b) : (genH D D.cs.length).length ≤ 6561 := Nat.le_trans (genH_lenB h.ss h.ks _) h.le
/-! what the last place has, of all plans -/
theorem at_end9 {ns : List Int} {n : Nat} (len : ns.length = n + 1) : atI (ns.map V.int) (-1) = some (.int (ns.getD n 0)) := by
  unfold atI ixN
  rw [List.length_map, len, if_neg (by omega), if_pos (by omega)]
  show (ns.map V.int)[(-1 + ((n + 1 : Nat) : Int)).toNat]? = _
  rw [show (-1 + ((n + 1 : Nat) : Int)).toNat = n by omega]
  exact ints_get (by omega)
theorem at_endR9 {rs : List Addr} {n : Nat} {r : Addr} (len : rs.length = n + 1) (e : rs[n]? = some r) : atI (rs.map V.ref) (-1) = some (.ref r) := by
  unfold atI ixN
  rw [List.length_map, len, if_neg (by omega), if_pos (by omega)]
  show (rs.map V.ref)[(-1 + ((n + 1 : Nat) : Int)).toNat]? = _
  rw [show (-1 + ((n + 1 : Nat) : Int)).toNat = n by omega, List.getElem?_map, e] <;> rfl
theorem gen_len0 {D : Dy} (O : DyOk D) (N : DyNn D) {t : Nat} : 0 < ((genH D D.cs.length).map fun S => val S D.ks.length t).length := by
  rw [List.length_map]
  have c1 := genH_count N O.k1 (mono3 O N) D.cs.length
  exact List.length_pos_of_mem (List.count_pos_iff.mp (show 0 < (genH D D.cs.length).count (topT D D.cs.length 0) by omega))
theorem last_max {D : Dy} (O : DyOk D) (N : DyNn D) {t : Nat} {m : Int} (ht : t ≤ D.cs.length) (h1 : m ∈ (genH D D.cs.length).map fun S => val S D.ks.length t) (h2 : ∀ y ∈ (genH D D.cs.length).map (fun S => val S D.ks.length t), y ≤ m) : m = tk D t D.ks.length := gen_max O N (Nat.le_refl _) ht h1 h2
/-! whether a list of data holds one -/
def rInD (K : PySem.W.Frag) (neg : Bool) : R2 := fun x y H Q => ∃ d ds, Dp K H x d ∧ Dp K H y (.list ds) ∧ PyData.plainAll ds = true ∧ PyData.plain d = true ∧ PyData.depth d ≤ 60 ∧ Q (.bl (if neg = true then !ds.any fun z => PyData.eqv z d else ds.any fun z => PyData.eqv z d)) H
theorem op_inD {X : Cx} {K : PySem.W.Frag} (hK : X.K = K) (room : X.A.units + 64 < cLine) : OpR X (compareOp .In) (rInD K false) := by
  subst hK
  intro pn s0 σ H x y v1 v2 Q I a1 a2 h
  obtain ⟨d, ds, h1, h2, h3, h4, h5, q⟩ := h
  obtain ⟨as1, r1⟩ := Dp.reads I d x v1 h1 a1
  obtain ⟨as2, r2⟩ := Dp.reads I (.list ds) y v2 h2 a2
  exact SeqAt.in_list_data r2 r1 h3 h4 (by omega) ⟨.bl _, H, I, rfl, q⟩
theorem op_niD {X : Cx} {K : PySem.W.Frag} (hK : X.K = K) (room : X.A.units + 64 < cLine) : OpR X (compareOp .NotIn) (rInD K true) := by
  subst hK
  intro pn s0 σ H x y v1 v2 Q I a1 a2 h
  obtain ⟨d, ds, h1, h2, h3, h4, h5, q⟩ := h
  obtain ⟨as1, r1⟩ := Dp.reads I d x v1 h1 a1
  obtain ⟨as2, r2⟩ := Dp.reads I (.list ds) y v2 h2 a2
  exact SeqAt.notIn_list_data r2 r1 h3 h4 (by omega) ⟨.bl _, H, I, rfl, q⟩
theorem any_tab (G : Tbl) (F : List Tbl) : ((F.map tabD).any fun z => PyData.eqv z (tabD G)) = decide (G ∈ F) := by
  rw [List.any_map]
  induction F with
  | nil => simp
  | cons S F ih =>
    rw [List.any_cons, ih]
    show (PyData.eqv (tabD S) (tabD G) || decide (G ∈ F)) = _
    rw [tab_eqv]
    by_cases c : S = G
    · subst c
      simp
    · have : (G ∈ S :: F) ↔ G ∈ F := ⟨fun m => (List.mem_cons.mp m).elim (fun e => absurd e.symm c) id, List.mem_cons_of_mem _⟩
      rw [decide_eq_false c, Bool.false_or]
      exact (decide_eq_decide.mpr this).symm
theorem Fs.put_ {p q : Addr} {H H1 : Hp} {o : HO} (a : Fs p H H1) (h : H q = none) : Fs p H (upd H1 q o) :=
  ⟨fun b u e g n => by rw [upd_ne (ne_of_none g h)]; exact a.keep b u e g n, fun b e ⟨q2, g, t⟩ => by
    obtain ⟨q3, g3, t3⟩ := a.tab b e ⟨q2, g, t⟩
    exact ⟨q3, by rw [upd_ne (ne_of_none g h)]; exact g3, t3⟩⟩
theorem TbAt.fs {H0 H H' : Hp} {p a : Addr} {S : Tbl} (h : TbAt H0 H p a S) (F : Fs p H H') : TbAt H0 H' p a S := by
  obtain ⟨rs, h1, h2, h0, h3⟩ := h
  exact ⟨rs, F.keep _ _ h2 h1 nofun, h2, h0, pair_map (fun _ _ z => ⟨F.keep _ _ z.2.1 z.1 nofun, z.2⟩) h3⟩
theorem TbL.fs {H0 H H' : Hp} {p : Addr} {as : List Addr} {F : List Tbl} (h : TbL H0 H p as F) (G : Fs p H H') : TbL H0 H' p as F := pair_map (fun _ _ z => z.fs G) h
/-- a table as a plan that is a thing -/
theorem TbAt.tg {K : PySem.W.Frag} {H0 H : Hp} {p a : Addr} {B : Nat} {S : Tbl} (h : TbAt H0 H p a S) (L : ∀ r ∈ S, ∀ z ∈ r, z.natAbs ≤ B) : Tg K (fun b => b = p) H B 2 (.ref a) (planX S) := by
  obtain ⟨rs, h1, h2, _, h3⟩ := h
  refine tg_plan h1 h2 ⟨Paired.length h3, fun j r xs e1 e2 => ?_⟩ L
  obtain ⟨ns, en, hr⟩ := pair_get h3 e1
  rw [e2] at en
  cases en
  exact ⟨hr.1, hr.2.1⟩
theorem plan_small {D : Dy} {Xs : List (List Int)} (O : DyOk D) (N : DyNn D) (P : PlanOk D Xs) (d : PlanDo D Xs) : ∀ r ∈ Xs, ∀ z ∈ r, 0 ≤ z ∧ z ≤ 1000000 := fun r hr z hz => by
  obtain ⟨p, ep⟩ := List.getElem?_of_mem hr
  have hp : p ≤ D.ks.length := by have := (List.getElem?_eq_some_iff.mp ep).1; rw [P.len] at this; omega
  obtain ⟨u, eu⟩ := List.getElem?_of_mem hz
  have hu : u < D.cs.length := by have := (List.getElem?_eq_some_iff.mp eu).1; rw [(P.row r hr).1] at this; exact this
  have x : PX (rowF Xs) p u = z := by
    unfold PX
    rw [rowF_at ep, List.getD_eq_getElem?_getD, eu] <;> rfl
  have := (d p u hp hu).2.1
  rw [x] at this
  refine ⟨(P.row r hr).2 z hz, ?_⟩
  by_cases c : p = D.ks.length
  · rw [if_pos c] at this
    have := (ldl_at N.ss u).2
    omega
  · rw [if_neg c] at this
    have := (ldl_at (N.ks _ (mem_kt3 (p := p) (by omega))).2.2 u).2
    omega
/-- one number more: still rows of numbers -/
theorem plan_more {D : Dy} {Xs : List (List Int)} {i u : Nat} {ns : List Int} {z : Int} (P : PlanOk D Xs) (e : Xs[i]? = some ns) (z0 : 0 ≤ z) : PlanOk D (Xs.set i (ns.set u z)) := by
  refine ⟨by rw [List.length_set]; exact P.len, fun r hr => ?_⟩
  have pn := P.row ns (List.mem_of_getElem? e)
  rcases List.mem_or_eq_of_mem_set hr with m | m
  · exact P.row r m
  · subst m
    refine ⟨by rw [List.length_set]; exact pn.1, fun y hy => ?_⟩
    rcases List.mem_or_eq_of_mem_set hy with m | m
    · exact pn.2 y m
    · rw [m]
      exact z0
/-- the first hour among those by which so many are struck -/
theorem first_of {D : Dy} {m : Int} {v : V} (h : (((((List.range D.cs.length).filter fun t => decide (m ≤ tk D (t + 1) D.ks.length)).map fun t : Nat => (t : Int)).map V.int ++ [.non])[0]?) = some v) : FirstV D m v := by
  cases e : (List.range D.cs.length).filter fun t => decide (m ≤ tk D (t + 1) D.ks.length) with
  | nil =>
    rw [e] at h
    cases h
    refine .inr ⟨fun j hj => ?_, rfl⟩
    have hh := List.head?_filter (p := fun t => decide (m ≤ tk D (t + 1) D.ks.length)) (l := List.range D.cs.length)
    rw [e] at hh
    have := List.find?_range_eq_none.mp hh.symm j hj
    have := of_decide_eq_false (Bool.not_eq_true' _ ▸ this)
    omega
  | cons t r =>
    rw [e] at h
    cases h
    have hh := List.head?_filter (p := fun t => decide (m ≤ tk D (t + 1) D.ks.length)) (l := List.range D.cs.length)
    rw [e] at hh
    obtain ⟨h1, h2, h3⟩ := List.find?_range_eq_some.mp hh.symm
    refine .inl ⟨t, List.mem_range.mp h2, fun j hj => ?_, of_decide_eq_true h1, rfl⟩
    have := h3 j hj
    have := of_decide_eq_false (Bool.not_eq_true' _ ▸ this)
    omega
theorem SqB.fs {K : PySem.W.Frag} {H H' : Hp} {a p : Addr} {xs : List V} {b : Bool} {n : Nat} (h : SqB K H a xs b) (ne : a ≠ p) (B : BoxAt H p n) (F : Fs p H H') : SqB K H' a xs b := by
  cases b with
  | true =>
    rcases h with (h | ⟨o, h⟩) | h
    · exact .inl (.inl (F.keep _ _ ne h nofun))
    · exact .inl (.inr ⟨o, F.keep _ _ ne h nofun⟩)
    · exact .inr h
  | false => exact sqT_fs h B F
theorem DayAt.fs {K : PySem.W.Frag} {H H' : Hp} {p a : Addr} {x : DyP} {D : Dy} {n : Nat} (h : DayAt K H p a x D) (B : BoxAt H p n) (F : Fs p H H') : DayAt K H' p a x D :=
  ⟨sqT_fs h.at_ B F, ⟨SqB.fs h.cs.1 h.cs.2 B F, h.cs.2⟩, SqB.fs h.ks h.kp B F, h.kp, ⟨SqB.fs h.ss.1 h.ss.2 B F, h.ss.2⟩, h.len, fun j a k e1 e2 => by
    obtain ⟨t, b, h1, h2⟩ := (h.kt j a k e1 e2).ex
    exact ⟨t, b, sqT_fs h1 B F, ⟨SqB.fs h2.1 h2.2 B F, h2.2⟩⟩⟩
theorem Fs.putN {p t : Addr} {H0 H : Hp} {xs ys : List V} (F : Fs p H0 H) (ht : H t = some (.lst xs)) (n : ¬ ∃ zs, H0 t = some (.lst zs)) : Fs p H0 (upd H t (.lst ys)) := by
  refine ⟨fun b o nm h no => ?_, fun b nm tb => ?_⟩
  · have k := F.keep b o nm h no
    by_cases c : b = t
    · subst c
      rw [ht] at k
      exact absurd ⟨xs, by rw [h]; exact k.symm⟩ n
    · rw [upd_ne c]
      exact k
  · obtain ⟨q, e, u⟩ := F.tab b nm tb
    by_cases c : b = t
    · subst c
      rw [ht] at e
      cases e
    · exact ⟨q, by rw [upd_ne c]; exact e, u⟩
theorem ixN_at9 {n i : Nat} (h : i < n) : ixN n (i : Int) = some i := by
  unfold ixN
  rw [if_pos (by omega), if_pos (by omega), Int.toNat_natCast]
end KR
namespace KR
open PySem PySem.Spec PyProof.Rows L2
def top (i : Nat) : Stmt := PySem.Challenge.pw_kettlerow_k92_whole_a_day_beside_all_pla.main.body.getD i (.Pass ⟨0, 0, 0, 0⟩)
abbrev s_p_places_in : Stmt := top 2
theorem sc_p_places_in : FnScope ["day"] ["day"] (defScope s_p_places_in) := ⟨rfl, rfl, rfl, by decide +kernel, rfl, by decide +kernel, by decide +kernel⟩
abbrev s_p_hours_in : Stmt := top 3
theorem sc_p_hours_in : FnScope ["day"] ["day"] (defScope s_p_hours_in) := ⟨rfl, rfl, rfl, by decide +kernel, rfl, by decide +kernel, by decide +kernel⟩
abbrev s_p_end_of : Stmt := top 4
theorem sc_p_end_of : FnScope ["day"] ["day"] (defScope s_p_end_of) := ⟨rfl, rfl, rfl, by decide +kernel, rfl, by decide +kernel, by decide +kernel⟩
abbrev s_p_bounds_at : Stmt := top 5
theorem sc_p_bounds_at : FnScope ["day", "place", "hour", "comes", "kettles", "strikes", "bounds", "room", "takes"] ["day", "place", "hour"] (defScope s_p_bounds_at) := ⟨rfl, rfl, rfl, by decide +kernel, rfl, by decide +kernel, by decide +kernel⟩
abbrev s_p_reached : Stmt := top 6
theorem sc_p_reached : FnScope ["taken", "bound", "lead", "more"] ["taken", "bound"] (defScope s_p_reached) := ⟨rfl, rfl, rfl, by decide +kernel, rfl, by decide +kernel, by decide +kernel⟩
abbrev s_p_most_plan : Stmt := top 8
theorem sc_p_most_plan : FnScope ["day", "taken", "hours", "hour", "place"] ["day"] (defScope s_p_most_plan) := ⟨rfl, rfl, rfl, by decide +kernel, rfl, by decide +kernel, by decide +kernel⟩
abbrev s_p_first_hour : Stmt := top 9
theorem sc_p_first_hour : FnScope ["day", "many", "taken", "last", "_", "hour"] ["day", "many"] (defScope s_p_first_hour) := ⟨rfl, rfl, rfl, by decide +kernel, rfl, by decide +kernel, by decide +kernel⟩
abbrev s_p_most_struck : Stmt := top 10
theorem sc_p_most_struck : FnScope ["day", "taken", "paper", "lead", "word", "behind"] ["day"] (defScope s_p_most_struck) := ⟨rfl, rfl, rfl, by decide +kernel, rfl, by decide +kernel, by decide +kernel⟩
abbrev s_p_binding_places : Stmt := top 11
theorem sc_p_binding_places : FnScope ["day", "many", "place"] ["day"] (defScope s_p_binding_places) := ⟨rfl, rfl, rfl, by decide +kernel, rfl, by decide +kernel, by decide +kernel⟩
abbrev s_p__most_taken : Stmt := top 12
theorem sc_p__most_taken : FnScope ["day", "taken", "hour", "place", "bounds", "bound"] ["day"] (defScope s_p__most_taken) := ⟨rfl, rfl, rfl, by decide +kernel, rfl, by decide +kernel, by decide +kernel⟩
abbrev s_p__most : Stmt := top 13
theorem sc_p__most : FnScope ["day"] ["day"] (defScope s_p__most) := ⟨rfl, rfl, rfl, by decide +kernel, rfl, by decide +kernel, by decide +kernel⟩
abbrev s_p__tight_bound : Stmt := top 14
theorem sc_p__tight_bound : FnScope ["day", "taken", "lead", "place", "hour", "bounds", "tight", "word"] ["day", "taken", "lead"] (defScope s_p__tight_bound) := ⟨rfl, rfl, rfl, by decide +kernel, rfl, by decide +kernel, by decide +kernel⟩
abbrev s_p__widened : Stmt := top 15
theorem sc_p__widened : FnScope ["day", "place", "comes", "kettles", "strikes", "number", "wider", "room", "takes"] ["day", "place"] (defScope s_p__widened) := ⟨rfl, rfl, rfl, by decide +kernel, rfl, by decide +kernel, by decide +kernel⟩
abbrev s_p_is_number : Stmt := top 17
theorem sc_p_is_number : FnScope ["thing"] ["thing"] (defScope s_p_is_number) := ⟨rfl, rfl, rfl, by decide +kernel, rfl, by decide +kernel, by decide +kernel⟩
abbrev s_p_shows_most : Stmt := top 19
theorem sc_p_shows_most : FnScope ["day", "many", "thing", "lead", "told", "bound", "bounds", "more"] ["day", "many", "thing"] (defScope s_p_shows_most) := ⟨rfl, rfl, rfl, by decide +kernel, rfl, by decide +kernel, by decide +kernel⟩
abbrev s_p__is_bound_of : Stmt := top 20
theorem sc_p__is_bound_of : FnScope ["thing", "lead", "word", "place", "hour"] ["thing", "lead"] (defScope s_p__is_bound_of) := ⟨rfl, rfl, rfl, by decide +kernel, rfl, by decide +kernel, by decide +kernel⟩
abbrev s_p_shows_plan : Stmt := top 22
theorem sc_p_shows_plan : FnScope ["day", "thing", "numbers", "taken", "place", "hour", "bound"] ["day", "thing"] (defScope s_p_shows_plan) := ⟨rfl, rfl, rfl, by decide +kernel, rfl, by decide +kernel, by decide +kernel⟩
abbrev s_p__taken_by : Stmt := top 23
theorem sc_p__taken_by : FnScope ["plan", "taken", "place", "numbers", "hour", "number"] ["plan"] (defScope s_p__taken_by) := ⟨rfl, rfl, rfl, by decide +kernel, rfl, by decide +kernel, by decide +kernel⟩
abbrev s_p__is_place_of_plan : Stmt := top 24
theorem sc_p__is_place_of_plan : FnScope ["thing", "hours", "number"] ["thing", "hours"] (defScope s_p__is_place_of_plan) := ⟨rfl, rfl, rfl, by decide +kernel, rfl, by decide +kernel, by decide +kernel⟩
abbrev s_l_cell_at : Stmt := top 26
theorem sc_l_cell_at : FnScope ["_law_script", "_law_k"] ["_law_script", "_law_k"] (defScope s_l_cell_at) := ⟨rfl, rfl, rfl, by decide +kernel, rfl, by decide +kernel, by decide +kernel⟩
abbrev s_l_box : Stmt := top 27
theorem sc_l_box : FnScope ["_law_script", "_law_k", "_law_cell"] ["_law_script", "_law_k"] (defScope s_l_box) := ⟨rfl, rfl, rfl, by decide +kernel, rfl, by decide +kernel, by decide +kernel⟩
abbrev s_l_take : Stmt := top 28
theorem sc_l_take : FnScope ["_law_box_here", "_law_many", "_law_found", "_law_once", "_law_twice"] ["_law_box_here", "_law_many"] (defScope s_l_take) := ⟨rfl, rfl, rfl, by decide +kernel, rfl, by decide +kernel, by decide +kernel⟩
abbrev s_l_ladles : Stmt := top 29
theorem sc_l_ladles : FnScope ["_law_box_here", "_law_hours", "_law_wide", "_law_way", "_law_hour"] ["_law_box_here", "_law_hours", "_law_wide"] (defScope s_l_ladles) := ⟨rfl, rfl, rfl, by decide +kernel, rfl, by decide +kernel, by decide +kernel⟩
abbrev s_l_day : Stmt := top 30
theorem sc_l_day : FnScope ["_law_box_here", "_law_hours", "_law_pots", "_law_wide", "_law_kettles", "_law_place", "_law_room", "_law_takes"] ["_law_box_here", "_law_hours", "_law_pots", "_law_wide"] (defScope s_l_day) := ⟨rfl, rfl, rfl, by decide +kernel, rfl, by decide +kernel, by decide +kernel⟩
abbrev s_l_all : Stmt := top 31
theorem sc_l_all : FnScope ["_law_day_here", "_law_comes", "_law_kettles", "_law_strikes", "_law_found", "_law_place", "_law_hour", "_law_longer", "_law_may", "_law_sums", "_law_row", "_law_most", "_law_gone", "_law_taken", "_law_more_here"] ["_law_day_here"] (defScope s_l_all) := ⟨rfl, rfl, rfl, by decide +kernel, rfl, by decide +kernel, by decide +kernel⟩
abbrev s_l_small_day : Stmt := top 32
theorem sc_l_small_day : FnScope ["_law_box_here", "_law_hours", "_law_pots"] ["_law_box_here"] (defScope s_l_small_day) := ⟨rfl, rfl, rfl, by decide +kernel, rfl, by decide +kernel, by decide +kernel⟩
abbrev s_l_plan_of : Stmt := top 33
theorem sc_l_plan_of : FnScope ["_law_sums", "_law_ahead", "_law_one", "_law_row"] ["_law_sums"] (defScope s_l_plan_of) := ⟨rfl, rfl, rfl, by decide +kernel, rfl, by decide +kernel, by decide +kernel⟩
abbrev s_l_more : Stmt := top 34
theorem sc_l_more : FnScope ["_law_day_here", "_law_place", "_law_comes", "_law_kettles", "_law_strikes", "_law_one", "_law_room", "_law_takes"] ["_law_day_here", "_law_place"] (defScope s_l_more) := ⟨rfl, rfl, rfl, by decide +kernel, rfl, by decide +kernel, by decide +kernel⟩
abbrev s_l_small_right : Stmt := top 35
theorem sc_l_small_right : FnScope ["_law_box_here", "_law_day_here", "_law_every", "_law_plans", "_law_struck", "_law_sums", "_law_turn", "_law_plan", "_law_row", "_law_at", "_law_told", "_law_many", "_law_paper", "_law_some", "_law_hours", "_law_hour"] ["_law_box_here", "_law_day_here"] (defScope s_l_small_right) := ⟨rfl, rfl, rfl, by decide +kernel, rfl, by decide +kernel, by decide +kernel⟩
abbrev s_l_binds : Stmt := top 36
theorem sc_l_binds : FnScope ["_law_day_here", "_law_place", "_law_most", "_law_sums"] ["_law_day_here", "_law_place"] (defScope s_l_binds) := ⟨rfl, rfl, rfl, by decide +kernel, rfl, by decide +kernel, by decide +kernel⟩
abbrev s_l_great_right : Stmt := top 37
theorem sc_l_great_right : FnScope ["_law_box_here", "_law_day_here", "_law_comes", "_law_kettles", "_law_strikes", "_law_told", "_law_turn", "_law_held", "_law_waiting", "_law_sums", "_law_best", "_law_hour", "_law_many", "_law_before", "_law_taken", "_law_place", "_law_may", "_law_most"] ["_law_box_here", "_law_day_here"] (defScope s_l_great_right) := ⟨rfl, rfl, rfl, by decide +kernel, rfl, by decide +kernel, by decide +kernel⟩
abbrev s_p_law : Stmt := top 38
theorem sc_p_law : FnScope ["_law_script", "_law_k", "_law_box_here", "_law_day_here", "_law_due", "_law_place", "_law_hours", "_law_pots", "_law_great"] ["_law_script"] (defScope s_p_law) := ⟨rfl, rfl, rfl, by decide +kernel, rfl, by decide +kernel, by decide +kernel⟩
structure All (K : PySem.W.Frag) (mg : Str → Option Value) where
  f_p_places_in : Addr
  fd_p_places_in : FuncData
  d_p_places_in : Def K mg "places_in" s_p_places_in f_p_places_in fd_p_places_in ["day"]
  f_p_hours_in : Addr
  fd_p_hours_in : FuncData
  d_p_hours_in : Def K mg "hours_in" s_p_hours_in f_p_hours_in fd_p_hours_in ["day"]
  f_p_end_of : Addr
  fd_p_end_of : FuncData
  d_p_end_of : Def K mg "end_of" s_p_end_of f_p_end_of fd_p_end_of ["day"]
  f_p_bounds_at : Addr
  fd_p_bounds_at : FuncData
  d_p_bounds_at : Def K mg "bounds_at" s_p_bounds_at f_p_bounds_at fd_p_bounds_at ["day", "place", "hour"]
  f_p_reached : Addr
  fd_p_reached : FuncData
  d_p_reached : Def K mg "reached" s_p_reached f_p_reached fd_p_reached ["taken", "bound"]
  f_p_most_plan : Addr
  fd_p_most_plan : FuncData
  d_p_most_plan : Def K mg "most_plan" s_p_most_plan f_p_most_plan fd_p_most_plan ["day"]
  f_p_first_hour : Addr
  fd_p_first_hour : FuncData
  d_p_first_hour : Def K mg "first_hour" s_p_first_hour f_p_first_hour fd_p_first_hour ["day", "many"]
  f_p_most_struck : Addr
  fd_p_most_struck : FuncData
  d_p_most_struck : Def K mg "most_struck" s_p_most_struck f_p_most_struck fd_p_most_struck ["day"]
  f_p_binding_places : Addr
  fd_p_binding_places : FuncData
  d_p_binding_places : Def K mg "binding_places" s_p_binding_places f_p_binding_places fd_p_binding_places ["day"]
  f_p__most_taken : Addr
  fd_p__most_taken : FuncData
  d_p__most_taken : Def K mg "_most_taken" s_p__most_taken f_p__most_taken fd_p__most_taken ["day"]
  f_p__most : Addr
  fd_p__most : FuncData
  d_p__most : Def K mg "_most" s_p__most f_p__most fd_p__most ["day"]
  f_p__tight_bound : Addr
  fd_p__tight_bound : FuncData
  d_p__tight_bound : Def K mg "_tight_bound" s_p__tight_bound f_p__tight_bound fd_p__tight_bound ["day", "taken", "lead"]
  f_p__widened : Addr
  fd_p__widened : FuncData
  d_p__widened : Def K mg "_widened" s_p__widened f_p__widened fd_p__widened ["day", "place"]
  f_p_is_number : Addr
  fd_p_is_number : FuncData
  d_p_is_number : Def K mg "is_number" s_p_is_number f_p_is_number fd_p_is_number ["thing"]
  f_p_shows_most : Addr
  fd_p_shows_most : FuncData
  d_p_shows_most : Def K mg "shows_most" s_p_shows_most f_p_shows_most fd_p_shows_most ["day", "many", "thing"]
  f_p__is_bound_of : Addr
  fd_p__is_bound_of : FuncData
  d_p__is_bound_of : Def K mg "_is_bound_of" s_p__is_bound_of f_p__is_bound_of fd_p__is_bound_of ["thing", "lead"]
  f_p_shows_plan : Addr
  fd_p_shows_plan : FuncData
  d_p_shows_plan : Def K mg "shows_plan" s_p_shows_plan f_p_shows_plan fd_p_shows_plan ["day", "thing"]
  f_p__taken_by : Addr
  fd_p__taken_by : FuncData
  d_p__taken_by : Def K mg "_taken_by" s_p__taken_by f_p__taken_by fd_p__taken_by ["plan"]
  f_p__is_place_of_plan : Addr
  fd_p__is_place_of_plan : FuncData
  d_p__is_place_of_plan : Def K mg "_is_place_of_plan" s_p__is_place_of_plan f_p__is_place_of_plan fd_p__is_place_of_plan ["thing", "hours"]
  f_l_cell_at : Addr
  fd_l_cell_at : FuncData
  d_l_cell_at : Def K mg "_law_cell_at" s_l_cell_at f_l_cell_at fd_l_cell_at ["_law_script", "_law_k"]
  f_l_box : Addr
  fd_l_box : FuncData
  d_l_box : Def K mg "_law_box" s_l_box f_l_box fd_l_box ["_law_script", "_law_k"]
  f_l_take : Addr
  fd_l_take : FuncData
  d_l_take : Def K mg "_law_take" s_l_take f_l_take fd_l_take ["_law_box_here", "_law_many"]
  f_l_ladles : Addr
  fd_l_ladles : FuncData
  d_l_ladles : Def K mg "_law_ladles" s_l_ladles f_l_ladles fd_l_ladles ["_law_box_here", "_law_hours", "_law_wide"]
  f_l_day : Addr
  fd_l_day : FuncData
  d_l_day : Def K mg "_law_day" s_l_day f_l_day fd_l_day ["_law_box_here", "_law_hours", "_law_pots", "_law_wide"]
  f_l_all : Addr
  fd_l_all : FuncData
  d_l_all : Def K mg "_law_all" s_l_all f_l_all fd_l_all ["_law_day_here"]
  f_l_small_day : Addr
  fd_l_small_day : FuncData
  d_l_small_day : Def K mg "_law_small_day" s_l_small_day f_l_small_day fd_l_small_day ["_law_box_here"]
  f_l_plan_of : Addr
  fd_l_plan_of : FuncData
  d_l_plan_of : Def K mg "_law_plan_of" s_l_plan_of f_l_plan_of fd_l_plan_of ["_law_sums"]
  f_l_more : Addr
  fd_l_more : FuncData
  d_l_more : Def K mg "_law_more" s_l_more f_l_more fd_l_more ["_law_day_here", "_law_place"]
  f_l_small_right : Addr
  fd_l_small_right : FuncData
  d_l_small_right : Def K mg "_law_small_right" s_l_small_right f_l_small_right fd_l_small_right ["_law_box_here", "_law_day_here"]
  f_l_binds : Addr
  fd_l_binds : FuncData
  d_l_binds : Def K mg "_law_binds" s_l_binds f_l_binds fd_l_binds ["_law_day_here", "_law_place"]
  f_l_great_right : Addr
  fd_l_great_right : FuncData
  d_l_great_right : Def K mg "_law_great_right" s_l_great_right f_l_great_right fd_l_great_right ["_law_box_here", "_law_day_here"]
  f_p_law : Addr
  fd_p_law : FuncData
  d_p_law : Def K mg "law" s_p_law f_p_law fd_p_law ["_law_script"]
  b_abs : mg "abs" = none
  b_all : mg "all" = none
  b_bool : mg "bool" = none
  b_enumerate : mg "enumerate" = none
  b_int : mg "int" = none
  b_isinstance : mg "isinstance" = none
  b_len : mg "len" = none
  b_list : mg "list" = none
  b_max : mg "max" = none
  b_min : mg "min" = none
  b_range : mg "range" = none
  b_reversed : mg "reversed" = none
  b_str : mg "str" = none
  b_sum : mg "sum" = none
  b_tuple : mg "tuple" = none
  b_zip : mg "zip" = none
  t_AHEAD_OF_ALL : Tok
  c_AHEAD_OF_ALL : mg "AHEAD_OF_ALL" = some (.int (-1) t_AHEAD_OF_ALL)
  c_p_shows_plan : Addr
  P_p_shows_plan : Addr
  k_p_shows_plan : FunC K "shows_plan" "shows_plan" s_p_shows_plan f_p_shows_plan fd_p_shows_plan c_p_shows_plan
  c_p__is_place_of_plan : Addr
  P_p__is_place_of_plan : Addr
  k_p__is_place_of_plan : FunC K "_is_place_of_plan" "_is_place_of_plan" s_p__is_place_of_plan f_p__is_place_of_plan fd_p__is_place_of_plan c_p__is_place_of_plan
def All.Ps {K : PySem.W.Frag} {mg : Str → Option Value} (T : All K mg) : List Addr := [T.P_p_shows_plan, T.P_p__is_place_of_plan]
structure Tabs {K : PySem.W.Frag} {mg : Str → Option Value} (T : All K mg) (base : Heap) : Prop where
  t_p_shows_plan : GxR.TabB base mg T.c_p_shows_plan T.P_p_shows_plan
  t_p__is_place_of_plan : GxR.TabB base mg T.c_p__is_place_of_plan T.P_p__is_place_of_plan
end KR
namespace KR
open PySem PySem.Spec PyProof.Rows L2
section
variable {P : Program} {w : World} {K : PySem.W.Frag} {mg : Str → Option Value} {base : Heap}
def sp_l_cell_at (K : PySem.W.Frag) : Sp := fun vs H Q _ => ∃ (a : Addr) (ns : List Int) (k : Int), vs = [.ref a, .int k] ∧ SqL K H a (ns.map V.int) ∧ 0 ≤ k ∧ ∀ z : Int, Q (.int z) H
theorem ok_l_cell_at (T : All K mg) : FnOk P w K mg base CX0 1 T.f_l_cell_at T.fd_l_cell_at ["_law_script", "_law_k"] (sp_l_cell_at K) := by
  refine T.d_l_cell_at.fn.ok sc_l_cell_at (fun vs H Q E h => ?_) (fun cdv A outer s H vs Q E hr h => ?_)
  · obtain ⟨a, ns, k, rfl, _⟩ := h
    rfl
  · obtain ⟨a, ns, k, rfl, hS, h0, q⟩ := h
    refine ⟨_, (pss_cons (ps_if (pt_cmpR op_lt (pv 1) (pe_callB (lenQ (K := K) rfl) (by rfl) T.b_len PySem.boot_len (pa_cons (pv 0) pa_nil)) (nomark _)) (pss_one (ps_ret (pe_ix (ixL (K := K) rfl) (pv 0) (pv 1) (fun _ _ => rfl)))) pss_nil)
      (pss_one (ps_ret pe_int))), ?_⟩
    refine ⟨_, rfl, _, rfl, a, _, rfl, .inl hS, _, _, rfl, rfl, _, rfl, ite2 (fun c => ?_) (fun c => ?_)⟩
    · have c1 : k < ((ns.map V.int).length : Int) := of_decide_eq_true c
      rw [List.length_map] at c1
      refine ⟨_, rfl, _, rfl, a, _, k, _, rfl, rfl, hS, at_of (j := k.toNat) (by omega) (by rw [List.getElem?_map, List.getElem?_eq_getElem (show k.toNat < ns.length by omega)]; rfl), ?_⟩
      exact q _
    · exact q _

end
end KR
namespace KR
open PySem PySem.Spec PyProof.Rows L2
section
variable {P : Program} {w : World} {K : PySem.W.Frag} {mg : Str → Option Value} {base : Heap}
def sp_l_box (K : PySem.W.Frag) : Sp := fun vs H Q _ => ∃ (a : Addr) (ns : List Int) (k : Int), vs = [.ref a, .int k] ∧ SqL K H a (ns.map V.int) ∧ 0 ≤ k ∧ k ≤ 63 ∧ ∀ p H', Same H H' → H p = none → BoxAt H' p 0 → Q (.ref p) H'
theorem ok_l_box (T : All K mg) : FnOk P w K mg base CX0 2 T.f_l_box T.fd_l_box ["_law_script", "_law_k"] (sp_l_box K) := by
  refine T.d_l_box.fn.ok sc_l_box (fun vs H Q E h => ?_) (fun cdv A outer s H vs Q E hr h => ?_)
  · obtain ⟨a, ns, k, rfl, _⟩ := h
    rfl
  · obtain ⟨a, ns, k, rfl, hS, h0, h1, q⟩ := h
    refine ⟨_, (pss_cons (ps_set (i := 2) sc_l_box.nd rfl (by first | exact Or.inl rfl | exact Or.inr rfl) (pe_call (ok_l_cell_at T) hr (by rfl) T.d_l_cell_at.mg T.d_l_cell_at.fn.kp T.d_l_cell_at.b .nil pass0 (pa_cons (pv 0) (pa_cons (pv 1) pa_nil))))
      (pss_one (ps_ret (pe_lstI (pa_cons (pe_op op_mulX (pe_callB call_abs (by rfl) T.b_abs (by decide +kernel) (pa_cons (pv 2) pa_nil)) (pe_callTy call_int1 (by rfl) T.b_int (by decide +kernel) (pa_cons (pe_cmpR op_ge (pe_callB call_abs (by rfl) T.b_abs (by decide +kernel) (pa_cons (pv 2) pa_nil)) (pe_op op_pow pe_int pe_int) (nomark _)) pa_nil))) (pa_cons (pe_op op_add (pe_op op_add (pe_op op_mod (pv 2) pe_int) (pe_op op_mulX pe_int (pv 1))) pe_int) (pa_cons pe_int pa_nil))))))), ?_⟩
    refine ⟨_, rfl, _, rfl, a, ns, k, rfl, hS, h0, fun z => ?_⟩
    refine ⟨_, rfl, _, rfl, _, rfl, _, rfl, _, _, rfl, rfl, ⟨by decide, by decide, by decide⟩, _, _, rfl, rfl, .inr ⟨_, rfl, ?_⟩⟩
    refine ⟨_, _, rfl, rfl, mulR bit_lt, ?_⟩
    refine ⟨_, rfl, _, _, rfl, rfl, (by show (0 : Int) < 2305843009213693951; decide), _, rfl, _, _, rfl, rfl, mulL (by decide), _, _, rfl, rfl, _, _, rfl, rfl, rfl, fun p H1 s1 hp h1 => ?_⟩
    refine q p _ s1 hp ⟨_, _, _, h1, ?_, ?_, ?_, by decide, by decide⟩
    · refine Int.mul_nonneg (by split <;> omega) bit_nn
    · omega
    · omega

end
end KR
namespace KR
open PySem PySem.Spec PyProof.Rows L2
section
variable {P : Program} {w : World} {K : PySem.W.Frag} {mg : Str → Option Value} {base : Heap}
def sp_l_take : Sp := fun vs H Q _ => ∃ (p : Addr) (m : Int) (n : Nat), vs = [.ref p, .int m] ∧ BoxAt H p n ∧ n ≤ 1000000000 ∧ 0 < m ∧ m.natAbs < 2 ^ 200 ∧ ∀ (z : Int) (H' : Hp), 0 ≤ z → z < m → BoxAt H' p (n + 1) → Fr p H H' → Q (.int z) H'
theorem ok_l_take (T : All K mg) : FnOk P w K mg base CX0 1 T.f_l_take T.fd_l_take ["_law_box_here", "_law_many"] sp_l_take := by
  refine T.d_l_take.fn.ok sc_l_take (fun vs H Q E h => ?_) (fun cdv A outer s H vs Q E hr h => ?_)
  · obtain ⟨p, m, n, rfl, _⟩ := h
    rfl
  · obtain ⟨p, m, n, rfl, hB, hn, h0, hm, q⟩ := h
    obtain ⟨a, b, c, hp, ha, hb, hb2, hc, hcn⟩ := hB
    refine ⟨_, (pss_cons (ps_if (pt_cmpR op_gt (pe_ix (ixL (K := K) rfl) (pv 0) pe_int (fun _ _ => rfl)) pe_int (nomark _)) (pss_cons (ps_set (i := 2) sc_l_take.nd rfl (by first | exact Or.inl rfl | exact Or.inr rfl) (pe_op op_mod (pe_ix (ixL (K := K) rfl) (pv 0) pe_int (fun _ _ => rfl)) (pv 1)))
      (pss_cons (ps_asg (pe_op op_fdivW (pe_ix (ixL (K := K) rfl) (pv 0) pe_int (fun _ _ => rfl)) (pv 1)) (pg_sub (pv 0) pe_int set_list))
      (pss_one (ps_ret (pv 2))))) pss_nil)
      (pss_cons (ps_asg (pe_op op_add (pe_ix (ixL (K := K) rfl) (pv 0) pe_int (fun _ _ => rfl)) pe_int) (pg_sub (pv 0) pe_int set_list))
      (pss_cons (ps_set (i := 3) sc_l_take.nd rfl (by first | exact Or.inl rfl | exact Or.inr rfl) (pe_op op_mod (pe_op op_mulX (pe_op op_add (pe_ix (ixL (K := K) rfl) (pv 0) pe_int (fun _ _ => rfl)) (pe_op op_mulX pe_int (pe_ix (ixL (K := K) rfl) (pv 0) pe_int (fun _ _ => rfl)))) (pe_op op_add pe_int (pe_ix (ixL (K := K) rfl) (pv 0) pe_int (fun _ _ => rfl)))) pe_int))
      (pss_cons (ps_set (i := 4) sc_l_take.nd rfl (by first | exact Or.inl rfl | exact Or.inr rfl) (pe_op op_mod (pe_op op_mulX (pe_op op_add (pv 3) (pe_ix (ixL (K := K) rfl) (pv 0) pe_int (fun _ _ => rfl))) (pe_op op_add (pe_op op_mod (pv 3) pe_int) pe_int)) pe_int))
      (pss_one (ps_ret (pe_op op_mod (pe_op op_fdivW (pe_op op_mod (pe_op op_add (pe_op op_mulX (pv 4) pe_int) (pv 3)) pe_int) pe_int) (pv 1)))))))), ?_⟩
    refine ⟨_, rfl, p, _, 0, _, rfl, rfl, SqL.of hp, at0, _, _, rfl, rfl, _, rfl, ite2 (fun c1 => ?_) (fun c1 => ?_)⟩
    · refine ⟨_, rfl, p, _, 0, _, rfl, rfl, SqL.of hp, at0, _, rfl, _, _, rfl, rfl, h0, ?_⟩
      refine ⟨_, rfl, p, _, 0, _, rfl, rfl, SqL.of hp, at0, _, rfl, _, _, rfl, rfl, wide_div h0 hm (by decide) (by decide), ?_⟩
      refine ⟨_, rfl, p, _, 0, 0, rfl, rfl, hp, rfl, ?_⟩
      refine ⟨_, rfl, ?_⟩
      refine q _ _ (Int.emod_nonneg _ (by omega)) (Int.emod_lt_of_pos _ h0) ⟨_, _, _, upd_same, ?_, hb, hb2, hc, by omega⟩ (Fr.put Fr.refl)
      exact Int.ediv_nonneg ha (by omega)
    · refine ⟨_, rfl, p, _, 2, _, rfl, rfl, SqL.of hp, at2, _, _, rfl, rfl, _, rfl, p, _, 2, 2, rfl, rfl, hp, rfl, ?_⟩
      have hp2 : (upd H p (.lst [.int a, .int b, .int (c + 1)])) p = some (.lst [.int a, .int b, .int (c + 1)]) := upd_same
      refine ⟨_, rfl, p, _, 1, _, rfl, rfl, SqL.of hp2, at1, _, rfl, p, _, 2, _, rfl, rfl, SqL.of hp2, at2, _, _, rfl, rfl, mulL (by decide), _, _, rfl, rfl, ?_⟩
      refine ⟨_, rfl, p, _, 2, _, rfl, rfl, SqL.of hp2, at2, _, _, rfl, rfl, _, _, rfl, rfl, mulL (by omega), _, _, rfl, rfl, (by show (0 : Int) < 2147483647; decide), ?_⟩
      generalize e1 : (b + 48271 * (c + 1)) * (39373 + (c + 1)) % 2147483647 = o
      have o1 : 0 ≤ o ∧ o < 2147483647 := by omega
      refine ⟨_, rfl, _, rfl, p, _, 2, _, rfl, rfl, SqL.of hp2, at2, _, _, rfl, rfl, _, rfl, _, _, rfl, rfl, (by show (0 : Int) < 40009; decide), _, _, rfl, rfl, _, _, rfl, rfl, mulL (by omega), _, _, rfl, rfl, (by show (0 : Int) < 2147483629; decide), ?_⟩
      generalize e2 : (o + (c + 1)) * (o % 40009 + 7) % 2147483629 = t
      have t1 : 0 ≤ t ∧ t < 2147483629 := by omega
      refine ⟨_, rfl, _, _, rfl, rfl, mulL (by omega), _, rfl, _, _, rfl, rfl, _, _, rfl, rfl, (by show (0 : Int) < 2147483587; decide), _, _, rfl, rfl, wide_div (b := 10) (by decide) (by decide) (by decide) (by decide), _, rfl, _, _, rfl, rfl, h0, ?_⟩
      exact q _ _ (Int.emod_nonneg _ (by omega)) (Int.emod_lt_of_pos _ h0) ⟨_, _, _, upd_same, ha, hb, hb2, by omega, by omega⟩ (Fr.put Fr.refl)

end
end KR
namespace KR
open PySem PySem.Spec PyProof.Rows L2
section
variable {P : Program} {w : World} {K : PySem.W.Frag} {mg : Str → Option Value} {base : Heap}
def sp_l_ladles (K : PySem.W.Frag) : Sp := fun vs H Q _ => ∃ (p : Addr) (n h : Nat) (w : Int), vs = [.ref p, .int (h : Int), .int w] ∧ BoxAt H p n ∧ n ≤ 999990000 ∧ h ≤ 48 ∧ 0 ≤ w ∧ w ≤ 1000000 ∧ ∀ (f : Addr) (ns : List Int) (H' : Hp), H' f = some (.lst (ns.map V.int)) → ns.length = h → Ldl ns → (∀ u ∈ ns, u ≤ w) → BoxAt H' p (n + 150) → Fr p H H' → f ≠ p → H f = none → Q (.ref f) H'
theorem ok_l_ladles (T : All K mg) : FnOk P w K mg base CX0 2 T.f_l_ladles T.fd_l_ladles ["_law_box_here", "_law_hours", "_law_wide"] (sp_l_ladles K) := by
  refine T.d_l_ladles.fn.ok sc_l_ladles (fun vs H Q E h => ?_) (fun cdv A outer s H vs Q E hr h => ?_)
  · obtain ⟨p, n, h, w, rfl, _⟩ := h
    rfl
  · obtain ⟨p, n, h, w, rfl, hB, hn, h48, w0, w1, q⟩ := h
    refine ⟨_, (pss_cons (ps_set (i := 3) sc_l_ladles.nd rfl (by first | exact Or.inl rfl | exact Or.inr rfl) (pe_call (ok_l_take T) hr (by rfl) T.d_l_take.mg T.d_l_take.fn.kp T.d_l_take.b .nil pass0 (pa_cons (pv 0) (pa_cons pe_int pa_nil))))
      (pss_cons (ps_if (pt_cmpR op_lt (pv 3) pe_int (nomark _)) (pss_one (ps_ret (pe_op op_rep (pe_lstI (pa_cons (pe_ix (ixL (K := K) rfl) (pe_lstI (pa_cons (pv 2) (pa_cons pe_int pa_nil))) (pv 3) (fun _ _ => rfl)) pa_nil)) (pv 1)))) pss_nil)
      (pss_one (ps_ret (pe_lc (own := [("_law_hour", 4)]) (g := gName 4) (tt := tYes) (by rfl) sc_l_ladles.nd (pi_range1 (by rfl) T.b_range (pa_cons (pv 1) pa_nil)) (blkOk_by (own := [("_law_hour", 4)]) (N := ["_law_box_here", "_law_hours", "_law_wide", "_law_way", "_law_hour"]) (sc := defScope s_l_ladles) (by decide +kernel)) (fun _ _ _ _ _ => (pg_name (i := 4) sc_l_ladles.nd rfl (by first | exact Or.inl rfl | exact Or.inr rfl))) (fun _ _ _ _ _ => pts_nil) (fun _ _ _ _ _ => (pe_ix (ixL (K := K) rfl) (pe_lstI (pa_cons (pe_call (ok_l_take T) hr (by rfl) T.d_l_take.mg T.d_l_take.fn.kp T.d_l_take.b .nil pass0 (pa_cons (pv 0) (pa_cons (pe_op op_add (pv 2) pe_int) pa_nil))) (pa_cons pe_int (pa_cons (pv 2) (pa_cons (pe_call (ok_l_take T) hr (by rfl) T.d_l_take.mg T.d_l_take.fn.kp T.d_l_take.b .nil pass0 (pa_cons (pv 0) (pa_cons (pe_op op_add (pv 2) pe_int) pa_nil))) pa_nil))))) (pe_call (ok_l_take T) hr (by rfl) T.d_l_take.mg T.d_l_take.fn.kp T.d_l_take.b .nil pass0 (pa_cons (pv 0) (pa_cons pe_int pa_nil))) (fun _ _ => rfl)))))))), ?_⟩
    refine ⟨_, rfl, p, 6, n, rfl, hB, by omega, by decide, by decide, fun y H1 y0 y1 B1 F1 => ?_⟩
    refine ⟨_, rfl, _, _, rfl, rfl, _, rfl, ?_⟩
    by_cases c : y < 2
    · refine ite_bT (decide_eq_true c) ?_
      refine ⟨_, rfl, rfl, fun l1 H2 s2 n2 h2 => ?_⟩
      obtain ⟨z, ez, z0, z1⟩ : ∃ z : Int, atI ([.int w, .int 0] : List V) y = some (.int z) ∧ 0 ≤ z ∧ z ≤ w := by
        have cs : y = 0 ∨ y = 1 := by omega
        rcases cs with e | e <;> subst e
        · exact ⟨w, rfl, w0, Int.le_refl _⟩
        · exact ⟨0, rfl, by decide, w0⟩
      refine ⟨_, rfl, l1, _, y, _, rfl, rfl, SqL.of h2, ez, rfl, fun l2 H3 s3 n3 h3 => ?_⟩
      refine ⟨_, rfl, l2, (h : Int), _, rfl, rfl, h3, by omega, by omega, by show 1 * _ ≤ _; rw [sizeLine_eq]; omega, fun f nf => ?_⟩
      rw [rep_ints h z]
      have B3 := (B1.same s2).same s3
      have F3 : Fr p H H3 := F1.trans (.of (s2.trans s3))
      have fp := B3.new nf
      refine q f (List.replicate h z) _ upd_same List.length_replicate (fun u hu => by rw [List.eq_of_mem_replicate hu]; exact ⟨z0, by omega⟩) (fun u hu => by rw [List.eq_of_mem_replicate hu]; exact z1) ((B3.same (same_new nf)).mono (by omega)) (F3.trans (.of (same_new nf))) fp (fr_new' F3 nf fp)
    · refine ite_bF (decide_eq_false c) ?_
      refine ⟨_, rfl, (h : Int), rfl, by omega, by omega, fun D hD => ?_⟩
      have Dp := B1.new hD
      have nD : H D = none := fr_new' F1 hD Dp
      refine lc_range (lo := 0) (n := h) (fun i H' => ∃ ns : List Int, Fr p H1 H' ∧ BoxAt H' p (n + 1 + 3 * i) ∧ H' D = some (.lst (ns.map V.int)) ∧ ns.length = i ∧ ∀ z ∈ ns, 0 ≤ z ∧ z ≤ w)
        ⟨[], .of (same_new hD), (B1.same (same_new hD)).mono (by omega), upd_same, rfl, fun z hz => absurd hz List.not_mem_nil⟩ (fun i H2 hi z => ?_) (fun H2 z => ?_)
      · obtain ⟨ns, F2, B2, hD2, ln, ok⟩ := z
        refine ⟨rfl, yesT ?_⟩
        refine ⟨_, rfl, _, rfl, _, _, rfl, rfl, p, w + 1, _, rfl, B2, by omega, by omega, by omega, fun a H3 a0 a1 B3 F3 => ?_⟩
        refine ⟨_, rfl, _, rfl, _, rfl, _, _, rfl, rfl, p, w + 1, _, rfl, B3, by omega, by omega, by omega, fun b H4 b0 b1 B4 F4 => ⟨rfl, fun l1 H5 s5 n5 h5 => ?_⟩⟩
        have B5 := B4.same s5
        have l1p := B4.new n5
        refine ⟨_, rfl, p, 4, _, rfl, B5, by omega, by decide, by decide, fun y2 H6 y20 y21 B6 F6 => ?_⟩
        obtain ⟨z, ez, z0, z1⟩ : ∃ z : Int, atI ([.int a, .int 0, .int w, .int b] : List V) y2 = some (.int z) ∧ 0 ≤ z ∧ z ≤ w := by
          have cs : y2 = 0 ∨ y2 = 1 ∨ y2 = 2 ∨ y2 = 3 := by omega
          rcases cs with e | e | e | e <;> subst e
          · exact ⟨a, rfl, a0, by omega⟩
          · exact ⟨0, rfl, by decide, w0⟩
          · exact ⟨w, rfl, w0, Int.le_refl _⟩
          · exact ⟨b, rfl, b0, by omega⟩
        refine ⟨l1, _, y2, _, rfl, rfl, SqL.of (F6 _ _ l1p h5), ez, ?_⟩
        have F26 : Fr p H2 H6 := F3.trans (F4.trans ((Fr.of s5).trans F6))
        have hD6 := F26 _ _ Dp hD2
        refine ⟨_, hD6, by rw [List.length_map]; exact small' (by omega), ns ++ [z], (F2.trans F26).put' hD, (B6.upd Dp).mono (by omega), by rw [upd_same, List.map_append] <;> rfl, by rw [List.length_append, ln] <;> rfl, fun u hu => ?_⟩
        rcases List.mem_append.mp hu with g | g
        · exact ok u g
        · rw [List.mem_singleton.mp g]
          exact ⟨z0, z1⟩
      · obtain ⟨ns, F2, B2, hD2, ln, ok⟩ := z
        exact q D ns H2 hD2 ln (fun u hu => ⟨(ok u hu).1, by have := (ok u hu).2; omega⟩) (fun u hu => (ok u hu).2) (B2.mono (by omega)) (F1.trans F2) Dp nD

end
end KR
namespace KR
open PySem PySem.Spec PyProof.Rows L2
section
variable {P : Program} {w : World} {K : PySem.W.Frag} {mg : Str → Option Value} {base : Heap}
def sp_l_day (K : PySem.W.Frag) : Sp := fun vs H Q _ => ∃ (p : Addr) (n h k : Nat) (w : Int), vs = [.ref p, .int (h : Int), .int (k : Int), .int w] ∧ BoxAt H p n ∧ n ≤ 999980000 ∧ 1 ≤ h ∧ h ≤ 48 ∧ 1 ≤ k ∧ k ≤ 8 ∧ 1 ≤ w ∧ w ≤ 1000000 ∧
  ∀ (d : Addr) (x : DyP) (D : Dy) (H' : Hp), DayAt K H' p d x D → DyOk D → DyNn D → D.cs.length = h → D.ks.length = k → (∀ u ∈ D.ss, u ≤ w) → (∀ k ∈ D.ks, (∀ u ∈ k.2, u ≤ w) ∧ k.1 ≤ 3 * w) → x.pc = true → x.pk = true → x.ps = true → BoxAt H' p (n + 2000) → Fr p H H' → Q (.ref d) H'
theorem ok_l_day (T : All K mg) : FnOk P w K mg base CX0 3 T.f_l_day T.fd_l_day ["_law_box_here", "_law_hours", "_law_pots", "_law_wide"] (sp_l_day K) := by
  refine T.d_l_day.fn.ok sc_l_day (fun vs H Q E h => ?_) (fun cdv A outer s H vs Q E hr h => ?_)
  · obtain ⟨p, n, h, k, w, rfl, _⟩ := h
    rfl
  · obtain ⟨p, n, h, k, w, rfl, hB, hn, h1, h48, k1, k8, w0, w1, q⟩ := h
    refine ⟨_, (pss_cons (ps_set (i := 4) sc_l_day.nd rfl (by first | exact Or.inl rfl | exact Or.inr rfl) (pe_lstI pa_nil))
      (pss_cons (ps_for PassesOwn.never rfl (pi_range1 (by rfl) T.b_range (pa_cons (pv 2) pa_nil)) (pg_name (i := 5) sc_l_day.nd rfl (by first | exact Or.inl rfl | exact Or.inr rfl)) (pss_one (ps_expr (pe_bm PySem.F.plainAttrs_list PySem.F.slot_list_append PySem.F.type_list_append mt_append (pv 4) (pa_cons (pe_tupI (pa_cons (pe_op op_add pe_int (pe_call (ok_l_take T) (hr.mono (by decide)) (by rfl) T.d_l_take.mg T.d_l_take.fn.kp T.d_l_take.b .nil pass0 (pa_cons (pv 0) (pa_cons (pe_ix (ixL (K := K) rfl) (pe_lstI (pa_cons pe_int (pa_cons (pv 3) (pa_cons (pe_op op_mulX pe_int (pv 3)) pa_nil)))) (pe_call (ok_l_take T) (hr.mono (by decide)) (by rfl) T.d_l_take.mg T.d_l_take.fn.kp T.d_l_take.b .nil pass0 (pa_cons (pv 0) (pa_cons pe_int pa_nil))) (fun _ _ => rfl)) pa_nil)))) (pa_cons (pe_call (ok_l_ladles T) hr (by rfl) T.d_l_ladles.mg T.d_l_ladles.fn.kp T.d_l_ladles.b .nil pass0 (pa_cons (pv 0) (pa_cons (pv 1) (pa_cons (pv 3) pa_nil)))) pa_nil))) pa_nil)))))
      (pss_cons (ps_setLc (i := 4) (own := [("_law_room", 6), ("_law_takes", 7)]) (g := gTup K 2 (gCons (gName 6) (gCons (gName 7) gNil))) (tt := tYes) (by rfl) sc_l_day.nd rfl rfl (sw_true rfl rfl rfl (by decide +kernel)) (pi_listK (K := K) rfl (pv 4)) (blkOk_by (own := [("_law_room", 6), ("_law_takes", 7)]) (N := ["_law_box_here", "_law_hours", "_law_pots", "_law_wide", "_law_kettles", "_law_place", "_law_room", "_law_takes"]) (sc := defScope s_l_day) (by decide +kernel)) (fun _ _ _ _ _ => (pg_tupK (K := K) rfl rfl (pgs_cons (pg_name (i := 6) sc_l_day.nd rfl (by first | exact Or.inl rfl | exact Or.inr rfl)) (pgs_cons (pg_name (i := 7) sc_l_day.nd rfl (by first | exact Or.inl rfl | exact Or.inr rfl)) pgs_nil)))) (fun _ _ _ _ _ => pts_nil) (fun _ _ _ _ _ => (pe_tupI (pa_cons (pe_callB (call_min2 rfl) (by rfl) T.b_min (by decide +kernel) (pa_cons (pe_op op_pow pe_int pe_int) (pa_cons (pv 6) pa_nil))) (pa_cons (pv 7) pa_nil)))))
      (pss_one (ps_ret (pe_tupI (pa_cons (pe_call (ok_l_ladles T) hr (by rfl) T.d_l_ladles.mg T.d_l_ladles.fn.kp T.d_l_ladles.b .nil pass0 (pa_cons (pv 0) (pa_cons (pv 1) (pa_cons (pv 3) pa_nil)))) (pa_cons (pv 4) (pa_cons (pe_call (ok_l_ladles T) hr (by rfl) T.d_l_ladles.mg T.d_l_ladles.fn.kp T.d_l_ladles.b .nil pass0 (pa_cons (pv 0) (pa_cons (pv 1) (pa_cons (pv 3) pa_nil)))) pa_nil))))))))), ?_⟩
    refine ⟨rfl, fun f H1 s1 n1 hf1 => ?_⟩
    have fp := hB.new n1
    refine ⟨_, rfl, k, rfl, by omega, by omega, for_range (lo := 0) (n := k) (fun i σ H' => ∃ (as : List Addr) (ks : List (Int × List Int)) (v5 : Option V), σ = [some (.ref p), some (.int (h : Int)), some (.int (k : Int)), some (.int w), some (.ref f), v5, none, none] ∧ H' f = some (.lst (as.map V.ref)) ∧ PotsF K H' p f as ks ∧ as.length = i ∧ (∀ k ∈ ks, 1 ≤ k.1 ∧ k.2.length = h ∧ Ldl k.2 ∧ (∀ u ∈ k.2, u ≤ w) ∧ k.1 ≤ 3 * w) ∧ BoxAt H' p (n + 160 * i) ∧ Fr p H H')
      ⟨[], [], none, rfl, hf1, .nil, rfl, fun k hk => absurd hk List.not_mem_nil, hB.same s1, .of s1⟩ ?_ ?_⟩
    · rintro i σ H2 hi ⟨as, ks, v5, rfl, hf, P, la, ok, B, F⟩
      refine ⟨_, rfl, .inl ⟨rfl, _, SqL.of hf⟩, ?_⟩
      refine ⟨_, rfl, _, rfl, _, rfl, _, _, rfl, rfl, mulL (by decide), rfl, fun l1 H3 s3 n3 h3 => ?_⟩
      have B3 := B.same s3
      have l1p := B.new n3
      refine ⟨_, rfl, p, 3, _, rfl, B3, by omega, by decide, by decide, fun y H4 y0 y1 B4 F4 => ?_⟩
      obtain ⟨m, em, m0, m1⟩ : ∃ m : Int, atI ([.int 1, .int w, .int (3 * w)] : List V) y = some (.int m) ∧ 1 ≤ m ∧ m ≤ 3 * w := by
        have cs : y = 0 ∨ y = 1 ∨ y = 2 := by omega
        rcases cs with e | e | e <;> subst e
        · exact ⟨1, rfl, by decide, by omega⟩
        · exact ⟨w, rfl, by omega, by omega⟩
        · exact ⟨3 * w, rfl, by omega, by omega⟩
      refine ⟨l1, _, y, _, rfl, rfl, SqL.of (F4 _ _ l1p h3), em, p, m, _, rfl, B4, by omega, by omega, by omega, fun r H5 r0 r1 B5 F5 => ⟨_, _, rfl, rfl, ?_⟩⟩
      have F25 : Fr p H2 H5 := (Fr.of s3).trans (F4.trans F5)
      have hf5 := F25 _ _ fp hf
      refine ⟨_, rfl, _, rfl, _, rfl, p, _, h, w, rfl, B5, by omega, h48, by omega, w1, fun t ns H6 ht ln nn nw B6 F6 tp nt => ?_⟩
      refine ⟨rfl, fun a H7 s7 n7 h7 => ?_⟩
      have tf : t ≠ f := (ne_of_none hf5 nt).symm
      have F27 : Fr p H2 H7 := (F25.trans F6).trans (.of s7)
      have hf7 := F27 _ _ fp hf
      refine ⟨f, _, _, rfl, rfl, hf7, by rw [List.length_map]; exact small' (by omega), ?_⟩
      refine ⟨as ++ [a], ks ++ [(1 + r, ns)], _, rfl, by rw [upd_same, List.map_append] <;> rfl, ?_, by rw [List.length_append, la] <;> rfl, fun k hk => ?_, ((B6.same s7).upd fp).mono (by omega), (F.trans F27).put' n1⟩
      · refine ((P.map fun a k z => z.fr B F27).snoc ⟨t, SqT.of h7, s7 _ _ ht, tp, tf⟩).map fun a k z => z.put hf7
      · rcases List.mem_append.mp hk with g | g
        · exact ok k g
        · rw [List.mem_singleton.mp g]
          exact ⟨by show 1 ≤ 1 + r; omega, ln, nn, nw, by show 1 + r ≤ 3 * w; omega⟩
    · rintro σ H2 ⟨as, ks, v5, rfl, hf, P, la, ok, B, F⟩
      refine ⟨_, rfl, f, rfl, ⟨_, SqL.of hf⟩, fun g hg => ?_⟩
      have gp := B.new hg
      refine lc_it (walk_list (K := K) (a := f) (xs := as.map V.ref)) (fun j H' => ∃ (bs : List Addr) (js : List (Int × List Int)), Same H2 H' ∧ H' g = some (.lst (bs.map V.ref)) ∧ PotsF K H' p g bs js ∧ bs.length = j ∧ (∀ k ∈ js, 1 ≤ k.1 ∧ k.1 ≤ 1000000 ∧ k.2.length = h ∧ Ldl k.2 ∧ (∀ u ∈ k.2, u ≤ w) ∧ k.1 ≤ 3 * w))
        ⟨[], [], same_new hg, upd_same, .nil, rfl, fun k hk => absurd hk List.not_mem_nil⟩ (fun j H' _ ⟨_, _, s, _⟩ => SqL.of (s _ _ hf)) ?_ ?_
      · rintro j v H3 H4 hj ⟨bs, js, s3, hg3, P3, lb, ok3⟩ ⟨rfl, hv⟩
        rw [List.getElem?_map] at hv
        obtain ⟨a, ea, rfl⟩ := Option.map_eq_some_iff.mp hv
        obtain ⟨kk', ek, t, h1', h2', h3', h4'⟩ := P.get ea
        obtain ⟨o1, o2, o3⟩ := ok _ (List.mem_of_getElem? ek)
        rw [List.length_map] at hj
        refine ⟨a, _, rfl, Same.tup s3 h1', rfl, _, _, rfl, _, _, rfl, rfl, rfl, yesT ?_⟩
        refine ⟨_, _, rfl, rfl, ⟨by decide, by decide, by decide⟩, _, rfl, _, _, rfl, _, rfl, rfl, fun u H5 s5 n5 h5 => ?_⟩
        have hg5 := s5 _ _ hg3
        have tg : t ≠ g := ne_of_none h2' hg
        obtain ⟨rr, er, r1', r2', r3'⟩ : ∃ rr : Int, (if kk'.1 < (10 : Int) ^ (6 : Int).toNat then kk'.1 else (10 : Int) ^ (6 : Int).toNat) = rr ∧ 1 ≤ rr ∧ rr ≤ 1000000 ∧ rr ≤ 3 * w := by
          have e6 : (10 : Int) ^ (6 : Int).toNat = 1000000 := by decide
          have o5 := o3.2.2
          refine ⟨_, rfl, ?_, ?_, ?_⟩
          rotate_left 2
          · split <;> omega
          · split
            · exact o1
            · decide
          · split
            · have e6 : (10 : Int) ^ (6 : Int).toNat = 1000000 := by decide
              omega
            · decide
        have h5 : H5 u = some (.tup [.int (if kk'.1 < (10 : Int) ^ (6 : Int).toNat then kk'.1 else (10 : Int) ^ (6 : Int).toNat), .ref t]) := h5
        rw [er] at h5
        refine ⟨_, hg5, by rw [List.length_map]; exact small' (by omega), bs ++ [u], js ++ [(rr, kk'.2)], Same.put (s3.trans s5) hg, by rw [upd_same, List.map_append] <;> rfl, ?_, by rw [List.length_append, lb] <;> rfl, fun k hk => ?_⟩
        · refine ((P3.map fun a k z => z.same s5).snoc (show KtF K H5 p g u (rr, kk'.2) from ⟨t, SqT.of h5, (s3.trans s5) _ _ h2', h3', tg⟩)).map fun a k z => z.put hg5
        · rcases List.mem_append.mp hk with g' | g'
          · exact ok3 k g'
          · rw [List.mem_singleton.mp g']
            exact ⟨r1', r2', o2, o3.1, o3.2.1, r3'⟩
      · rintro H3 ⟨bs, js, s3, hg3, P3, lb, ok3⟩
        rw [List.length_map, la] at lb
        have B3 := B.same s3
        have F3 : Fr p H H3 := F.trans (.of s3)
        refine ⟨_, rfl, _, rfl, _, rfl, p, _, h, w, rfl, B3, by omega, h48, by omega, w1, fun t1 ns1 H4 ht1 ln1 nn1 nw1 B4 F4 t1p nt1 => ?_⟩
        refine ⟨_, rfl, _, rfl, _, rfl, _, rfl, p, _, h, w, rfl, B4, by omega, h48, by omega, w1, fun t2 ns2 H5 ht2 ln2 nn2 nw2 B5 F5 t2p nt2 => ⟨rfl, fun d H6 s6 n6 h6 => ?_⟩⟩
        have F36 : Fr p H3 H6 := (F4.trans F5).trans (.of s6)
        have jl : js.length = k := by rw [← Paired.length P3, lb]
        refine q d ⟨t1, g, t2, true, true, true, bs⟩ ⟨ns1, js, ns2⟩ H6 ⟨SqT.of h6, ⟨SqL.of (s6 _ _ (F5 _ _ t1p ht1)), t1p⟩, SqL.of (F36 _ _ gp hg3), gp, ⟨SqL.of (s6 _ _ ht2), t2p⟩, Paired.length P3, (P3.map fun a k z => z.fr B3 F36).at_⟩ ⟨by show 1 ≤ ns1.length; omega, by show ns1.length ≤ 48; omega, by show 1 ≤ js.length; omega, by show js.length ≤ 8; omega, fun k hk => (ok3 k hk).2.2.1.trans ln1.symm, ln2.trans ln1.symm⟩ ⟨nn1, fun k hk => ⟨(ok3 k hk).1, (ok3 k hk).2.1, (ok3 k hk).2.2.2.1⟩, nn2⟩ ln1 jl nw2 (fun k hk => (ok3 k hk).2.2.2.2) rfl rfl rfl ((B5.same s6).mono (by omega)) (F3.trans F36)

end
end KR
namespace KR
open PySem PySem.Spec PyProof.Rows L2
section
variable {P : Program} {w : World} {K : PySem.W.Frag} {mg : Str → Option Value} {base : Heap}
def sp_l_all (K : PySem.W.Frag) : Sp := fun vs H Q _ => ∃ (p d : Addr) (x : DyP) (D : Dy), vs = [.ref d] ∧ DayAt K H p d x D ∧ DyOk D ∧ DyNn D ∧ (∃ b, Few D b) ∧
  ∀ (f : Addr) (as : List Addr) (H' : Hp), Same H H' → H f = none → H' f = some (.lst (as.map V.ref)) → TbL H H' f as (genH D D.cs.length) → Q (.ref f) H'
theorem ok_l_all (T : All K mg) : FnOk P w K mg base CX0 1 T.f_l_all T.fd_l_all ["_law_day_here"] (sp_l_all K) := by
  refine T.d_l_all.fn.ok sc_l_all (fun vs H Q E h => ?_) (fun cdv A outer s H vs Q E hr h => ?_)
  · obtain ⟨p, d, x, D, rfl, _⟩ := h
    rfl
  · obtain ⟨p, d, x, D, rfl, hD, O, N, ⟨b, few⟩, q⟩ := h
    refine ⟨_, (pss_cons (ps_asg (pv 0) (pg_tupK (K := K) rfl rfl (pgs_cons (pg_name (i := 1) sc_l_all.nd rfl (by first | exact Or.inl rfl | exact Or.inr rfl)) (pgs_cons (pg_name (i := 2) sc_l_all.nd rfl (by first | exact Or.inl rfl | exact Or.inr rfl)) (pgs_cons (pg_name (i := 3) sc_l_all.nd rfl (by first | exact Or.inl rfl | exact Or.inr rfl)) pgs_nil)))))
      (pss_cons (ps_set (i := 4) sc_l_all.nd rfl (by first | exact Or.inl rfl | exact Or.inr rfl) (pe_lstI (pa_cons (pe_lc (own := [("_law_place", 5)]) (g := gName 5) (tt := tYes) (by rfl) sc_l_all.nd (pi_range1 (by rfl) T.b_range (pa_cons (pe_op op_add (pe_callB (lenA (K := K) rfl) (by rfl) T.b_len PySem.boot_len (pa_cons (pv 2) pa_nil)) pe_int) pa_nil)) (blkOk_by (own := [("_law_place", 5)]) (N := ["_law_day_here", "_law_comes", "_law_kettles", "_law_strikes", "_law_found", "_law_place", "_law_hour", "_law_longer", "_law_may", "_law_sums", "_law_row", "_law_most", "_law_gone", "_law_taken", "_law_more_here"]) (sc := defScope s_l_all) (by decide +kernel)) (fun _ _ _ _ _ => (pg_name (i := 5) sc_l_all.nd rfl (by first | exact Or.inl rfl | exact Or.inr rfl))) (fun _ _ _ _ _ => pts_nil) (fun _ _ _ _ _ => (pe_lstI (pa_cons pe_int pa_nil)))) pa_nil)))
      (pss_cons (ps_for PassesOwn.never rfl (pi_range1 (by rfl) T.b_range (pa_cons (pe_callB (lenA (K := K) rfl) (by rfl) T.b_len PySem.boot_len (pa_cons (pv 1) pa_nil)) pa_nil)) (pg_name (i := 6) sc_l_all.nd rfl (by first | exact Or.inl rfl | exact Or.inr rfl)) (pss_one (ps_for PassesOwn.never rfl (pi_range3 (by rfl) T.b_range (pa_cons (pe_callB (lenA (K := K) rfl) (by rfl) T.b_len PySem.boot_len (pa_cons (pv 2) pa_nil)) (pa_cons (pe_un un_neg pe_int) (pa_cons (pe_un un_neg pe_int) pa_nil)))) (pg_name (i := 5) sc_l_all.nd rfl (by first | exact Or.inl rfl | exact Or.inr rfl)) (pss_cons (ps_J (ps_par (i := 7) (j := 8) (by rfl) sc_l_all.nd rfl rfl (by decide) rfl rfl (pa_cons (pe_lstI pa_nil) (pa_cons (pe_ix (ixQ (K := K) rfl) (pe_ifExp (pt_cmpR op_eq (pv 5) (pe_callB (lenA (K := K) rfl) (by rfl) T.b_len PySem.boot_len (pa_cons (pv 2) pa_nil)) (nomark _)) (pv 3) (pe_ix (ixT (K := K) rfl) (pe_ix (ixQ (K := K) rfl) (pv 2) (pv 5) (fun _ _ => rfl)) pe_int (fun _ _ => rfl))) (pv 6) (fun _ _ => rfl)) pa_nil)) (by rfl)))
      (pss_cons (ps_for PassesOwn.never rfl (pi_listK (K := K) rfl (pv 4)) (pg_name (i := 9) sc_l_all.nd rfl (by first | exact Or.inl rfl | exact Or.inr rfl)) (pss_cons (ps_set (i := 10) sc_l_all.nd rfl (by first | exact Or.inl rfl | exact Or.inr rfl) (pe_ix (ixL (K := K) rfl) (pv 9) (pv 5) (fun _ _ => rfl)))
      (pss_cons (ps_J (ps_set (i := 11) sc_l_all.nd rfl (by first | exact Or.inl rfl | exact Or.inr rfl) (pe_op op_sub (pe_ifExp (pt_cmpR op_gt (pv 5) pe_int (nomark _)) (pe_ix (ixL (K := K) rfl) (pe_ix (ixL (K := K) rfl) (pv 9) (pe_op op_sub (pv 5) pe_int) (fun _ _ => rfl)) (pv 6) (fun _ _ => rfl)) (pe_callB (sumBK (K := K) rfl rfl) (by rfl) T.b_sum (by decide +kernel) (pa_cons (pe_slice (slBK (K := K) rfl) (pv 1) po_none (po_some (pe_op op_add (pv 6) pe_int))) pa_nil))) (pe_ix (ixL (K := K) rfl) (pv 10) (pv 6) (fun _ _ => rfl)))))
      (pss_cons (ps_J (ps_if (pt_cmpR op_lt (pv 5) (pe_callB (lenA (K := K) rfl) (by rfl) T.b_len PySem.boot_len (pa_cons (pv 2) pa_nil)) (nomark _)) (pss_cons (ps_set (i := 12) sc_l_all.nd rfl (by first | exact Or.inl rfl | exact Or.inr rfl) (pe_ix (ixL (K := K) rfl) (pe_ix (ixL (K := K) rfl) (pv 9) (pe_op op_add (pv 5) pe_int) (fun _ _ => rfl)) (pe_op op_add (pv 6) pe_int) (fun _ _ => rfl)))
      (pss_one (ps_J (ps_set (i := 11) sc_l_all.nd rfl (by first | exact Or.inl rfl | exact Or.inr rfl) (pe_callB (call_min2 rfl) (by rfl) T.b_min (by decide +kernel) (pa_cons (pv 11) (pa_cons (pe_op op_sub (pe_op op_add (pe_ix (ixT (K := K) rfl) (pe_ix (ixQ (K := K) rfl) (pv 2) (pv 5) (fun _ _ => rfl)) pe_int (fun _ _ => rfl)) (pv 12)) (pe_ix (ixL (K := K) rfl) (pv 10) (pv 6) (fun _ _ => rfl))) pa_nil))))))) pss_nil))
      (pss_one (ps_for PassesOwn.never rfl (pi_range1 (by rfl) T.b_range (pa_cons (pe_op op_add (pe_callB (call_min2 rfl) (by rfl) T.b_min (by decide +kernel) (pa_cons (pv 11) (pa_cons (pv 8) pa_nil))) pe_int) pa_nil)) (pg_name (i := 13) sc_l_all.nd rfl (by first | exact Or.inl rfl | exact Or.inr rfl)) (pss_cons (ps_set (i := 14) sc_l_all.nd rfl (by first | exact Or.inl rfl | exact Or.inr rfl) (pe_op op_catI (pv 10) (pe_lstI (pa_cons (pe_op op_add (pe_ix (ixL (K := K) rfl) (pv 10) (pv 6) (fun _ _ => rfl)) (pv 13)) pa_nil))))
      (pss_one (ps_expr (pe_bm PySem.F.plainAttrs_list PySem.F.slot_list_append PySem.F.type_list_append mt_append (pv 7) (pa_cons (pe_op op_catI (pe_op op_catI (pe_slice (slL (K := K) rfl) (pv 9) po_none (po_some (pv 5))) (pe_lstI (pa_cons (pv 14) pa_nil))) (pe_slice (slL (K := K) rfl) (pv 9) (po_some (pe_op op_add (pv 5) pe_int)) po_none)) pa_nil)))))))))))
      (pss_one (ps_set (i := 4) sc_l_all.nd rfl (by first | exact Or.inl rfl | exact Or.inr rfl) (pv 7))))))))
      (pss_one (ps_ret (pv 4)))))), ?_⟩
    have k1 := O.k1
    have k2 := O.k2
    have h2 := O.h2
    refine ⟨_, rfl, d, _, rfl, hD.at_, rfl, _, _, rfl, _, _, rfl, _, _, rfl, rfl, ?_⟩
    refine ⟨_, rfl, _, _, rfl, lenV_b hD.ks, ?_⟩
    rw [List.length_map, hD.len]
    refine ⟨_, _, rfl, rfl, _, rfl, by omega, by omega, fun g hg => ?_⟩
    refine lc_range (lo := 0) (n := ((D.ks.length : Int) + 1).toNat) (fun i H' => ∃ rs : List Addr, Same H H' ∧ H' g = some (.lst (rs.map V.ref)) ∧ Paired (RwAt H H' g) rs (List.replicate i [0])) ⟨[], same_new hg, upd_same, .nil⟩ (fun i H2 hi z => ?_) (fun H2 z => ?_)
    · obtain ⟨rs, s2, hg2, P2⟩ := z
      refine ⟨rfl, yesT ⟨rfl, fun r H3 s3 n3 h3 => ?_⟩⟩
      have hg3 := s3 _ _ hg2
      have lr : rs.length = i := by rw [Paired.length P2, List.length_replicate]
      refine ⟨_, hg3, by rw [List.length_map]; exact small' (by omega), rs ++ [r], Same.put (s2.trans s3) hg, by rw [upd_same, List.map_append] <;> rfl, ?_⟩
      rw [List.replicate_succ']
      exact pair_map (fun _ _ z => z.fr fr_upd) (pair_app (pair_map (fun _ _ z => z.fr (.of s3)) P2) (.cons ⟨h3, (ne_of_none hg2 n3).symm, same_none' s2 n3⟩ .nil))
    · obtain ⟨rs, s2, hg2, P2⟩ := z
      refine ⟨rfl, fun fo H3 s3 n3 h3 => ?_⟩
      refine ⟨_, rfl, _, _, rfl, lenV_b (hD.same (s2.trans s3)).cs.1, ?_⟩
      rw [List.length_map]
      have eK : ((D.ks.length : Int) + 1).toNat = D.ks.length + 1 := by omega
      rw [eK] at P2
      have T3 : TbL H H3 fo [g] (genH D 0) := .cons ⟨rs, s3 _ _ hg2, (ne_of_none hg2 n3), hg, pair_map (fun _ _ z => (z.to n3).fr (.of s3)) P2⟩ .nil
      refine ⟨_, rfl, by omega, by omega, for_range (lo := 0) (n := ((D.cs.length : Int)).toNat) (fun t σ H' => ∃ (f : Addr) (as : List Addr) (v5 v6 v7 v8 v9 v10 v11 v12 v13 v14 : Option V), σ = [some (.ref d), some (.ref x.c), some (.ref x.k), some (.ref x.s), some (.ref f), v5, v6, v7, v8, v9, v10, v11, v12, v13, v14] ∧ Same H H' ∧ H f = none ∧ H' f = some (.lst (as.map V.ref)) ∧ TbL H H' f as (genH D t))
        ⟨fo, [g], _, _, _, _, _, _, _, _, _, _, rfl, s2.trans s3, same_none' s2 n3, h3, T3⟩ ?_ ?_⟩
      · rintro t σ H4 ht ⟨f, as, v5, v6, v7, v8, v9, v10, v11, v12, v13, v14, rfl, s4, nf, hf, T4⟩
        rw [Int.toNat_natCast] at ht
        rw [Int.zero_add]
        refine ⟨_, rfl, _, _, rfl, lenV_b (hD.same s4).ks, ?_⟩
        rw [List.length_map, hD.len]
        refine ⟨_, rfl, _, rfl, _, _, _, D.ks.length + 1, rfl, rgC_down k2, for_rangeC (lo := (D.ks.length : Int)) (c := -1) (n := D.ks.length + 1) (fun j σ H' => ∃ (f : Addr) (as : List Addr) (v5 v7 v8 v9 v10 v11 v12 v13 v14 : Option V), σ = [some (.ref d), some (.ref x.c), some (.ref x.k), some (.ref x.s), some (.ref f), v5, some (.int (t : Nat)), v7, v8, v9, v10, v11, v12, v13, v14] ∧ Same H H' ∧ H f = none ∧ H' f = some (.lst (as.map V.ref)) ∧ TbL H H' f as (genP D t (genH D t) j))
          ⟨f, as, _, _, _, _, _, _, _, _, _, rfl, s4, nf, hf, T4⟩ ?_ ?_⟩
        · clear v5 v7 v8 v9 v10 v11 v12 v13 v14 v6 T4 hf nf
          clear f as
          rintro j σ H5 hj ⟨f, as, v5, v7, v8, v9, v10, v11, v12, v13, v14, rfl, s5, nf, hf, T5⟩
          obtain ⟨p', epl, lpl⟩ : ∃ pl : Nat, (D.ks.length : Int) + (j : Int) * -1 = (pl : Int) ∧ pl + j = D.ks.length := ⟨D.ks.length - j, by omega, by omega⟩
          rw [epl]
          have hp : p' ≤ D.ks.length := by omega
          have ep : D.ks.length - j = p' := by omega
          have hD5 := hD.same s5
          refine ⟨fun σ' H' => ∃ l, σ' = [some (.ref d), some (.ref x.c), some (.ref x.k), some (.ref x.s), some (.ref f), some (.int (p' : Nat)), some (.int (t : Nat)), some (.ref l), some (.int (mayT D p' t)), v9, v10, v11, v12, v13, v14] ∧ Same H5 H' ∧ H5 l = none ∧ H' l = some (.lst []), ?_, ?_⟩
          rotate_left
          · refine ⟨rfl, fun l H6 s6 n6 h6 => ?_⟩
            have hD6 := hD5.same s6
            refine ⟨_, rfl, _, rfl, _, _, rfl, lenV_b hD6.ks, ?_⟩
            rw [List.length_map, hD.len]
            refine ⟨rfl, _, rfl, ?_⟩
            by_cases c : p' = D.ks.length
            · refine ite_bT (decide_eq_true (by rw [c])) ?_
              refine ⟨_, rfl, _, rfl, ix_b (i := t) hD6.ss.1 rfl (ints_get (by rw [O.sl]; exact ht)) ?_⟩
              refine ⟨_, _, rfl, l, ?_, s6, n6, h6⟩
              rw [show mayT D p' t = D.ss.getD t 0 from if_pos c] <;> rfl
            · refine ite_bF (decide_eq_false (fun z => c (by injection z with z; omega))) ?_
              obtain ⟨ka, tt, b, gk, hk, hks⟩ := hD6.pot (j := p') (by omega)
              refine ⟨_, rfl, _, rfl, ix_b (i := p') hD6.ks rfl gk ⟨ka, _, 1, _, rfl, rfl, hk, at1, ?_⟩⟩
              refine ⟨_, rfl, ix_b (i := t) hks.1 rfl (ints_get (by rw [kt_len O (by omega)]; exact ht)) ?_⟩
              refine ⟨_, _, rfl, l, ?_, s6, n6, h6⟩
              rw [show mayT D p' t = (kt D p').2.getD t 0 from if_neg c] <;> rfl
          rintro σ H6 ⟨l, rfl, s6, nl5, hl6⟩
          have nl : H l = none := same_none' s5 nl5
          have s06 := s5.trans s6
          have hf6 := s6 _ _ hf
          have fl : f ≠ l := ne_of_none hf nl5
          have T6 : TbL H H6 l as (genP D t (genH D t) j) := (T5.to nl5).fr (.of s6)
          have la : as.length = (genP D t (genH D t) j).length := Paired.length T5
          have may2 := mayT_leB (p := p') (t := t) few.ss few.ks
          have b3 := few.b3
          have may0 := may_nn (t := t) N hp
          have sm := gen_smallB (t := t) (j := j + 1) few ht (by omega)
          refine ⟨_, rfl, f, rfl, ⟨_, SqL.of hf6⟩, for_it (walk_list (K := K) (a := f) (xs := as.map V.ref)) (fun i σ H' => ∃ (bs : List Addr) (v9 v10 v11 v12 v13 v14 : Option V), σ = [some (.ref d), some (.ref x.c), some (.ref x.k), some (.ref x.s), some (.ref f), some (.int (p' : Nat)), some (.int (t : Nat)), some (.ref l), some (.int (mayT D p' t)), v9, v10, v11, v12, v13, v14] ∧ Fr l H6 H' ∧ H' l = some (.lst (bs.map V.ref)) ∧ TbL H H' l bs (((genP D t (genH D t) j).take i).flatMap (extT D p' t)))
            ⟨[], v9, v10, v11, v12, v13, v14, rfl, .refl, hl6, .nil⟩ (fun i σ H' _ ⟨_, _, _, _, _, _, _, _, F, _⟩ => SqL.of (F _ _ fl hf6)) ?_ ?_⟩
          · rintro i v σ H0 H7 hi ⟨bs, u9, u10, u11, u12, u13, u14, rfl, F7, hl7, T7⟩ ⟨rfl, hv⟩
            rw [List.length_map] at hi
            rw [List.getElem?_map] at hv
            obtain ⟨a, ea, rfl⟩ := Option.map_eq_some_iff.mp hv
            obtain ⟨S, eS, tS⟩ := pair_get T6 ea
            have mS : S ∈ genP D t (genH D t) j := List.mem_of_getElem? eS
            have sh := genP_shape k1 (genH_shape k1 t) j (by omega) S mS
            obtain ⟨rs', ha7, al, _, P7⟩ := tS.fr F7
            have sH7 : Same H H7 := same_frb s06 nl F7
            obtain ⟨r, er, hr7, rl, _⟩ := pair_getR P7 (rowT_get (S := S) (p := p') (by rw [sh.len]; omega))
            have lenp : (rowT S p').length = t + 1 := (sh.row p' hp).trans (if_neg (by omega))
            refine ⟨_, rfl, _, rfl, a, _, (p' : Int), .ref r, rfl, rfl, SqL.of ha7, at_of (j := p') rfl (by rw [List.getElem?_map, er] <;> rfl), ?_⟩
            refine ⟨fun σ' H' => σ' = [some (.ref d), some (.ref x.c), some (.ref x.k), some (.ref x.s), some (.ref f), some (.int (p' : Nat)), some (.int (t : Nat)), some (.ref l), some (.int (mayT D p' t)), some (.ref a), some (.ref r), some (.int (firstT D S p' t - (rowT S p').getD t 0)), u12, u13, u14] ∧ Same H7 H', ?_, ?_⟩
            rotate_left
            · refine ⟨_, rfl, _, _, rfl, rfl, _, rfl, ?_⟩
              by_cases c0 : p' = 0
              · refine ite_bF (decide_eq_false (by omega)) ?_
                refine ⟨_, rfl, _, rfl, _, _, rfl, rfl, _, rfl, x.c, _, x.pc, rfl, (hD.same sH7).cs.1, fun cu H8 s8 hcu => ?_⟩
                rw [show (t : Int) + 1 = ((t + 1 : Nat) : Int) by omega, cut_to' (by rw [List.length_map]; omega), ← List.map_take] at hcu
                refine ⟨cu, _, x.pc, rfl, hcu, ?_⟩
                refine ⟨_, rfl, _, rfl, r, _, (t : Int), _, rfl, rfl, SqL.of (s8 _ _ hr7), at_of (j := t) rfl (ints_get (by omega)), _, _, rfl, rfl, ?_⟩
                refine ⟨?_, s8⟩
                rw [show firstT D S p' t = csum D (t + 1) from if_pos c0] <;> rfl
              · refine ite_bT (decide_eq_true (by omega)) ?_
                obtain ⟨r1, er1, hr1, _⟩ := pair_getR P7 (rowT_get (S := S) (p := p' - 1) (by rw [sh.len]; omega))
                refine ⟨_, rfl, _, rfl, _, _, rfl, rfl, a, _, (p' : Int) - 1, .ref r1, rfl, rfl, SqL.of ha7, at_of (j := p' - 1) (by omega) (by rw [List.getElem?_map, er1] <;> rfl), ?_⟩
                refine ⟨_, rfl, r1, _, (t : Int), _, rfl, rfl, SqL.of hr1, at_of (j := t) rfl (ints_get (by rw [sh.row (p' - 1) (by omega)]; unfold lenT; split <;> omega)), ?_⟩
                refine ⟨_, rfl, _, rfl, r, _, (t : Int), _, rfl, rfl, SqL.of hr7, at_of (j := t) rfl (ints_get (by omega)), _, _, rfl, rfl, ?_⟩
                refine ⟨?_, .refl _⟩
                rw [show firstT D S p' t = (rowT S (p' - 1)).getD t 0 from if_neg c0] <;> rfl
            rintro σ H8 ⟨rfl, s8⟩
            have ha8 := s8 _ _ ha7
            have hr8 := s8 _ _ hr7
            have hD8 := hD.same (sH7.trans s8)
            have P8 := pair_map (fun _ _ z => RwAt.fr z (.of s8)) P7
            refine ⟨fun σ' H' => ∃ w12, σ' = [some (.ref d), some (.ref x.c), some (.ref x.k), some (.ref x.s), some (.ref f), some (.int (p' : Nat)), some (.int (t : Nat)), some (.ref l), some (.int (mayT D p' t)), some (.ref a), some (.ref r), some (.int (mostT D S p' t)), w12, u13, u14] ∧ H' = H8, ?_, ?_⟩
            rotate_left
            · refine ⟨_, rfl, _, rfl, _, _, rfl, lenV_b hD8.ks, ?_⟩
              rw [List.length_map, hD.len]
              refine ⟨_, _, rfl, rfl, _, rfl, ?_⟩
              by_cases c : p' < D.ks.length
              · refine ite_bT (decide_eq_true (by omega)) ?_
                obtain ⟨r2, er2, hr2, _⟩ := pair_getR P8 (rowT_get (S := S) (p := p' + 1) (by rw [sh.len]; omega))
                refine ⟨_, rfl, _, rfl, _, _, rfl, rfl, a, _, (p' : Int) + 1, .ref r2, rfl, rfl, SqL.of ha8, at_of (j := p' + 1) (by omega) (by rw [List.getElem?_map, er2] <;> rfl), ?_⟩
                refine ⟨_, rfl, _, _, rfl, rfl, r2, _, (t : Int) + 1, _, rfl, rfl, SqL.of hr2, at_of (j := t + 1) (by omega) (ints_get (by rw [sh.row (p' + 1) (by omega)]; unfold lenT; rw [if_pos (by omega)]; omega)), ?_⟩
                refine ⟨_, fun _ _ z => z, ?_⟩
                obtain ⟨ka, tt, b, gk, hk, hks⟩ := hD8.pot (j := p') c
                refine ⟨_, rfl, _, rfl, _, rfl, ix_b (i := p') hD8.ks rfl gk ⟨ka, _, 0, _, rfl, rfl, hk, at0, ?_⟩⟩
                refine ⟨_, rfl, _, _, rfl, rfl, _, rfl, _, rfl, r, _, (t : Int), _, rfl, rfl, SqL.of hr8, at_of (j := t) rfl (ints_get (by omega)), _, _, rfl, rfl, _, _, rfl, ?_⟩
                refine ⟨some (.int ((rowT S (p' + 1)).getD (t + 1) 0)), ?_, rfl⟩
                have e : (if (kt D p').1 + (rowT S (p' + 1)).getD (t + 1) 0 - (rowT S p').getD t 0 < firstT D S p' t - (rowT S p').getD t 0 then (kt D p').1 + (rowT S (p' + 1)).getD (t + 1) 0 - (rowT S p').getD t 0 else firstT D S p' t - (rowT S p').getD t 0) = mostT D S p' t := by
                  unfold mostT
                  rw [if_pos c]
                  split <;> omega
                rw [e] <;> rfl
              · refine ite_bF (decide_eq_false (by omega)) ?_
                refine ⟨u12, ?_, rfl⟩
                rw [show mostT D S p' t = firstT D S p' t - (rowT S p').getD t 0 from if_neg c] <;> rfl
            rintro σ H9 ⟨w12, rfl, e9⟩
            obtain rfl := e9.symm
            refine ⟨_, rfl, _, rfl, _, _, rfl, _, _, rfl, rfl, ?_⟩
            have em : (if mayT D p' t < mostT D S p' t then mayT D p' t else mostT D S p' t) + 1 = min (mostT D S p' t) (mayT D p' t) + 1 := by split <;> omega
            have lo := most_lo N (by omega) sh (by omega)
            rw [ep] at lo
            have F8 : Fr l H6 H8 := F7.trans (.of s8)
            refine ⟨min (mostT D S p' t) (mayT D p' t) + 1, by rw [← em] <;> rfl, by omega, by omega, for_range (lo := 0) (n := (min (mostT D S p' t) (mayT D p' t) + 1).toNat) (fun q σ H' => ∃ (cs : List Addr) (w13 w14 : Option V), σ = [some (.ref d), some (.ref x.c), some (.ref x.k), some (.ref x.s), some (.ref f), some (.int (p' : Nat)), some (.int (t : Nat)), some (.ref l), some (.int (mayT D p' t)), some (.ref a), some (.ref r), some (.int (mostT D S p' t)), w12, w13, w14] ∧ Fr l H8 H' ∧ H' l = some (.lst (cs.map V.ref)) ∧ TbL H H' l cs (((genP D t (genH D t) j).take i).flatMap (extT D p' t) ++ (extT D p' t S).take q))
              ⟨bs, _, _, rfl, .refl, s8 _ _ hl7, by rw [List.take_zero, List.append_nil]; exact T7.fr (.of s8)⟩ ?_ ?_⟩
            · rintro q σ H9 hq ⟨cs, w13, w14, rfl, F9, hl9, T9⟩
              rw [Int.zero_add]
              have hr9 := F9 _ _ rl hr8
              have ha9 := F9 _ _ al ha8
              refine ⟨_, rfl, _, rfl, _, rfl, r, _, (t : Int), _, rfl, rfl, SqL.of hr9, at_of (j := t) rfl (ints_get (by omega)), _, rfl, _, _, rfl, rfl, rfl, fun l1 H10 s10 n10 h10 => ?_⟩
              refine ⟨r, l1, _, _, rfl, rfl, s10 _ _ hr9, h10, by rw [List.length_map, lenp, sizeLine_eq]; show t + 1 + 1 ≤ _; omega, fun m H11 s11 n11 h11 => ?_⟩
              have ha11 := s11 _ _ (s10 _ _ ha9)
              refine ⟨_, rfl, .inl ⟨rfl, _, SqL.of ((s10.trans s11) _ _ hl9)⟩, ?_⟩
              refine ⟨_, rfl, _, rfl, _, rfl, a, _, rfl, SqL.of ha11, fun c1 H12 s12 n12 h12 => ⟨_, rfl, rfl, fun c2 H13 s13 n13 h13 => ?_⟩⟩
              have lr := Paired.length P7
              rw [sh.len] at lr
              refine ⟨c1, c2, _, _, rfl, rfl, s13 _ _ h12, h13, ?_, fun c3 H14 s14 n14 h14 => ?_⟩
              · rw [cut_to' (by rw [List.length_map]; omega), List.length_take, List.length_map, sizeLine_eq]
                show _ + 1 ≤ _
                omega
              have s1214 := s12.trans (s13.trans s14)
              refine ⟨_, rfl, _, rfl, _, _, rfl, rfl, _, rfl, a, _, rfl, SqL.of (s1214 _ _ ha11), fun c4 H15 s15 n15 h15 => ?_⟩
              refine ⟨c3, c4, _, _, rfl, rfl, s15 _ _ h14, h15, ?_, fun c5 H16 s16 n16 h16 => ?_⟩
              · rw [cut_to' (by rw [List.length_map]; omega), List.length_append, List.length_take, List.length_map, sizeLine_eq]
                have z : (cutV (rs'.map V.ref) (some ((p' : Int) + 1)) none).length ≤ 10 := by
                  unfold cutV
                  rw [List.length_take, List.length_drop, List.length_map]
                  omega
                show _ + 1 + _ ≤ _
                omega
              rw [tab_set (by omega)] at h16
              have s916 : Same H9 H16 := s10.trans (s11.trans (s1214.trans (s15.trans s16)))
              have hl15 := (s10.trans (s11.trans (s1214.trans s15))) _ _ hl9
              have hl16 := s16 _ _ hl15
              have lc := Paired.length T9
              rw [List.length_append] at lc
              have lf := flat_len (g := extT D p' t) (n := b + 1) (F := (genP D t (genH D t) j).take i) fun S _ => ext_lenB may2
              have le := ext_lenB (S := S) may2
              have sj := gen_smallB (t := t) (j := j) few ht (by omega)
              rw [List.length_take] at lf lc
              have lm : min i (genP D t (genH D t) j).length * (b + 1) ≤ 6561 * 4 := Nat.mul_le_mul (Nat.le_trans (Nat.min_le_right _ _) sj) (by omega)
              refine ⟨l, _, _, rfl, rfl, hl16, by rw [List.length_map]; exact small' (by omega), ?_⟩
              have F916 : Fr l H9 H16 := .of s916
              have P16 := pair_map (fun _ _ z => RwAt.fr z (F9.trans F916)) P8
              have ml : m ≠ l := (ne_of_none (s10 _ _ hl9) n11).symm
              have hm16 : H16 m = some (.lst ((rowT S p' ++ [(rowT S p').getD t 0 + (q : Int)]).map V.int)) := by
                rw [(s1214.trans (s15.trans s16)) _ _ h11, List.map_append] <;> rfl
              refine ⟨cs ++ [c5], _, _, rfl, (F9.trans F916).put, by rw [upd_same, List.map_append] <;> rfl, ?_⟩
              rw [take_one (ext_get hq), ← List.append_assoc]
              exact TbL.fr (pair_app (T9.fr F916) (.cons ⟨rs'.set p' m, h16, (ne_of_none hl15 n16).symm, same_none' (same_frb s06 nl (F8.trans (F9.trans (.of (s10.trans (s11.trans (s1214.trans s15))))))) n16, pair_set P16 ⟨hm16, ml, same_none' (same_frb s06 nl (F8.trans (F9.trans (.of s10)))) n11⟩⟩ .nil)) fr_upd
            · rintro σ H9 ⟨cs, w13, w14, rfl, F9, hl9, T9⟩
              rw [ext_all] at T9
              refine ⟨cs, _, _, _, _, _, _, rfl, F8.trans F9, hl9, ?_⟩
              rw [take_one eS, List.flatMap_append, List.flatMap_cons, List.flatMap_nil, List.append_nil]
              exact T9
          · rintro σ H9 ⟨bs, u9, u10, u11, u12, u13, u14, rfl, F7, hl7, T7⟩
            rw [List.length_map, la, List.take_length] at T7
            refine ⟨_, rfl, ?_⟩
            refine ⟨l, bs, _, _, _, _, _, _, _, _, _, rfl, same_frb s06 nl F7, nl, hl7, ?_⟩
            show TbL H H9 l bs ((genP D t (genH D t) j).flatMap (extT D (D.ks.length - j) t))
            rw [ep]
            exact T7
        · rintro σ H5 ⟨f, as, v5, v7, v8, v9, v10, v11, v12, v13, v14, rfl, s5, nf, hf, T5⟩
          exact ⟨f, as, _, _, _, _, _, _, _, _, _, _, rfl, s5, nf, hf, T5⟩
      · rintro σ H4 ⟨f, as, v5, v6, v7, v8, v9, v10, v11, v12, v13, v14, rfl, s4, nf, hf, T4⟩
        rw [Int.toNat_natCast] at T4
        exact ⟨_, rfl, q f as H4 s4 nf hf T4⟩

end
end KR
namespace KR
open PySem PySem.Spec PyProof.Rows L2
section
variable {P : Program} {w : World} {K : PySem.W.Frag} {mg : Str → Option Value} {base : Heap}
def sp_l_small_day (K : PySem.W.Frag) : Sp := fun vs H Q _ => ∃ (p : Addr) (n : Nat), vs = [.ref p] ∧ BoxAt H p n ∧ n ≤ 999970000 ∧
  ∀ (d : Addr) (x : DyP) (D : Dy) (H' : Hp), DayAt K H' p d x D → x.pc = true → x.pk = true → x.ps = true → DyOk D → DyNn D → D.cs.length * (D.ks.length + 1) ≤ 8 → (D.cs.length < 4 → D.cs.length * (D.ks.length + 1) ≤ 6) → (∀ u ∈ D.ss, u ≤ 2) → (∀ k ∈ D.ks, (∀ u ∈ k.2, u ≤ 2) ∧ k.1 ≤ 6) → BoxAt H' p (n + 3000) → Fr p H H' → Q (.ref d) H'
theorem ok_l_small_day (T : All K mg) : FnOk P w K mg base CX0 4 T.f_l_small_day T.fd_l_small_day ["_law_box_here"] (sp_l_small_day K) := by
  refine T.d_l_small_day.fn.ok sc_l_small_day (fun vs H Q E h => ?_) (fun cdv A outer s H vs Q E hr h => ?_)
  · obtain ⟨p, n, rfl, _⟩ := h
    rfl
  · obtain ⟨p, n, rfl, hB, hn, q⟩ := h
    refine ⟨_, (pss_cons (ps_asg (pe_ix (ixL (K := K) rfl) (pe_lstI (pa_cons (pe_tupI (pa_cons pe_int (pa_cons pe_int pa_nil))) (pa_cons (pe_tupI (pa_cons pe_int (pa_cons pe_int pa_nil))) (pa_cons (pe_tupI (pa_cons (pe_op op_add pe_int (pe_call (ok_l_take T) (hr.mono (by decide)) (by rfl) T.d_l_take.mg T.d_l_take.fn.kp T.d_l_take.b .nil pass0 (pa_cons (pv 0) (pa_cons pe_int pa_nil)))) (pa_cons pe_int pa_nil))) pa_nil)))) (pe_call (ok_l_take T) (hr.mono (by decide)) (by rfl) T.d_l_take.mg T.d_l_take.fn.kp T.d_l_take.b .nil pass0 (pa_cons (pv 0) (pa_cons pe_int pa_nil))) (fun _ _ => rfl)) (pg_tupK (K := K) rfl rfl (pgs_cons (pg_name (i := 1) sc_l_small_day.nd rfl (by first | exact Or.inl rfl | exact Or.inr rfl)) (pgs_cons (pg_name (i := 2) sc_l_small_day.nd rfl (by first | exact Or.inl rfl | exact Or.inr rfl)) pgs_nil))))
      (pss_one (ps_ret (pe_call (ok_l_day T) hr (by rfl) T.d_l_day.mg T.d_l_day.fn.kp T.d_l_day.b .nil pass0 (pa_cons (pv 0) (pa_cons (pv 1) (pa_cons (pv 2) (pa_cons (pe_op op_add pe_int (pe_call (ok_l_take T) (hr.mono (by decide)) (by rfl) T.d_l_take.mg T.d_l_take.fn.kp T.d_l_take.b .nil pass0 (pa_cons (pv 0) (pa_cons pe_int pa_nil)))) pa_nil)))))))), ?_⟩
    refine ⟨rfl, fun t1 H1 s1 n1 h1 => ⟨rfl, fun t2 H2 s2 n2 h2 => ?_⟩⟩
    refine ⟨_, rfl, p, 4, n, rfl, (hB.same s1).same s2, by omega, by decide, by decide, fun a H3 a0 a1 B3 F3 => ⟨_, _, rfl, rfl, rfl, fun t3 H4 s4 n4 h4 => ⟨rfl, fun l1 H5 s5 n5 h5 => ?_⟩⟩⟩
    obtain ⟨an, rfl⟩ : ∃ an : Nat, a = (an : Int) := ⟨a.toNat, by omega⟩
    have s12 := s1.trans s2
    have s45 := s4.trans s5
    have B5 := B3.same s45
    have l1p := (B3.same s4).new n5
    refine ⟨_, rfl, p, 3, _, rfl, B5, by omega, by decide, by decide, fun y H6 y0 y1 B6 F6 => ?_⟩
    have F36 : Fr p H2 H6 := F3.trans ((Fr.of s45).trans F6)
    have B2 := (hB.same s12)
    obtain ⟨tt, hh, kk', ep, ht, a1', a2', a3', a4', a5', a6'⟩ : ∃ (tt : Addr) (hh kk' : Nat), atI ([.ref t1, .ref t2, .ref t3] : List V) y = some (.ref tt) ∧ SqT K H6 tt [.int (hh : Int), .int (kk' : Int)] ∧ 1 ≤ hh ∧ hh ≤ 48 ∧ 1 ≤ kk' ∧ kk' ≤ 8 ∧ hh * (kk' + 1) ≤ 8 ∧ (hh < 4 → hh * (kk' + 1) ≤ 6) := by
      have cs : y = 0 ∨ y = 1 ∨ y = 2 := by omega
      rcases cs with e | e | e <;> subst e
      · exact ⟨t1, 3, 1, rfl, sqT_fr (SqT.of (s2 _ _ h1)) B2 F36, by decide, by decide, by decide, by decide, by decide, by decide⟩
      · exact ⟨t2, 2, 2, rfl, sqT_fr (SqT.of h2) B2 F36, by decide, by decide, by decide, by decide, by decide, by decide⟩
      · exact ⟨t3, 1 + an, 1, rfl, sqT_fr (SqT.of (s5 _ _ h4)) B5 F6, by omega, by omega, by omega, by omega, by omega, by omega⟩
    refine ⟨l1, _, y, _, rfl, rfl, SqL.of (F6 _ _ l1p h5), ep, ?_⟩
    refine ⟨tt, _, rfl, ht, rfl, _, _, rfl, _, _, rfl, rfl, ?_⟩
    refine ⟨_, rfl, _, rfl, _, rfl, _, rfl, p, 2, _, rfl, B6, by omega, by decide, by decide, fun z H7 z0 z1 B7 F7 => ⟨_, _, rfl, rfl, ?_⟩⟩
    refine ⟨p, _, hh, kk', 1 + z, rfl, B7, by omega, a1', a2', a3', a4', by omega, by omega, fun d x D H8 hD O nn e1 e2 w1 w2 f1 f2 f3 B8 F8 => ?_⟩
    refine q d x D H8 hD f1 f2 f3 O nn (by rw [e1, e2]; exact a5') (by rw [e1, e2]; exact a6') (fun u hu => by have := w1 u hu; omega) (fun k hk => ⟨fun u hu => by have := (w2 k hk).1 u hu; omega, by have := (w2 k hk).2; omega⟩) (B8.mono (by omega)) (((Fr.of s12).trans F36).trans (F7.trans F8))

end
end KR
namespace KR
open PySem PySem.Spec PyProof.Rows L2
section
variable {P : Program} {w : World} {K : PySem.W.Frag} {mg : Str → Option Value} {base : Heap}
def sp_l_plan_of (K : PySem.W.Frag) : Sp := fun vs H Q _ => ∃ (H0 : Hp) (f a : Addr) (S : Tbl), vs = [.ref a] ∧ TbAt H0 H f a S ∧ (∀ r ∈ S, 1 ≤ r.length ∧ r.length ≤ 60) ∧ S.length ≤ 60 ∧ ∀ (g : Addr) (rs : List Addr) (H' : Hp), Same H H' → H g = none → H' g = some (.lst (rs.map V.ref)) → Paired (fun r ns => H' r = some (.lst (ns.map V.int)) ∧ H r = none) rs (planT S) → Q (.ref g) H'
theorem ok_l_plan_of (T : All K mg) : FnOk P w K mg base CX0 1 T.f_l_plan_of T.fd_l_plan_of ["_law_sums"] (sp_l_plan_of K) := by
  refine T.d_l_plan_of.fn.ok sc_l_plan_of (fun vs H Q E h => ?_) (fun cdv A outer s H vs Q E hr h => ?_)
  · obtain ⟨H0, f, a, S, rfl, _⟩ := h
    rfl
  · obtain ⟨H0, f, a, S, rfl, ⟨rs, ha, af, _, P⟩, hl, sl, q⟩ := h
    refine ⟨_, (pss_one (ps_ret (pe_lc (own := [("_law_row", 3)]) (g := gName 3) (tt := tYes) (by rfl) sc_l_plan_of.nd (pi_listK (K := K) rfl (pv 0)) (blkOk_by (own := [("_law_row", 3)]) (N := ["_law_sums", "_law_ahead", "_law_one", "_law_row"]) (sc := defScope s_l_plan_of) (by decide +kernel)) (fun _ _ _ _ _ => (pg_name (i := 3) sc_l_plan_of.nd rfl (by first | exact Or.inl rfl | exact Or.inr rfl))) (fun _ _ _ _ _ => pts_nil) (fun _ _ _ _ _ => (pe_lc (own := [("_law_ahead", 1), ("_law_one", 2)]) (g := gTup K 2 (gCons (gName 1) (gCons (gName 2) gNil))) (tt := tYes) (by rfl) sc_l_plan_of.nd (pi_zipK (K := K) rfl (by rfl) T.b_zip (pa_cons (pv 3) (pa_cons (pe_slice (slL (K := K) rfl) (pv 3) (po_some pe_int) po_none) pa_nil))) (blkOk_in (own := [("_law_ahead", 1), ("_law_one", 2)]) (N := ["_law_sums", "_law_ahead", "_law_one", "_law_row"]) (sc := defScope s_l_plan_of) rfl (by decide +kernel)) (fun _ _ _ _ _ => (pg_tupK (K := K) rfl rfl (pgs_cons (pg_name (i := 1) sc_l_plan_of.nd rfl (by first | exact Or.inl rfl | exact Or.inr rfl)) (pgs_cons (pg_name (i := 2) sc_l_plan_of.nd rfl (by first | exact Or.inl rfl | exact Or.inr rfl)) pgs_nil)))) (fun _ _ _ _ _ => pts_nil) (fun _ _ _ _ _ => (pe_op op_sub (pv 2) (pv 1)))))))), ?_⟩
    refine ⟨_, rfl, a, rfl, ⟨_, SqL.of ha⟩, fun g hg => ?_⟩
    have lr := Paired.length P
    have lT : (planT S).length = S.length := List.length_map _
    refine lc_it (walk_list (K := K) (a := a) (xs := rs.map V.ref)) (fun i H' => ∃ gs : List Addr, Same H H' ∧ H' g = some (.lst (gs.map V.ref)) ∧ Paired (fun r ns => H' r = some (.lst (ns.map V.int)) ∧ H r = none ∧ r ≠ g) gs ((planT S).take i))
      ⟨[], same_new hg, upd_same, .nil⟩ (fun i H' _ ⟨_, s, _⟩ => SqL.of (s _ _ ha)) ?_ ?_
    · rintro i v H1' H1 hi ⟨gs, s1, hg1, P1⟩ ⟨rfl, hv⟩
      rw [List.length_map] at hi
      rw [List.getElem?_map] at hv
      obtain ⟨r, er, rfl⟩ := Option.map_eq_some_iff.mp hv
      obtain ⟨ns, en, hr⟩ := pair_get P er
      obtain ⟨l1, l2⟩ := hl ns (List.mem_of_getElem? en)
      have hr1 := s1 _ _ hr.1
      refine ⟨rfl, yesT ?_⟩
      refine ⟨_, rfl, _, rfl, _, rfl, r, _, rfl, SqL.of hr1, fun c H2 s2 n2 h2 => ?_⟩
      rw [show (1 : Int) = ((1 : Nat) : Int) from rfl, cut_from (by rw [List.length_map]; exact l1)] at h2
      have hr2 := s2 _ _ hr1
      have hg2 := s2 _ _ hg1
      refine ⟨r, c, _, _, rfl, .inl ⟨SqL.of hr2, SqL.of h2, fun G hG => ?_⟩⟩
      have gx : ∀ u, u < ns.length - 1 → (ns.map V.int)[u]? = some (.int (ns.getD u 0)) := fun u hu => ints_get (by omega)
      have gy : ∀ u, u < ns.length - 1 → ((ns.map V.int).drop 1)[u]? = some (.int (ns.getD (u + 1) 0)) := fun u hu => by
        rw [List.getElem?_drop, show 1 + u = u + 1 by omega]
        exact ints_get (by omega)
      refine lc_pair (J := Itz K r c) (n := ns.length - 1) (St := fun H2 => SqL K H2 r (ns.map V.int) ∧ SqL K H2 c ((ns.map V.int).drop 1)) (px := fun u => .int (ns.getD u 0)) (py := fun u => .int (ns.getD (u + 1) 0))
        (fun u H3 hu z => ⟨_, _, _, _, z.1, z.2, gx u hu, gy u hu⟩) (fun H3 z => ⟨_, _, z.1, z.2, .inr (by rw [List.length_drop, List.length_map]; omega)⟩) (fun u H3 v H4 hu z y => ?_)
        (fun u H3 => Same H2 H3 ∧ H3 G = some (.lst (((planR ns).take u).map V.int))) ⟨same_new hG, upd_same⟩ (fun u H3 _ z => ⟨SqL.of (z.1 _ _ hr2), SqL.of (z.1 _ _ h2)⟩) (fun u T0 H3 hu z hT => ?_) (fun H3 z => ?_)
      · obtain ⟨T0, x, y', rfl, hT, rfl, f1, f2⟩ := y
        have e1 := f1 _ z.1
        have e2 := f2 _ z.2
        rw [gx u hu] at e1
        rw [gy u hu] at e2
        cases e1
        cases e2
        exact ⟨T0, rfl, hT, rfl⟩
      · refine ⟨T0, _, rfl, SqT.of upd_same, rfl, _, _, rfl, _, _, rfl, rfl, rfl, yesT ?_⟩
        refine ⟨_, rfl, _, rfl, _, _, rfl, rfl, ?_⟩
        have sT : Same H3 (upd H3 T0 (.tup [.int (ns.getD u 0), .int (ns.getD (u + 1) 0)])) := same_new hT
        refine ⟨_, sT _ _ z.2, by rw [List.length_map, List.length_take]; exact small' (by omega), Same.put (z.1.trans sT) hG, ?_⟩
        rw [upd_same, take_one (planR_get (by omega)), List.map_append] <;> rfl
      · obtain ⟨s3, hG3⟩ := z
        rw [List.take_of_length_le (by rw [planR_len]; exact Nat.le_refl _)] at hG3
        have hg3 := s3 _ _ hg2
        have Gg : G ≠ g := (ne_of_none hg2 hG).symm
        have lg := Paired.length P1
        rw [List.length_take] at lg
        have s13 := s2.trans s3
        refine ⟨_, hg3, by rw [List.length_map]; exact small' (by omega), gs ++ [G], Same.put (s1.trans s13) hg, by rw [upd_same, List.map_append] <;> rfl, ?_⟩
        have ep : (planT S)[i]? = some (planR ns) := by
          unfold planT
          rw [List.getElem?_map, en] <;> rfl
        rw [take_one ep]
        exact pair_app (pair_map (fun _ _ z => ⟨by rw [upd_ne z.2.2]; exact s13 _ _ z.1, z.2⟩) P1) (.cons ⟨by rw [upd_ne Gg]; exact hG3, same_none' (s1.trans s2) hG, Gg⟩ .nil)
    · rintro H1 ⟨gs, s1, hg1, P1⟩
      rw [List.length_map, lr, List.take_of_length_le (by unfold planT; rw [List.length_map]; exact Nat.le_refl _)] at P1
      exact q g gs H1 s1 hg hg1 (pair_map (fun _ _ z => ⟨z.1, z.2.1⟩) P1)

end
end KR
namespace KR
open PySem PySem.Spec PyProof.Rows L2
section
variable {P : Program} {w : World} {K : PySem.W.Frag} {mg : Str → Option Value} {base : Heap}
def sp_l_more (K : PySem.W.Frag) : Sp := fun vs H Q _ => ∃ (p d : Addr) (x : DyP) (D : Dy) (i : Nat), vs = [.ref d, .int (i : Int)] ∧ DayAt K H p d x D ∧ (∃ o, H p = some o) ∧ x.pk = true ∧ DyOk D ∧ i ≤ D.ks.length ∧ ∀ (w : Addr) (x' : DyP) (H' : Hp), Same H H' → DayAt K H' p w x' (widerD D i) → Q (.ref w) H'
theorem ok_l_more (T : All K mg) : FnOk P w K mg base CX0 1 T.f_l_more T.fd_l_more ["_law_day_here", "_law_place"] (sp_l_more K) := by
  refine T.d_l_more.fn.ok sc_l_more (fun vs H Q E h => ?_) (fun cdv A outer s H vs Q E hr h => ?_)
  · obtain ⟨p, d, x, D, i, rfl, _⟩ := h
    rfl
  · obtain ⟨p, d, x, D, i, rfl, hD, ⟨op, hp⟩, xk, O, hi, q⟩ := h
    refine ⟨_, (pss_cons (ps_asg (pv 0) (pg_tupK (K := K) rfl rfl (pgs_cons (pg_name (i := 2) sc_l_more.nd rfl (by first | exact Or.inl rfl | exact Or.inr rfl)) (pgs_cons (pg_name (i := 3) sc_l_more.nd rfl (by first | exact Or.inl rfl | exact Or.inr rfl)) (pgs_cons (pg_name (i := 4) sc_l_more.nd rfl (by first | exact Or.inl rfl | exact Or.inr rfl)) pgs_nil)))))
      (pss_cons (ps_if (pt_cmpR op_eq (pv 1) (pe_callB (lenQ (K := K) rfl) (by rfl) T.b_len PySem.boot_len (pa_cons (pv 3) pa_nil)) (nomark _)) (pss_one (ps_ret (pe_tupI (pa_cons (pv 2) (pa_cons (pv 3) (pa_cons (pe_lc (own := [("_law_one", 5)]) (g := gName 5) (tt := tYes) (by rfl) sc_l_more.nd (pi_seqB (K := K) rfl (pv 4)) (blkOk_by (own := [("_law_one", 5)]) (N := ["_law_day_here", "_law_place", "_law_comes", "_law_kettles", "_law_strikes", "_law_one", "_law_room", "_law_takes"]) (sc := defScope s_l_more) (by decide +kernel)) (fun _ _ _ _ _ => (pg_name (i := 5) sc_l_more.nd rfl (by first | exact Or.inl rfl | exact Or.inr rfl))) (fun _ _ _ _ _ => pts_nil) (fun _ _ _ _ _ => (pe_op op_add (pv 5) pe_int))) pa_nil)))))) pss_nil)
      (pss_cons (ps_asg (pe_ix (ixL (K := K) rfl) (pv 3) (pv 1) (fun _ _ => rfl)) (pg_tupK (K := K) rfl rfl (pgs_cons (pg_name (i := 6) sc_l_more.nd rfl (by first | exact Or.inl rfl | exact Or.inr rfl)) (pgs_cons (pg_name (i := 7) sc_l_more.nd rfl (by first | exact Or.inl rfl | exact Or.inr rfl)) pgs_nil))))
      (pss_one (ps_ret (pe_tupI (pa_cons (pv 2) (pa_cons (pe_op op_catI (pe_op op_catI (pe_slice (slL (K := K) rfl) (pv 3) po_none (po_some (pv 1))) (pe_lstI (pa_cons (pe_tupI (pa_cons (pe_op op_add (pv 6) pe_int) (pa_cons (pe_lc (own := [("_law_one", 5)]) (g := gName 5) (tt := tYes) (by rfl) sc_l_more.nd (pi_seqB (K := K) rfl (pv 7)) (blkOk_by (own := [("_law_one", 5)]) (N := ["_law_day_here", "_law_place", "_law_comes", "_law_kettles", "_law_strikes", "_law_one", "_law_room", "_law_takes"]) (sc := defScope s_l_more) (by decide +kernel)) (fun _ _ _ _ _ => (pg_name (i := 5) sc_l_more.nd rfl (by first | exact Or.inl rfl | exact Or.inr rfl))) (fun _ _ _ _ _ => pts_nil) (fun _ _ _ _ _ => (pe_op op_add (pv 5) pe_int))) pa_nil))) pa_nil))) (pe_slice (slL (K := K) rfl) (pv 3) (po_some (pe_op op_add (pv 1) pe_int)) po_none)) (pa_cons (pv 4) pa_nil))))))))), ?_⟩
    have h2 := O.h2
    have k2 := O.k2
    have hk0 : SqL K H x.k (x.as.map V.ref) := by
      have z := hD.ks
      rw [xk] at z
      exact z
    refine ⟨_, rfl, d, _, rfl, hD.at_, rfl, _, _, rfl, _, _, rfl, _, _, rfl, rfl, ?_⟩
    refine ⟨_, rfl, _, rfl, x.k, _, rfl, .inl hk0, ?_⟩
    rw [List.length_map, hD.len]
    refine ⟨rfl, _, rfl, ?_⟩
    by_cases c : i = D.ks.length
    · subst c
      refine ite_bT (decide_eq_true rfl) ?_
      refine ⟨_, rfl, _, rfl, ?_⟩
      refine inc_lc (i := 4) (n := 5) rfl (by show 5 < 8; decide) hD.ss (by rw [O.sl]; exact h2) fun G H1 s1 n1 h1 => ⟨rfl, fun w H2 s2 n2 h2' => ?_⟩
      exact q w _ H2 (s1.trans s2) (wider_atS hD (s1.trans s2) h2' (s2 _ _ h1) (ne_of_none hp n1).symm)
    · refine ite_bF (decide_eq_false fun e => c (by injection e with e; omega)) ?_
      have lt : i < D.ks.length := by omega
      obtain ⟨ka, t, b, gk, hk, ht⟩ := hD.pot (j := i) lt
      refine ⟨_, rfl, _, rfl, x.k, _, _, _, rfl, rfl, hk0, at_of rfl gk, ?_⟩
      refine ⟨ka, _, rfl, hk, rfl, _, _, rfl, _, _, rfl, rfl, ?_⟩
      have al : i < (x.as.map V.ref).length := by rw [List.length_map, hD.len]; exact lt
      refine ⟨_, rfl, _, rfl, _, rfl, _, rfl, x.k, _, rfl, hk0, fun c1 H1 s1 n1 h1 => ?_⟩
      rw [cut_to' (Nat.le_of_lt al)] at h1
      refine ⟨_, rfl, _, _, rfl, rfl, ?_⟩
      refine inc_lc (i := 7) (n := 5) rfl (by show 5 < 8; decide) (ht.same s1) (by rw [kt_len O lt]; exact h2) fun G H2 s2 n2 h2' => ⟨rfl, fun u H3 s3 n3 h3 => ⟨rfl, fun l1 H4 s4 n4 h4 => ?_⟩⟩
      refine ⟨c1, l1, _, _, rfl, rfl, (s2.trans (s3.trans s4)) _ _ h1, h4, ?_, fun c2 H5 s5 n5 h5 => ?_⟩
      · rw [List.length_take, List.length_map, hD.len, sizeLine_eq]
        show min i D.ks.length + 1 ≤ _
        omega
      have s15 := s2.trans (s3.trans (s4.trans s5))
      refine ⟨_, rfl, _, rfl, _, _, rfl, rfl, _, rfl, x.k, _, rfl, (Same.seq (s1.trans s15) hk0), fun c3 H6 s6 n6 h6 => ?_⟩
      rw [show (i : Int) + 1 = ((i + 1 : Nat) : Int) by omega, cut_from (by omega)] at h6
      refine ⟨c2, c3, _, _, rfl, rfl, s6 _ _ h5, h6, ?_, fun L H7 s7 n7 h7 => ?_⟩
      · rw [List.length_append, List.length_take, List.length_drop, List.length_map, hD.len, sizeLine_eq]
        show min i D.ks.length + 1 + _ ≤ _
        omega
      rw [set_cut al, show (x.as.map V.ref).set i (V.ref u) = (x.as.set i u).map V.ref from List.map_set.symm] at h7
      refine ⟨_, rfl, rfl, fun w H8 s8 n8 h8 => ?_⟩
      have s06 := s1.trans (s15.trans s6)
      have s38 := s4.trans (s5.trans (s6.trans (s7.trans s8)))
      have sA := s06.trans (s7.trans s8)
      exact q w _ H8 sA (wider_at hD sA lt h8 (s8 _ _ h7) (ne_of_none (s06 _ _ hp) n7).symm (s38 _ _ h3) ((s3.trans s38) _ _ h2') (ne_of_none (s1 _ _ hp) n2).symm)

end
end KR
namespace KR
open PySem PySem.Spec PyProof.Rows L2
section
variable {P : Program} {w : World} {K : PySem.W.Frag} {mg : Str → Option Value} {base : Heap}
def sp_l_binds (K : PySem.W.Frag) : Sp := fun vs H Q _ => ∃ (p d : Addr) (x : DyP) (D : Dy) (i : Nat), vs = [.ref d, .int (i : Int)] ∧ DayAt K H p d x D ∧ (∃ o, H p = some o) ∧ x.pk = true ∧ DyOk D ∧ DyNn D ∧ (∃ b, Few D b) ∧ i ≤ D.ks.length ∧ DyNn (widerD D i) ∧ (∃ b, Few (widerD D i) b) ∧ ∀ H', Same H H' → Q (.bl (decide (mostD D < mostD (widerD D i)))) H'
theorem ok_l_binds (T : All K mg) : FnOk P w K mg base CX0 2 T.f_l_binds T.fd_l_binds ["_law_day_here", "_law_place"] (sp_l_binds K) := by
  refine T.d_l_binds.fn.ok sc_l_binds (fun vs H Q E h => ?_) (fun cdv A outer s H vs Q E hr h => ?_)
  · obtain ⟨p, d, x, D, i, rfl, _⟩ := h
    rfl
  · obtain ⟨p, d, x, D, i, rfl, hD, ⟨op, hp⟩, xk, O, N, fw, hi, N', fw', q⟩ := h
    refine ⟨_, (pss_cons (ps_set (i := 2) sc_l_binds.nd rfl (by first | exact Or.inl rfl | exact Or.inr rfl) (pe_callB (maxLK (K := K) rfl rfl) (by rfl) T.b_max (by decide +kernel) (pa_cons (pe_lc (own := [("_law_sums", 3)]) (g := gName 3) (tt := tYes) (by rfl) sc_l_binds.nd (pi_listK (K := K) rfl (pe_call (ok_l_all T) hr (by rfl) T.d_l_all.mg T.d_l_all.fn.kp T.d_l_all.b .nil pass0 (pa_cons (pv 0) pa_nil))) (blkOk_by (own := [("_law_sums", 3)]) (N := ["_law_day_here", "_law_place", "_law_most", "_law_sums"]) (sc := defScope s_l_binds) (by decide +kernel)) (fun _ _ _ _ _ => (pg_name (i := 3) sc_l_binds.nd rfl (by first | exact Or.inl rfl | exact Or.inr rfl))) (fun _ _ _ _ _ => pts_nil) (fun _ _ _ _ _ => (pe_ix (ixL (K := K) rfl) (pe_ix (ixL (K := K) rfl) (pv 3) (pe_un un_neg pe_int) (fun _ _ => rfl)) (pe_un un_neg pe_int) (fun _ _ => rfl)))) pa_nil)))
      (pss_one (ps_ret (pe_cmpR op_gt (pe_callB (maxLK (K := K) rfl rfl) (by rfl) T.b_max (by decide +kernel) (pa_cons (pe_lc (own := [("_law_sums", 3)]) (g := gName 3) (tt := tYes) (by rfl) sc_l_binds.nd (pi_listK (K := K) rfl (pe_call (ok_l_all T) hr (by rfl) T.d_l_all.mg T.d_l_all.fn.kp T.d_l_all.b .nil pass0 (pa_cons (pe_call (ok_l_more T) hr (by rfl) T.d_l_more.mg T.d_l_more.fn.kp T.d_l_more.b .nil pass0 (pa_cons (pv 0) (pa_cons (pv 1) pa_nil))) pa_nil))) (blkOk_by (own := [("_law_sums", 3)]) (N := ["_law_day_here", "_law_place", "_law_most", "_law_sums"]) (sc := defScope s_l_binds) (by decide +kernel)) (fun _ _ _ _ _ => (pg_name (i := 3) sc_l_binds.nd rfl (by first | exact Or.inl rfl | exact Or.inr rfl))) (fun _ _ _ _ _ => pts_nil) (fun _ _ _ _ _ => (pe_ix (ixL (K := K) rfl) (pe_ix (ixL (K := K) rfl) (pv 3) (pe_un un_neg pe_int) (fun _ _ => rfl)) (pe_un un_neg pe_int) (fun _ _ => rfl)))) pa_nil)) (pv 2) (nomark _))))), ?_⟩
    have kw : (widerD D i).ks.length = D.ks.length := wider_kl D i
    have O' := wider_ok O hi
    obtain ⟨b, few⟩ := fw
    obtain ⟨b', few'⟩ := fw'
    refine ⟨_, rfl, p, d, x, D, rfl, hD, O, N, ⟨b, few⟩, fun g as H1 s1 n1 hg T1 => ?_⟩
    refine ⟨g, rfl, ⟨_, SqL.of hg⟩, fun G hGG => ?_⟩
    refine lc_it (walk_list (K := K) (a := g) (xs := as.map V.ref)) (fun j H' => Same H1 H' ∧ H' G = some (.lst ((((genH D D.cs.length).map fun S => val S D.ks.length D.cs.length).take j).map V.int)))
      ⟨same_new hGG, by rw [List.take_zero]; exact upd_same⟩ (fun j H' _ z => SqL.of (z.1 _ _ hg)) ?_ ?_
    · rintro j v Hj' Hj hj ⟨sj, hGj⟩ ⟨rfl, hv⟩
      have laj := Paired.length T1
      have l8j := gen_few few
      rw [List.length_map] at hj
      rw [List.getElem?_map] at hv
      obtain ⟨c, ec, rfl⟩ := Option.map_eq_some_iff.mp hv
      obtain ⟨S, eS, tS⟩ := pair_get T1 ec
      obtain ⟨rs', hbj, bl, _, Pj⟩ := tS.fr (.of sj)
      have shj := genH_shape O.k1 D.cs.length S (List.mem_of_getElem? eS)
      obtain ⟨r, er, hrj, rl, _⟩ := pair_getR Pj (rowT_get (S := S) (p := D.ks.length) (by rw [shj.len]; omega))
      have lrj : rs'.length = D.ks.length + 1 := (Paired.length Pj).trans shj.len
      have lnj : (rowT S D.ks.length).length = D.cs.length + 1 := (shj.row _ (Nat.le_refl _)).trans (len_end (Nat.le_refl _))
      refine ⟨rfl, yesT ?_⟩
      refine ⟨_, rfl, _, rfl, c, _, -1, .ref r, rfl, rfl, SqL.of hbj, at_endR9 lrj er, ?_⟩
      refine ⟨_, rfl, r, _, -1, _, rfl, rfl, SqL.of hrj, at_end9 lnj, ?_⟩
      refine ⟨_, hGj, by rw [List.length_map, List.length_take, List.length_map]; exact small' (by omega), Same.put sj hGG, ?_⟩
      rw [upd_same, take_one (show ((genH D D.cs.length).map fun S => val S D.ks.length D.cs.length)[j]? = some (val S D.ks.length D.cs.length) by rw [List.getElem?_map, eS] <;> rfl), List.map_append] <;> rfl
    rintro H2 ⟨s2, hgG⟩
    rw [List.length_map, Paired.length T1, List.take_of_length_le (by rw [List.length_map]; exact Nat.le_refl _)] at hgG
    refine ⟨G, _, rfl, SqL.of hgG, gen_len0 O N, fun m m1 m2 => ?_⟩
    obtain rfl := last_max O N (Nat.le_refl _) m1 m2
    have s02 := s1.trans s2
    refine ⟨_, rfl, _, rfl, p, d, x, D, i, rfl, hD.same s02, ⟨_, s02 _ _ hp⟩, xk, O, hi, fun w x' H3 s3 hW => ?_⟩
    refine ⟨p, w, x', widerD D i, rfl, hW, O', N', ⟨b', few'⟩, fun g2 as2 H4 s4 n4 hg2 T4 => ?_⟩
    refine ⟨g2, rfl, ⟨_, SqL.of hg2⟩, fun G2 hGG2 => ?_⟩
    refine lc_it (walk_list (K := K) (a := g2) (xs := as2.map V.ref)) (fun j H' => Same H4 H' ∧ H' G2 = some (.lst ((((genH (widerD D i) (widerD D i).cs.length).map fun S => val S (widerD D i).ks.length (widerD D i).cs.length).take j).map V.int)))
      ⟨same_new hGG2, by rw [List.take_zero]; exact upd_same⟩ (fun j H' _ z => SqL.of (z.1 _ _ hg2)) ?_ ?_
    · rintro j v Hj' Hj hj ⟨sj, hGj⟩ ⟨rfl, hv⟩
      have laj := Paired.length T4
      have l8j := gen_few few'
      rw [List.length_map] at hj
      rw [List.getElem?_map] at hv
      obtain ⟨c, ec, rfl⟩ := Option.map_eq_some_iff.mp hv
      obtain ⟨S, eS, tS⟩ := pair_get T4 ec
      obtain ⟨rs', hbj, bl, _, Pj⟩ := tS.fr (.of sj)
      have shj := genH_shape O'.k1 (widerD D i).cs.length S (List.mem_of_getElem? eS)
      obtain ⟨r, er, hrj, rl, _⟩ := pair_getR Pj (rowT_get (S := S) (p := (widerD D i).ks.length) (by rw [shj.len]; omega))
      have lrj : rs'.length = (widerD D i).ks.length + 1 := (Paired.length Pj).trans shj.len
      have lnj : (rowT S (widerD D i).ks.length).length = (widerD D i).cs.length + 1 := (shj.row _ (Nat.le_refl _)).trans (len_end (Nat.le_refl _))
      refine ⟨rfl, yesT ?_⟩
      refine ⟨_, rfl, _, rfl, c, _, -1, .ref r, rfl, rfl, SqL.of hbj, at_endR9 lrj er, ?_⟩
      refine ⟨_, rfl, r, _, -1, _, rfl, rfl, SqL.of hrj, at_end9 lnj, ?_⟩
      refine ⟨_, hGj, by rw [List.length_map, List.length_take, List.length_map]; exact small' (by omega), Same.put sj hGG2, ?_⟩
      rw [upd_same, take_one (show ((genH (widerD D i) (widerD D i).cs.length).map fun S => val S (widerD D i).ks.length (widerD D i).cs.length)[j]? = some (val S (widerD D i).ks.length (widerD D i).cs.length) by rw [List.getElem?_map, eS] <;> rfl), List.map_append] <;> rfl
    rintro H5 ⟨s5, hgG2⟩
    rw [List.length_map, Paired.length T4, List.take_of_length_le (by rw [List.length_map]; exact Nat.le_refl _)] at hgG2
    refine ⟨G2, _, rfl, SqL.of hgG2, gen_len0 O' N', fun m m1 m2 => ?_⟩
    obtain rfl := last_max O' N' (Nat.le_refl _) m1 m2
    refine ⟨_, rfl, _, _, rfl, rfl, ?_⟩
    exact q H5 (s02.trans (s3.trans (s4.trans s5)))

end
end KR
namespace KR
open PySem PySem.Spec PyProof.Rows L2
section
variable {P : Program} {w : World} {K : PySem.W.Frag} {mg : Str → Option Value} {base : Heap}
def sp_p_places_in (K : PySem.W.Frag) : Sp := fun vs H Q _ => ∃ (p d : Addr) (x : DyP) (D : Dy), vs = [.ref d] ∧ DayAt K H p d x D ∧ Q (.int ((D.ks.length : Int) + 1)) H
theorem ok_p_places_in (T : All K mg) : FnOk P w K mg base CX0 1 T.f_p_places_in T.fd_p_places_in ["day"] (sp_p_places_in K) := by
  refine T.d_p_places_in.fn.ok sc_p_places_in (fun vs H Q E h => ?_) (fun cdv A outer s H vs Q E hr h => ?_)
  · obtain ⟨p, d, x, D, rfl, _⟩ := h
    rfl
  · obtain ⟨p, d, x, D, rfl, hD, q⟩ := h
    refine ⟨_, (pss_one (ps_ret (pe_op op_add (pe_callB (lenA (K := K) rfl) (by rfl) T.b_len PySem.boot_len (pa_cons (pe_ix (ixT (K := K) rfl) (pv 0) pe_int (fun _ _ => rfl)) pa_nil)) pe_int))), ?_⟩
    refine ⟨_, rfl, d, _, 1, _, rfl, rfl, hD.at_, at1, _, _, rfl, lenV_b hD.ks, _, _, rfl, rfl, ?_⟩
    rw [List.length_map, hD.len]
    exact q

end
end KR
namespace KR
open PySem PySem.Spec PyProof.Rows L2
section
variable {P : Program} {w : World} {K : PySem.W.Frag} {mg : Str → Option Value} {base : Heap}
def sp_p_hours_in (K : PySem.W.Frag) : Sp := fun vs H Q _ => ∃ (p d : Addr) (x : DyP) (D : Dy), vs = [.ref d] ∧ DayAt K H p d x D ∧ Q (.int (D.cs.length : Int)) H
theorem ok_p_hours_in (T : All K mg) : FnOk P w K mg base CX0 1 T.f_p_hours_in T.fd_p_hours_in ["day"] (sp_p_hours_in K) := by
  refine T.d_p_hours_in.fn.ok sc_p_hours_in (fun vs H Q E h => ?_) (fun cdv A outer s H vs Q E hr h => ?_)
  · obtain ⟨p, d, x, D, rfl, _⟩ := h
    rfl
  · obtain ⟨p, d, x, D, rfl, hD, q⟩ := h
    refine ⟨_, (pss_one (ps_ret (pe_callB (lenA (K := K) rfl) (by rfl) T.b_len PySem.boot_len (pa_cons (pe_ix (ixT (K := K) rfl) (pv 0) pe_int (fun _ _ => rfl)) pa_nil)))), ?_⟩
    refine ⟨_, rfl, d, _, 0, _, rfl, rfl, hD.at_, at0, _, _, rfl, lenV_b hD.cs.1, ?_⟩
    rw [List.length_map]
    exact q

end
end KR
namespace KR
open PySem PySem.Spec PyProof.Rows L2
section
variable {P : Program} {w : World} {K : PySem.W.Frag} {mg : Str → Option Value} {base : Heap}
def sp_p_end_of (K : PySem.W.Frag) : Sp := fun vs H Q _ => ∃ (p d : Addr) (x : DyP) (D : Dy), vs = [.ref d] ∧ DayAt K H p d x D ∧ ∀ t H', Same H H' → H t = none → H' t = some (.tup [.int (D.ks.length : Int), .int ((D.cs.length : Int) - 1)]) → Q (.ref t) H'
theorem ok_p_end_of (T : All K mg) : FnOk P w K mg base CX0 2 T.f_p_end_of T.fd_p_end_of ["day"] (sp_p_end_of K) := by
  refine T.d_p_end_of.fn.ok sc_p_end_of (fun vs H Q E h => ?_) (fun cdv A outer s H vs Q E hr h => ?_)
  · obtain ⟨p, d, x, D, rfl, _⟩ := h
    rfl
  · obtain ⟨p, d, x, D, rfl, hD, q⟩ := h
    refine ⟨_, (pss_one (ps_ret (pe_tupI (pa_cons (pe_op op_sub (pe_call (ok_p_places_in T) hr (by rfl) T.d_p_places_in.mg T.d_p_places_in.fn.kp T.d_p_places_in.b .nil pass0 (pa_cons (pv 0) pa_nil)) pe_int) (pa_cons (pe_op op_sub (pe_call (ok_p_hours_in T) hr (by rfl) T.d_p_hours_in.mg T.d_p_hours_in.fn.kp T.d_p_hours_in.b .nil pass0 (pa_cons (pv 0) pa_nil)) pe_int) pa_nil))))), ?_⟩
    refine ⟨_, rfl, p, d, x, D, rfl, hD, _, _, rfl, rfl, _, rfl, p, d, x, D, rfl, hD, _, _, rfl, rfl, rfl, fun t H1 s1 n1 h1 => ?_⟩
    have h1 : H1 t = some (.tup [.int ((D.ks.length : Int) + 1 - 1), .int ((D.cs.length : Int) - 1)]) := h1
    rw [show (D.ks.length : Int) + 1 - 1 = (D.ks.length : Int) by omega] at h1
    exact q t H1 s1 n1 h1

end
end KR
namespace KR
open PySem PySem.Spec PyProof.Rows L2
section
variable {P : Program} {w : World} {K : PySem.W.Frag} {mg : Str → Option Value} {base : Heap}
def sp_p_bounds_at (K : PySem.W.Frag) : Sp := fun vs H Q _ => ∃ (p d : Addr) (x : DyP) (D : Dy) (pl t : Nat) (h : Int), vs = [.ref d, .int (pl : Int), .int h] ∧ h = (t : Int) - 1 ∧ DayAt K H p d x D ∧ DyOk D ∧ pl ≤ D.ks.length ∧ t ≤ D.cs.length ∧
  ∀ (b : Addr) (kvs : List (Key × V)) (H' : Hp), Same H H' → H b = none → H' b = some (.dK kvs) → AllBd H' kvs (bnds D pl t) → Q (.ref b) H'
theorem ok_p_bounds_at (T : All K mg) : FnOk P w K mg base CX0 1 T.f_p_bounds_at T.fd_p_bounds_at ["day", "place", "hour"] (sp_p_bounds_at K) := by
  refine T.d_p_bounds_at.fn.ok sc_p_bounds_at (fun vs H Q E h => ?_) (fun cdv A outer s H vs Q E hr h => ?_)
  · obtain ⟨p, d, x, D, pl, t, h, rfl, _⟩ := h
    rfl
  · obtain ⟨p, d, x, D, pl, t, h, rfl, eh, hD, O, lp, lt, q⟩ := h
    refine ⟨_, (pss_cons (ps_if (pt_cmpR op_eq (pv 2) (pe_glob (v := .int (-1)) rfl T.c_AHEAD_OF_ALL ⟨_, rfl⟩) (nomark _)) (pss_one (ps_ret (pe_disp (pps_cons pe_str (pe_tupI (pa_cons pe_non (pa_cons pe_int pa_nil))) pps_nil) rfl rfl (by simp) (by decide)))) pss_nil)
      (pss_cons (ps_asg (pv 0) (pg_tupK (K := K) rfl rfl (pgs_cons (pg_name (i := 3) sc_p_bounds_at.nd rfl (by first | exact Or.inl rfl | exact Or.inr rfl)) (pgs_cons (pg_name (i := 4) sc_p_bounds_at.nd rfl (by first | exact Or.inl rfl | exact Or.inr rfl)) (pgs_cons (pg_name (i := 5) sc_p_bounds_at.nd rfl (by first | exact Or.inl rfl | exact Or.inr rfl)) pgs_nil)))))
      (pss_cons (ps_J (ps_if (pt_cmpR op_eq (pv 1) pe_int (nomark _)) (pss_one (ps_set (i := 6) sc_p_bounds_at.nd rfl (by first | exact Or.inl rfl | exact Or.inr rfl) (pe_disp (pps_cons pe_str (pe_tupI (pa_cons pe_non (pa_cons (pe_callB (sumBK (K := K) rfl rfl) (by rfl) T.b_sum (by decide +kernel) (pa_cons (pe_slice (slBK (K := K) rfl) (pv 3) po_none (po_some (pe_op op_add (pv 2) pe_int))) pa_nil)) pa_nil))) pps_nil) rfl rfl (by simp) (by decide)))) (pss_one (ps_set (i := 6) sc_p_bounds_at.nd rfl (by first | exact Or.inl rfl | exact Or.inr rfl) (pe_disp (pps_cons pe_str (pe_tupI (pa_cons (pe_tupI (pa_cons (pe_op op_sub (pv 1) pe_int) (pa_cons (pe_op op_sub (pv 2) pe_int) pa_nil))) (pa_cons pe_int pa_nil))) pps_nil) rfl rfl (by simp) (by decide))))))
      (pss_cons (ps_if (pt_cmpR op_eq (pv 1) (pe_callB (lenA (K := K) rfl) (by rfl) T.b_len PySem.boot_len (pa_cons (pv 4) pa_nil)) (nomark _)) (pss_one (ps_asg (pe_tupI (pa_cons (pe_tupI (pa_cons (pv 1) (pa_cons (pe_op op_sub (pv 2) pe_int) pa_nil))) (pa_cons (pe_ix (ixQ (K := K) rfl) (pv 5) (pv 2) (fun _ _ => rfl)) pa_nil))) (pg_sub (pv 6) pe_str (set_dict (hu_of hr))))) (pss_cons (ps_asg (pe_ix (ixQ (K := K) rfl) (pv 4) (pv 1) (fun _ _ => rfl)) (pg_tupK (K := K) rfl rfl (pgs_cons (pg_name (i := 7) sc_p_bounds_at.nd rfl (by first | exact Or.inl rfl | exact Or.inr rfl)) (pgs_cons (pg_name (i := 8) sc_p_bounds_at.nd rfl (by first | exact Or.inl rfl | exact Or.inr rfl)) pgs_nil))))
      (pss_cons (ps_asg (pe_tupI (pa_cons (pe_tupI (pa_cons (pv 1) (pa_cons (pe_op op_sub (pv 2) pe_int) pa_nil))) (pa_cons (pe_ix (ixQ (K := K) rfl) (pv 8) (pv 2) (fun _ _ => rfl)) pa_nil))) (pg_sub (pv 6) pe_str (set_dict (hu_of hr))))
      (pss_one (ps_asg (pe_tupI (pa_cons (pe_tupI (pa_cons (pe_op op_add (pv 1) pe_int) (pa_cons (pv 2) pa_nil))) (pa_cons (pv 7) pa_nil))) (pg_sub (pv 6) pe_str (set_dict (hu_of hr))))))))
      (pss_one (ps_ret (pv 6))))))), ?_⟩
    refine ⟨_, rfl, rfl, _, rfl, ?_⟩
    cases t with
    | zero =>
      refine ite_iT (by omega) ?_
      refine fun b nb => ?_
      refine ⟨rfl, fun tu H1 s1 n1 h1 => ?_⟩
      refine ⟨s1 _ _ upd_same, [(.inr "begin", .ref tu)], rfl, by show 1 ≤ 15; decide, ?_⟩
      have tb : tu ≠ b := fun e => by
        rw [e, upd_same] at n1
        cases n1
      exact q b _ _ (Same.put ((same_new nb).trans s1) nb) nb upd_same (.cons ⟨rfl, tu, .non, rfl, by rw [upd_ne tb]; exact h1, rfl⟩ .nil)
    | succ t =>
      obtain rfl : h = (t : Int) := by omega
      refine ite_iF (by omega) ?_
      refine ⟨_, rfl, d, _, rfl, hD.at_, rfl, _, _, rfl, _, _, rfl, _, _, rfl, rfl, ?_⟩
      refine ⟨fun σ' H' => ∃ (b tu : Addr) (l : V), σ' = [some (.ref d), some (.int (pl : Int)), some (.int (t : Int)), some (.ref x.c), some (.ref x.k), some (.ref x.s), some (.ref b), none, none] ∧ Same H H' ∧ H b = none ∧ H' b = some (.dK [(.inr (firstB D pl t).word, .ref tu)]) ∧ H' tu = some (.tup [l, .int (firstB D pl t).more]) ∧ leadV H' l (firstB D pl t).lead ∧ tu ≠ b ∧ (∀ q, l = .ref q → q ≠ b), ?_, ?_⟩
      · rintro σ' H1 ⟨b, tu, l, rfl, s1, nb, hb, htu, hl, tub, lb⟩
        have hD1 := hD.same s1
        have fb : (pl = 0 ∧ (firstB D pl t).word = "comes") ∨ (pl ≠ 0 ∧ (firstB D pl t).word = "ahead") := by
          unfold firstB
          by_cases c : pl = 0
          · rw [if_pos c]
            exact .inl ⟨c, rfl⟩
          · rw [if_neg c]
            exact .inr ⟨c, rfl⟩
        have nt : ∀ w : Str, (w = "takes" ∨ w = "room") → (firstB D pl t).word ≠ w := by
          intro w hw e
          rcases fb with ⟨_, f⟩ | ⟨_, f⟩ <;> rw [f] at e <;> rcases hw with rfl | rfl <;> exact absurd e (by decide)
        have leadK : ∀ {H' : Hp}, Same H1 H' → leadV (upd H' b (.dK [])) l (firstB D pl t).lead → True := fun _ _ => trivial
        have keep : ∀ {H' : Hp} {o : HO}, Same H1 H' → leadV (upd H' b o) l (firstB D pl t).lead := fun {H' o} s => by
          cases e : (firstB D pl t).lead with
          | none =>
            rw [e] at hl
            exact hl
          | some y =>
            rw [e] at hl
            obtain ⟨q0, e0, h0⟩ := hl
            exact ⟨q0, e0, by rw [upd_ne (lb q0 e0)]; exact s _ _ h0⟩
        refine ⟨_, rfl, _, rfl, _, _, rfl, lenV_b hD1.ks, rfl, _, rfl, ?_⟩
        rw [List.length_map, hD.len]
        by_cases c : pl = D.ks.length
        · refine ite_iT (by omega) ?_
          refine ⟨_, rfl, _, rfl, _, _, rfl, rfl, rfl, fun q1 H2 s2 n2 h2 => ?_⟩
          refine ⟨_, rfl, _, rfl, ix_b (i := t) (hD1.ss.1.same s2) rfl (ints_get (by rw [O.sl]; omega)) ?_⟩
          refine ⟨rfl, fun t2 H3 s3 n3 h3 => ?_⟩
          have s13 := s2.trans s3
          have hb3 := s13 _ _ hb
          refine ⟨_, rfl, b, _, rfl, .k (k := .inr "takes") hb3 (by show 1 < sizeLine; rw [sizeLine_eq]; decide), ?_⟩
          have pn : putK [((.inr (firstB D pl t).word : Key), V.ref tu)] (.inr "takes") (.ref t2) = [((.inr (firstB D pl t).word : Key), V.ref tu), (.inr "takes", .ref t2)] := putK_new _ (by rw [valV_neg (fun e => nt "takes" (.inl rfl) (Sum.inr.inj e))] <;> rfl)
          rw [pn]
          have q1b : q1 ≠ b := (ne_of_none hb n2).symm
          have t2b : t2 ≠ b := (ne_of_none (s2 _ _ hb) n3).symm
          refine ⟨_, rfl, q b _ _ (Same.put (s1.trans s13) nb) nb upd_same ?_⟩
          rw [show bnds D pl (t + 1) = [firstB D pl t, ⟨"takes", some ((pl : Int), (t : Int) - 1), D.ss.getD t 0⟩] from if_pos c]
          exact .cons ⟨rfl, tu, l, rfl, by rw [upd_ne tub]; exact s13 _ _ htu, keep s13⟩ (.cons ⟨rfl, t2, .ref q1, rfl, by rw [upd_ne t2b]; exact h3, q1, rfl, by rw [upd_ne q1b]; exact s3 _ _ h2⟩ .nil)
        · refine ite_iF (by omega) ?_
          obtain ⟨ka, ta, bb, gk, hk, ht⟩ := hD1.pot (j := pl) (by omega)
          refine ⟨_, rfl, _, rfl, ix_b (i := pl) hD1.ks rfl gk ?_⟩
          refine ⟨ka, _, rfl, hk, rfl, _, _, rfl, _, _, rfl, rfl, ?_⟩
          refine ⟨_, rfl, _, rfl, _, _, rfl, rfl, rfl, fun q1 H2 s2 n2 h2 => ?_⟩
          refine ⟨_, rfl, _, rfl, ix_b (i := t) (ht.1.same s2) rfl (ints_get (by rw [kt_len O (by omega)]; omega)) ?_⟩
          refine ⟨rfl, fun t2 H3 s3 n3 h3 => ?_⟩
          have s13 := s2.trans s3
          have hb3 := s13 _ _ hb
          refine ⟨_, rfl, b, _, rfl, .k (k := .inr "takes") hb3 (by show 1 < sizeLine; rw [sizeLine_eq]; decide), ?_⟩
          have pn : putK [((.inr (firstB D pl t).word : Key), V.ref tu)] (.inr "takes") (.ref t2) = [((.inr (firstB D pl t).word : Key), V.ref tu), (.inr "takes", .ref t2)] := putK_new _ (by rw [valV_neg (fun e => nt "takes" (.inl rfl) (Sum.inr.inj e))] <;> rfl)
          rw [pn]
          have q1b : q1 ≠ b := (ne_of_none hb n2).symm
          have t2b : t2 ≠ b := (ne_of_none (s2 _ _ hb) n3).symm
          have s4 : Same H (upd H3 b (.dK [((.inr (firstB D pl t).word : Key), V.ref tu), (.inr "takes", .ref t2)])) := Same.put (s1.trans s13) nb
          have hb4 : (upd H3 b (.dK [((.inr (firstB D pl t).word : Key), V.ref tu), (.inr "takes", .ref t2)])) b = some (.dK [((.inr (firstB D pl t).word : Key), V.ref tu), (.inr "takes", .ref t2)]) := upd_same
          have htu4 : (upd H3 b (.dK [((.inr (firstB D pl t).word : Key), V.ref tu), (.inr "takes", .ref t2)])) tu = some (.tup [l, .int (firstB D pl t).more]) := by rw [upd_ne tub]; exact s13 _ _ htu
          have ht24 : (upd H3 b (.dK [((.inr (firstB D pl t).word : Key), V.ref tu), (.inr "takes", .ref t2)])) t2 = some (.tup [.ref q1, .int ((kt D pl).2.getD t 0)]) := by rw [upd_ne t2b]; exact h3
          have hq14 : (upd H3 b (.dK [((.inr (firstB D pl t).word : Key), V.ref tu), (.inr "takes", .ref t2)])) q1 = some (.tup [.int (pl : Int), .int ((t : Int) - 1)]) := by rw [upd_ne q1b]; exact s3 _ _ h2
          have kp4 : leadV (upd H3 b (.dK [((.inr (firstB D pl t).word : Key), V.ref tu), (.inr "takes", .ref t2)])) l (firstB D pl t).lead := keep s13
          generalize upd H3 b (.dK [((.inr (firstB D pl t).word : Key), V.ref tu), (.inr "takes", .ref t2)]) = H4 at s4 hb4 htu4 ht24 hq14 kp4
          refine ⟨_, rfl, _, _, rfl, rfl, _, rfl, rfl, fun q2 H5 s5 n5 h5 => ?_⟩
          refine ⟨_, rfl, rfl, fun t3 H6 s6 n6 h6 => ?_⟩
          have s46 := s5.trans s6
          have hb6 := s46 _ _ hb4
          refine ⟨_, rfl, b, _, rfl, .k (k := .inr "room") hb6 (by show 2 < sizeLine; rw [sizeLine_eq]; decide), ?_⟩
          have pn2 : putK [((.inr (firstB D pl t).word : Key), V.ref tu), (.inr "takes", .ref t2)] (.inr "room") (.ref t3) = [((.inr (firstB D pl t).word : Key), V.ref tu), (.inr "takes", .ref t2), (.inr "room", .ref t3)] := putK_new _ (by rw [valV_neg (fun e => nt "room" (.inr rfl) (Sum.inr.inj e)), valV_neg (fun e => absurd (Sum.inr.inj e) (by decide))] <;> rfl)
          rw [pn2]
          have q2b : q2 ≠ b := (ne_of_none hb4 n5).symm
          have t3b : t3 ≠ b := (ne_of_none (s5 _ _ hb4) n6).symm
          refine ⟨_, rfl, q b _ _ (Same.put (s4.trans s46) nb) nb upd_same ?_⟩
          rw [show bnds D pl (t + 1) = [firstB D pl t, ⟨"takes", some ((pl : Int), (t : Int) - 1), (kt D pl).2.getD t 0⟩, ⟨"room", some ((pl : Int) + 1, (t : Int)), (kt D pl).1⟩] from if_neg c]
          have kp6 : leadV (upd H6 b (.dK [((.inr (firstB D pl t).word : Key), V.ref tu), (.inr "takes", .ref t2), (.inr "room", .ref t3)])) l (firstB D pl t).lead := by
            cases e : (firstB D pl t).lead with
            | none =>
              rw [e] at kp4
              exact kp4
            | some y =>
              rw [e] at kp4
              obtain ⟨q0, e0, h0⟩ := kp4
              exact ⟨q0, e0, by rw [upd_ne (lb q0 e0)]; exact s46 _ _ h0⟩
          exact .cons ⟨rfl, tu, l, rfl, by rw [upd_ne tub]; exact s46 _ _ htu4, kp6⟩ (.cons ⟨rfl, t2, .ref q1, rfl, by rw [upd_ne t2b]; exact s46 _ _ ht24, q1, rfl, by rw [upd_ne q1b]; exact s46 _ _ hq14⟩ (.cons ⟨rfl, t3, .ref q2, rfl, by rw [upd_ne t3b]; exact h6, q2, rfl, by rw [upd_ne q2b]; exact s6 _ _ h5⟩ .nil))
      · refine ⟨_, rfl, rfl, _, rfl, ?_⟩
        by_cases c : pl = 0
        · refine ite_iT (by omega) ?_
          refine fun b nb => ?_
          refine ⟨_, rfl, _, rfl, _, _, rfl, rfl, _, rfl, x.c, _, x.pc, rfl, hD.cs.1.same (same_new nb), fun cu H1 s1 hcu => ?_⟩
          rw [show (t : Int) + 1 = ((t + 1 : Nat) : Int) by omega, cut_to' (by rw [List.length_map]; omega), ← List.map_take] at hcu
          refine ⟨cu, _, x.pc, rfl, hcu, rfl, fun tu H2 s2 n2 h2 => ?_⟩
          have s12 := s1.trans s2
          refine ⟨s12 _ _ upd_same, [(.inr "comes", .ref tu)], rfl, by show 1 ≤ 15; decide, ?_⟩
          have tb : tu ≠ b := (ne_of_none (s1 _ _ upd_same) n2).symm
          have e1 : firstB D pl t = ⟨"comes", none, csum D (t + 1)⟩ := if_pos c
          rw [e1]
          exact ⟨b, tu, .non, rfl, Same.put ((same_new nb).trans s12) nb, nb, upd_same, by rw [upd_ne tb]; exact h2, rfl, tb, fun q e => by cases e⟩
        · refine ite_iF (by omega) ?_
          refine fun b nb => ?_
          refine ⟨_, rfl, _, _, rfl, rfl, _, rfl, _, _, rfl, rfl, rfl, fun q1 H1 s1 n1 h1 => ⟨rfl, fun tu H2 s2 n2 h2 => ?_⟩⟩
          have s12 := s1.trans s2
          refine ⟨s12 _ _ upd_same, [(.inr "ahead", .ref tu)], rfl, by show 1 ≤ 15; decide, ?_⟩
          have tb : tu ≠ b := (ne_of_none (s1 _ _ upd_same) n2).symm
          have qb : q1 ≠ b := fun e => by
            rw [e, upd_same] at n1
            cases n1
          have e1 : firstB D pl t = ⟨"ahead", some ((pl : Int) - 1, (t : Int) - 1), 0⟩ := if_neg c
          rw [e1]
          exact ⟨b, tu, .ref q1, rfl, Same.put ((same_new nb).trans s12) nb, nb, upd_same, by rw [upd_ne tb]; exact h2, ⟨q1, rfl, by rw [upd_ne qb]; exact s2 _ _ h1⟩, tb, fun q e => by cases e; exact qb⟩

end
end KR
namespace KR
open PySem PySem.Spec PyProof.Rows L2
section
variable {P : Program} {w : World} {K : PySem.W.Frag} {mg : Str → Option Value} {base : Heap}
def sp_p_reached (K : PySem.W.Frag) : Sp := fun vs H Q _ => ∃ (ta t : Addr) (l : V) (D : Dy) (b : Bd) (kvs : List (List Key × V)), vs = [.ref ta, .ref t] ∧ H t = some (.tup [l, .int b.more]) ∧ leadV H l b.lead ∧ H ta = some (.dT kvs) ∧ (∀ p h, b.lead = some (p, h) → valV kvs [.inl p, .inl h] = some (.int (tk D (h + 1).toNat p.toNat))) ∧ Q (.int (valB D b)) H
theorem ok_p_reached (T : All K mg) : FnOk P w K mg base CX0 1 T.f_p_reached T.fd_p_reached ["taken", "bound"] (sp_p_reached K) := by
  refine T.d_p_reached.fn.ok sc_p_reached (fun vs H Q E h => ?_) (fun cdv A outer s H vs Q E hr h => ?_)
  · obtain ⟨ta, t, l, D, b, kvs, rfl, _⟩ := h
    rfl
  · obtain ⟨ta, t, l, D, b, kvs, rfl, ht, hl, hta, val, q⟩ := h
    refine ⟨_, (pss_cons (ps_asg (pv 1) (pg_tupK (K := K) rfl rfl (pgs_cons (pg_name (i := 2) sc_p_reached.nd rfl (by first | exact Or.inl rfl | exact Or.inr rfl)) (pgs_cons (pg_name (i := 3) sc_p_reached.nd rfl (by first | exact Or.inl rfl | exact Or.inr rfl)) pgs_nil))))
      (pss_cons (ps_if (pt_cmpR op_isN (pv 2) pe_non (nomark _)) (pss_one (ps_ret (pv 3))) pss_nil)
      (pss_one (ps_ret (pe_op op_add (pe_dget (hu_of hr) (pv 0) (pv 2) (fun _ _ => rfl)) (pv 3)))))), ?_⟩
    obtain ⟨w, le, mo⟩ := b
    refine ⟨_, rfl, t, _, rfl, SqT.of ht, rfl, _, _, rfl, _, _, rfl, rfl, ?_⟩
    cases le with
    | none =>
      obtain rfl : l = .non := hl
      exact ⟨_, rfl, rfl, _, rfl, iteT ⟨_, rfl, q⟩⟩
    | some y =>
      obtain ⟨p, h⟩ := y
      obtain ⟨q0, rfl, hq⟩ := hl
      refine ⟨_, rfl, rfl, _, rfl, iteF ?_⟩
      have g : DGet H ta (.ref q0) (some (.int (tk D (h + 1).toNat p.toNat))) := by
        rw [← val p h rfl]
        exact .t (k := [.inl p, .inl h]) hta hq
      refine ⟨_, rfl, _, rfl, ta, _, rfl, g, ?_⟩
      exact ⟨_, rfl, _, _, rfl, rfl, q⟩
def sp_p_reachedX (K : PySem.W.Frag) : Sp := fun vs H Q _ => ∃ (ta t : Addr) (l : V) (b : Bd) (kvs : List (List Key × V)) (u : Int), vs = [.ref ta, .ref t] ∧ H t = some (.tup [l, .int b.more]) ∧ leadV H l b.lead ∧ Rd H ta (.dT kvs) ∧ (b.lead = none → u = 0) ∧ (∀ p h, b.lead = some (p, h) → valV kvs [.inl p, .inl h] = some (.int u)) ∧ Q (.int (u + b.more)) H
theorem ok_p_reachedX (T : All K mg) : FnOk P w K mg base CX0 1 T.f_p_reached T.fd_p_reached ["taken", "bound"] (sp_p_reachedX K) := by
  refine T.d_p_reached.fn.ok sc_p_reached (fun vs H Q E h => ?_) (fun cdv A outer s H vs Q E hr h => ?_)
  · obtain ⟨ta, t, l, b, kvs, u, rfl, _⟩ := h
    rfl
  · obtain ⟨ta, t, l, b, kvs, u, rfl, ht, hl, hta, z0, val, q⟩ := h
    refine ⟨_, (pss_cons (ps_asg (pv 1) (pg_tupK (K := K) rfl rfl (pgs_cons (pg_name (i := 2) sc_p_reached.nd rfl (by first | exact Or.inl rfl | exact Or.inr rfl)) (pgs_cons (pg_name (i := 3) sc_p_reached.nd rfl (by first | exact Or.inl rfl | exact Or.inr rfl)) pgs_nil))))
      (pss_cons (ps_if (pt_cmpR op_isN (pv 2) pe_non (nomark _)) (pss_one (ps_ret (pv 3))) pss_nil)
      (pss_one (ps_ret (pe_op op_add (pe_dget (hu_of hr) (pv 0) (pv 2) (fun _ _ => rfl)) (pv 3)))))), ?_⟩
    obtain ⟨w, le, mo⟩ := b
    refine ⟨_, rfl, t, _, rfl, SqT.of ht, rfl, _, _, rfl, _, _, rfl, rfl, ?_⟩
    cases le with
    | none =>
      obtain rfl : l = .non := hl
      obtain rfl := z0 rfl
      rw [Int.zero_add] at q
      exact ⟨_, rfl, rfl, _, rfl, iteT ⟨_, rfl, q⟩⟩
    | some y =>
      obtain ⟨p, h⟩ := y
      obtain ⟨q0, rfl, hq⟩ := hl
      refine ⟨_, rfl, rfl, _, rfl, iteF ?_⟩
      have g : DGet H ta (.ref q0) (some (.int u)) := .inr ⟨kvs, [.inl p, .inl h], q0, hta, rfl, hq, (val p h rfl).symm⟩
      refine ⟨_, rfl, _, rfl, ta, _, rfl, g, ?_⟩
      exact ⟨_, rfl, _, _, rfl, rfl, q⟩

end
end KR
namespace KR
open PySem PySem.Spec PyProof.Rows L2
section
variable {P : Program} {w : World} {K : PySem.W.Frag} {mg : Str → Option Value} {base : Heap}
def sp_p_is_number (K : PySem.W.Frag) : Sp := fun vs H Q _ => ∃ (Av : Addr → Prop) (B n : Nat) (v : V) (d : PyData), vs = [v] ∧ Tg K Av H B n v d ∧ Q (.bl (isI d)) H
theorem ok_p_is_number (T : All K mg) : FnOk P w K mg base CX0 1 T.f_p_is_number T.fd_p_is_number ["thing"] (sp_p_is_number K) := by
  refine T.d_p_is_number.fn.ok sc_p_is_number (fun vs H Q E h => ?_) (fun cdv A outer s H vs Q E hr h => ?_)
  · obtain ⟨Av, B, n, v, d, rfl, _⟩ := h
    rfl
  · obtain ⟨Av, B, n, v, d, rfl, h, q⟩ := h
    refine ⟨_, (pss_one (ps_ret (pe_and (pe_callB (isiK (K := K) rfl) (by rfl) T.b_isinstance (by decide +kernel) (pa_cons (pv 0) (pa_cons (pe_bltn (v := .ty "int") (by rfl) T.b_int (by decide +kernel) rfl) pa_nil))) (pe_one (pe_not (pe_callB (isiK (K := K) rfl) (by rfl) T.b_isinstance (by decide +kernel) (pa_cons (pv 0) (pa_cons (pe_bltn (v := .ty "bool") (by rfl) T.b_bool (by decide +kernel) rfl) pa_nil)))))))), ?_⟩
    obtain ⟨t, ty, _, _, ki, kb, _⟩ := h.ty
    cases e : isBo d with
    | true =>
      rw [boI e] at q
      rw [e, Bool.or_true] at ki
      rw [e] at kb
      refine ⟨_, rfl, _, _, _, _, _, rfl, .ty _, ty, kit_ty ki, _, rfl, ?_⟩
      refine iteT ?_
      refine ⟨_, rfl, _, _, _, _, _, rfl, .ty _, ty, kit_ty kb, _, rfl, ?_⟩
      exact q
    | false =>
      rw [e, Bool.or_false] at ki
      rw [e] at kb
      refine ⟨_, rfl, _, _, _, _, _, rfl, .ty _, ty, kit_ty ki, _, rfl, ?_⟩
      cases e2 : isI d with
      | true =>
        rw [e2] at q
        refine iteT ?_
        refine ⟨_, rfl, _, _, _, _, _, rfl, .ty _, ty, kit_ty kb, _, rfl, ?_⟩
        exact q
      | false =>
        rw [e2] at q
        refine iteF ?_
        exact q

end
end KR
namespace KR
open PySem PySem.Spec PyProof.Rows L2
section
variable {P : Program} {w : World} {K : PySem.W.Frag} {mg : Str → Option Value} {base : Heap}
def sp_p__is_place_of_plan (K : PySem.W.Frag) (P : Addr) : Sp := fun vs H Q _ => ∃ (Av : Addr → Prop) (B n : Nat) (v : V) (d : PyData) (h : Int), vs = [v, .int h] ∧ Tg K Av H B n v d ∧ GxR.TabG H P ∧ ∀ H', Sm H H' → Q (.bl (placeB h d)) H'
theorem ok_p__is_place_of_plan (T : All K mg) (B : Tabs T base) : FnOk P w K mg base CX0 3 T.f_p__is_place_of_plan T.fd_p__is_place_of_plan ["thing", "hours"] (sp_p__is_place_of_plan K T.P_p__is_place_of_plan) := by
  refine T.k_p__is_place_of_plan.ok sc_p__is_place_of_plan (fun vs H Q E h => ?_) (fun cdv A outer s H vs Q E hc hr h => ?_)
  · obtain ⟨Av, Bn, n, v, d, h, rfl, _⟩ := h
    rfl
  · obtain ⟨Av, Bn, n, v, d, h, rfl, hv, hT, q⟩ := h
    refine ⟨_, (pss_cons (ps_if (PW.pt (pw_or (pt_not (pt_val (pe_callB (isiK (K := K) rfl) (by rfl) T.b_isinstance (by decide +kernel) (pa_cons (pv 0) (pa_cons (pe_bltn (v := .ty "list") (by rfl) T.b_list (by decide +kernel) rfl) pa_nil))))) (pw_or1 (pt_cmpR op_ne (pe_callB (lenQ (K := K) rfl) (by rfl) T.b_len PySem.boot_len (pa_cons (pv 0) pa_nil)) (pv 1) (nomark _))))) (pss_one (ps_ret pe_bl)) pss_nil)
      (pss_one (ps_ret (pe_allG hr (by rfl) T.b_all (by decide +kernel) B.t_p__is_place_of_plan hc ⟨rfl, rfl, by decide +kernel, by decide +kernel, rfl, rfl⟩ (pi_listK (K := K) rfl (pv 0)) (fun _ _ _ _ _ _ => (pe_and (pe_call (ok_p_is_number T) (room_gen hr) (by rfl) T.d_p_is_number.mg T.d_p_is_number.fn.kp T.d_p_is_number.b .nil pass0 (pa_cons (pv 0) pa_nil)) (pe_one (pe_cmpR op_ge (pv 0) pe_int (nomark _))))) (by intro _; rfl))))), ?_⟩
    obtain ⟨ty, hty, kl, _, _, _, _⟩ := hv.ty
    refine ⟨_, rfl, _, _, _, _, _, rfl, .ty _, hty, kit_ty kl, ?_⟩
    cases el : isL d with
    | false =>
      rw [placeB_no el] at q
      exact ⟨_, rfl, iteT (q _ .refl)⟩
    | true =>
    obtain ⟨f, xs, ds, m, rfl, rfl, rfl, hf, tg⟩ := hv.lstI el
    refine ⟨_, rfl, iteF ?_⟩
    refine ⟨_, rfl, f, _, rfl, .inl (SqL.of hf), _, rfl, rfl, _, rfl, ?_⟩
    have q2 : ∀ H', Sm H H' → Q (.bl (decide ((ds.length : Int) = h) && ds.all nnB)) H' := q
    by_cases cl : (xs.length : Int) = h
    rotate_left
    · rw [decide_eq_false (show ¬ (ds.length : Int) = h by rw [← tg.1]; exact cl)] at q2
      exact ite_nT cl (q2 _ .refl)
    rw [decide_eq_true (show (ds.length : Int) = h by rw [← tg.1]; exact cl)] at q2
    refine ite_nF cl ?_
    refine ⟨_, rfl, f, rfl, ⟨_, SqL.of hf⟩, hT, xs.length, fun i H' => Sm H H' ∧ i ≤ xs.length ∧ (ds.take i).all nnB = true, fun H2 tb => ⟨Sm.tabbed tb hT, Nat.zero_le _, rfl⟩, fun i H2 ⟨sm, le, al⟩ => ?_⟩
    by_cases c : i = xs.length
    · rw [List.take_of_length_le (by rw [← tg.1]; omega)] at al
      rw [al] at q2
      exact .inl ⟨⟨_, sm.seq (SqL.of hf), by omega⟩, q2 H2 sm⟩
    · obtain ⟨x, e, ex, ee, tx⟩ := tg.at_ (i := i) (by omega)
      refine .inr ⟨⟨_, _, sm.seq (SqL.of hf), ex⟩, by omega, fun y H3 ⟨e3, hy⟩ => ?_⟩
      subst e3
      obtain rfl := Option.some.inj ((hy _ (sm.seq (SqL.of hf))).symm.trans ex)
      have no : nnB e = false → Q (.bl false) H3 := fun z => by
        rw [all_at ee z] at q2
        exact q2 H3 sm
      refine ⟨_, rfl, Av, Bn, m, y, e, rfl, tx.sm sm, _, rfl, ?_⟩
      cases ei : isI e with
      | false => exact iteF ⟨false, rfl, no (nnB_no ei)⟩
      | true =>
        obtain ⟨z, rfl, rfl, _⟩ := tx.intI ei
        refine iteT ?_
        refine ⟨_, rfl, _, _, rfl, rfl, _, rfl, ?_⟩
        by_cases c0 : 0 ≤ z
        · exact ite_bT (decide_eq_true c0) ⟨sm, by omega, all_up al ee (decide_eq_true c0)⟩
        · exact ite_bF (decide_eq_false c0) (no (decide_eq_false c0))

end
end KR
namespace KR
open PySem PySem.Spec PyProof.Rows L2
section
variable {P : Program} {w : World} {K : PySem.W.Frag} {mg : Str → Option Value} {base : Heap}
def sp_p__taken_by (K : PySem.W.Frag) : Sp := fun vs H Q _ => ∃ (Av : Addr → Prop) (f : Addr) (rs : List Addr) (Xs : List (List Int)) (h : Nat), vs = [.ref f] ∧ H f = some (.lst (rs.map V.ref)) ∧ RowsP H Av rs Xs ∧ Xs.length ≤ 9 ∧ h ≤ 48 ∧ (∀ r ∈ Xs, r.length = h) ∧ ∀ (ta : Addr) (kvs : List (List Key × V)) (H' : Hp), Same H H' → H ta = none → H' ta = some (.dT kvs) → TakenX (rowF Xs) kvs (fun p t => p < Xs.length ∧ t ≤ h) → Q (.ref ta) H'
theorem ok_p__taken_by (T : All K mg) : FnOk P w K mg base CX0 1 T.f_p__taken_by T.fd_p__taken_by ["plan"] (sp_p__taken_by K) := by
  refine T.d_p__taken_by.fn.ok sc_p__taken_by (fun vs H Q E h => ?_) (fun cdv A outer s H vs Q E hr h => ?_)
  · obtain ⟨Av, f, rs, Xs, h, rfl, _⟩ := h
    rfl
  · obtain ⟨Av, f, rs, Xs, h, rfl, hf, R, x9, h48, lens, q⟩ := h
    refine ⟨_, (pss_cons (ps_set (i := 1) sc_p__taken_by.nd rfl (by first | exact Or.inl rfl | exact Or.inr rfl) pe_dnewT)
      (pss_cons (ps_for PassesOwn.never rfl (pi_enumB (K := K) rfl (by rfl) T.b_enumerate (pa_cons (pv 0) pa_nil)) (pg_tupK (K := K) rfl rfl (pgs_cons (pg_name (i := 2) sc_p__taken_by.nd rfl (by first | exact Or.inl rfl | exact Or.inr rfl)) (pgs_cons (pg_name (i := 3) sc_p__taken_by.nd rfl (by first | exact Or.inl rfl | exact Or.inr rfl)) pgs_nil))) (pss_cons (ps_asg pe_int (pg_sub (pv 1) (pe_tupI (pa_cons (pv 2) (pa_cons (pe_glob (v := .int (-1)) rfl T.c_AHEAD_OF_ALL ⟨_, rfl⟩) pa_nil))) (set_dict (hu_of hr))))
      (pss_one (ps_for PassesOwn.never rfl (pi_enumB (K := K) rfl (by rfl) T.b_enumerate (pa_cons (pv 3) pa_nil)) (pg_tupK (K := K) rfl rfl (pgs_cons (pg_name (i := 4) sc_p__taken_by.nd rfl (by first | exact Or.inl rfl | exact Or.inr rfl)) (pgs_cons (pg_name (i := 5) sc_p__taken_by.nd rfl (by first | exact Or.inl rfl | exact Or.inr rfl)) pgs_nil))) (pss_one (ps_asg (pe_op op_add (pe_dget (hu_of hr) (pv 1) (pe_tupI (pa_cons (pv 2) (pa_cons (pe_op op_sub (pv 4) pe_int) pa_nil))) (fun _ _ => rfl)) (pv 5)) (pg_sub (pv 1) (pe_tupI (pa_cons (pv 2) (pa_cons (pv 4) pa_nil))) (set_dict (hu_of hr)))))))))
      (pss_one (ps_ret (pv 1))))), ?_⟩
    refine fun ta nta => ?_
    have fta : f ≠ ta := ne_of_none hf nta
    have lr : rs.length = Xs.length := R.1
    have s0 : Same H (upd H ta (.dT [])) := same_new nta
    have h0 : (upd H ta (.dT [])) ta = some (.dT []) := upd_same
    generalize upd H ta (.dT []) = H1 at s0 h0
    refine ⟨_, rfl, f, _, true, rfl, SqL.of (s0 _ _ hf), for_it (walk_enumB (K := K) (a := f) (xs := rs.map V.ref) (p := true)) (fun i σ H' => ∃ (kvs : List (List Key × V)) (v2 v3 v4 v5 : Option V), σ = [some (.ref f), some (.ref ta), v2, v3, v4, v5] ∧ Same H H' ∧ H' ta = some (.dT kvs) ∧ kvs.length ≤ 49 * i ∧ TakenX (rowF Xs) kvs fun p t => p < i ∧ t ≤ h)
      ⟨[], none, none, none, none, rfl, s0, h0, Nat.zero_le _, ⟨fun kv m => absurd m List.not_mem_nil, fun p t d => absurd d.1 (Nat.not_lt_zero _)⟩⟩ (fun i σ H' _ ⟨_, _, _, _, _, _, s, _⟩ => SqL.of (s _ _ hf)) ?_ ?_⟩
    · rintro i v σ H2 H3 hi ⟨kvs, v2, v3, v4, v5, rfl, s2, hta, kl, tx⟩ ⟨T0, x0, y0, rfl, hT, rfl, e0, ex⟩
      rw [List.length_map] at hi
      obtain rfl := Option.some.inj e0
      have ex' : (rs.map V.ref)[i]? = some y0 := ex
      rw [List.getElem?_map] at ex'
      obtain ⟨r, er, rfl⟩ := Option.map_eq_some_iff.mp ex'
      have hi' : i < Xs.length := by omega
      obtain ⟨xs, exs⟩ : ∃ xs, Xs[i]? = some xs := ⟨_, List.getElem?_eq_getElem hi'⟩
      have lx := lens xs (List.mem_of_getElem? exs)
      have eF := rowF_at exs
      have hr0 := (R.2 i r xs er exs).1
      have sT : Same H2 (upd H2 T0 (.tup [.int (i : Nat), .ref r])) := same_new hT
      have hT5 : (upd H2 T0 (.tup [.int (i : Nat), .ref r])) T0 = some (.tup [.int (i : Nat), .ref r]) := upd_same
      generalize upd H2 T0 (.tup [.int (i : Nat), .ref r]) = H3 at sT hT5
      refine ⟨T0, _, rfl, SqT.of hT5, rfl, _, _, rfl, _, _, rfl, rfl, ?_⟩
      refine ⟨_, rfl, _, rfl, rfl, fun k0 H4 s4 n4 h4 => ?_⟩
      have s24 := sT.trans s4
      have hta4 := s24 _ _ hta
      refine ⟨ta, _, rfl, .t (k := kk i 0) hta4 h4 (small' (by omega)), ?_⟩
      have sU : Same H (upd H4 ta (.dT (putK kvs (kk i 0) (.int 0)))) := Same.put (s2.trans s24) nta
      have hU : (upd H4 ta (.dT (putK kvs (kk i 0) (.int 0)))) ta = some (.dT (putK kvs (kk i 0) (.int 0))) := upd_same
      generalize upd H4 ta (.dT (putK kvs (kk i 0) (.int 0))) = H5 at sU hU
      have tx0 : TakenX (rowF Xs) (putK kvs (kk i 0) (.int 0)) (fun p t => (p < i ∧ t ≤ h) ∨ (p = i ∧ t ≤ 0)) := by
        have z := tx.put (d' := fun p t => (p < i ∧ t ≤ h) ∨ (p = i ∧ t ≤ 0)) i 0 (fun z => absurd z.1 (Nat.lt_irrefl _)) fun p' t' => by omega
        rw [PS_zero] at z
        exact z
      have kl0 := length_putK kvs (kk i 0) (.int 0)
      refine ⟨_, rfl, r, _, true, rfl, SqL.of (sU _ _ hr0), for_it (walk_enumB (K := K) (a := r) (xs := xs.map V.int) (p := true)) (fun t σ H' => ∃ (kvs : List (List Key × V)) (v4 v5 : Option V), σ = [some (.ref f), some (.ref ta), some (.int (i : Nat)), some (.ref r), v4, v5] ∧ Same H H' ∧ H' ta = some (.dT kvs) ∧ kvs.length ≤ 49 * i + 1 + t ∧ TakenX (rowF Xs) kvs fun p t' => (p < i ∧ t' ≤ h) ∨ (p = i ∧ t' ≤ t))
        ⟨_, _, _, rfl, sU, hU, by omega, tx0⟩ (fun i σ H' _ ⟨_, _, _, _, s, _⟩ => SqL.of (s _ _ hr0)) ?_ ?_⟩
      · rintro t v σ H6 H7 ht ⟨kvs, v4, v5, rfl, s6, hta6, kl6, tx6⟩ ⟨T1, x1, y1, rfl, hT1, rfl, e1, ex1⟩
        rw [List.length_map] at ht
        obtain rfl := Option.some.inj e1
        have ex2 : (xs.map V.int)[t]? = some y1 := ex1
        rw [ints_get ht] at ex2
        obtain rfl := Option.some.inj ex2
        have sT1 : Same H6 (upd H6 T1 (.tup [.int (t : Nat), .int (xs.getD t 0)])) := same_new hT1
        have hT6 : (upd H6 T1 (.tup [.int (t : Nat), .int (xs.getD t 0)])) T1 = some (.tup [.int (t : Nat), .int (xs.getD t 0)]) := upd_same
        generalize upd H6 T1 (.tup [.int (t : Nat), .int (xs.getD t 0)]) = H7 at sT1 hT6
        refine ⟨T1, _, rfl, SqT.of hT6, rfl, _, _, rfl, _, _, rfl, rfl, ?_⟩
        refine ⟨_, rfl, _, rfl, _, rfl, _, _, rfl, rfl, rfl, fun k1 H8 s8 n8 h8 => ?_⟩
        have s68 := sT1.trans s8
        have hta8 := s68 _ _ hta6
        have g : DGet H8 ta (.ref k1) (some (.int (PS (rowF Xs) i t))) := by
          rw [← tx6.at_ i t (.inr ⟨rfl, Nat.le_refl _⟩)]
          exact .t (k := kk i t) hta8 h8
        refine ⟨ta, _, rfl, g, ?_⟩
        refine ⟨_, rfl, _, _, rfl, rfl, ?_⟩
        refine ⟨_, rfl, _, rfl, _, rfl, rfl, fun k2 H9 s9 n9 h9 => ?_⟩
        have h9' : H9 k2 = some (.tup [.int (i : Int), .int (((t + 1 : Nat) : Int) - 1)]) := by
          rw [show ((t + 1 : Nat) : Int) - 1 = (t : Int) by omega]
          exact h9
        have s69 := s68.trans s9
        have hta9 := s69 _ _ hta6
        have ev : PS (rowF Xs) i t + xs.getD t 0 = PS (rowF Xs) i (t + 1) := by
          rw [PS_succ (by rw [eF]; exact ht)]
          unfold PX
          rw [eF]
        show rSetD (V.ref ta) _ (V.int (PS (rowF Xs) i t + xs.getD t 0)) H9 _
        rw [ev]
        refine ⟨ta, _, rfl, .t (k := kk i (t + 1)) hta9 h9' (small' (by omega)), ?_⟩
        have kl9 := length_putK kvs (kk i (t + 1)) (.int (PS (rowF Xs) i (t + 1)))
        exact ⟨_, _, _, rfl, Same.put (s6.trans s69) nta, upd_same, by omega, tx6.put i (t + 1) (fun z => by omega) fun p' t' => by omega⟩
      · rintro σ H6 ⟨kvs, v4, v5, rfl, s6, hta6, kl6, tx6⟩
        rw [List.length_map] at kl6 tx6
        exact ⟨kvs, _, _, _, _, rfl, s6, hta6, by omega, ⟨fun kv m => by
          obtain ⟨p, t, a1, a2, a3⟩ := tx6.all kv m
          exact ⟨p, t, a1, by omega, a3⟩, fun p t d => tx6.at_ p t (by omega)⟩⟩
    · rintro σ H2 ⟨kvs, v2, v3, v4, v5, rfl, s2, hta, kl, tx⟩
      rw [List.length_map, lr] at tx
      exact ⟨_, rfl, q ta kvs H2 s2 nta hta tx⟩

end
end KR
namespace KR
open PySem PySem.Spec PyProof.Rows L2
section
variable {P : Program} {w : World} {K : PySem.W.Frag} {mg : Str → Option Value} {base : Heap}
def sp_p_shows_plan (K : PySem.W.Frag) (Ps : List Addr) : Sp := fun vs H Q _ => ∃ (p d : Addr) (x : DyP) (D : Dy) (Av : Addr → Prop) (B n : Nat) (v : V) (e : PyData), vs = [.ref d, v] ∧ DayAt K H p d x D ∧ DyOk D ∧ Tg K Av H B n v e ∧ Tbs Ps H ∧ ∀ (b : Bool) (H' : Hp), (b = true ↔ IsPlan D e) → Sm H H' → Q (.bl b) H'
theorem DayAt.sm {K : PySem.W.Frag} {H H' : Hp} {p a : Addr} {x : DyP} {D : Dy} (h : DayAt K H p a x D) (s : Sm H H') : DayAt K H' p a x D := by
  have sb : ∀ {a : Addr} {xs : List V} {b : Bool}, SqB K H a xs b → SqB K H' a xs b := fun {a xs b} h => by
    cases b with
    | true => exact s.seq h
    | false => exact s.tup h
  exact ⟨s.tup h.at_, ⟨sb h.cs.1, h.cs.2⟩, sb h.ks, h.kp, ⟨sb h.ss.1, h.ss.2⟩, h.len, fun j a k e1 e2 => by
    obtain ⟨t, b, h1, h2⟩ := (h.kt j a k e1 e2).ex
    exact ⟨t, b, s.tup h1, ⟨sb h2.1, h2.2⟩⟩⟩
theorem ok_p_shows_plan (T : All K mg) (B : Tabs T base) : FnOk P w K mg base CX0 5 T.f_p_shows_plan T.fd_p_shows_plan ["day", "thing"] (sp_p_shows_plan K T.Ps) := by
  refine T.k_p_shows_plan.ok sc_p_shows_plan (fun vs H Q E h => ?_) (fun cdv A outer s H vs Q E hc hr h => ?_)
  · obtain ⟨p, d, x, D, Av, Bn, n, v, e, rfl, _⟩ := h
    rfl
  · obtain ⟨p, d, x, D, Av, Bn, n, v, e, rfl, hD, O, hv, hT, q⟩ := h
    have t1 : GxR.TabG H T.P_p_shows_plan := hT _ (by simp [All.Ps])
    have t2 : GxR.TabG H T.P_p__is_place_of_plan := hT _ (by simp [All.Ps])
    refine ⟨_, (pss_cons (ps_if (PW.pt (pw_or (pt_not (pt_val (pe_callB (isiK (K := K) rfl) (by rfl) T.b_isinstance (by decide +kernel) (pa_cons (pv 1) (pa_cons (pe_bltn (v := .ty "list") (by rfl) T.b_list (by decide +kernel) rfl) pa_nil))))) (pw_or1 (pt_cmpR op_ne (pe_callB (lenQ (K := K) rfl) (by rfl) T.b_len PySem.boot_len (pa_cons (pv 1) pa_nil)) (pe_call (ok_p_places_in T) (hr.mono (by decide)) (by rfl) T.d_p_places_in.mg T.d_p_places_in.fn.kp T.d_p_places_in.b .nil pass0 (pa_cons (pv 0) pa_nil)) (nomark _))))) (pss_one (ps_ret pe_bl)) pss_nil)
      (pss_cons (ps_if (pt_not (pt_val (pe_allF (jy := 0) hr (by rfl) T.b_all (by decide +kernel) B.t_p_shows_plan hc ⟨rfl, rfl, by decide +kernel, by decide +kernel, fun _ => rfl, rfl, rfl, rfl⟩ rfl rfl (pi_listK (K := K) rfl (pv 1)) (fun _ _ _ _ _ _ _ => (pe_call (ok_p__is_place_of_plan T B) (room_gen hr) (by rfl) T.d_p__is_place_of_plan.mg T.d_p__is_place_of_plan.fn.kp T.d_p__is_place_of_plan.b .nil pass0 (pa_cons (pv 0) (pa_cons (pe_call (ok_p_hours_in T) ((room_gen hr).mono (by decide)) (by rfl) T.d_p_hours_in.mg T.d_p_hours_in.fn.kp T.d_p_hours_in.b .nil pass0 (pa_cons (pv 1) pa_nil)) pa_nil)))) (by intro _; rfl)))) (pss_one (ps_ret pe_bl)) pss_nil)
      (pss_cons (ps_set (i := 3) sc_p_shows_plan.nd rfl (by first | exact Or.inl rfl | exact Or.inr rfl) (pe_call (ok_p__taken_by T) (hr.mono (by decide)) (by rfl) T.d_p__taken_by.mg T.d_p__taken_by.fn.kp T.d_p__taken_by.b .nil pass0 (pa_cons (pv 1) pa_nil)))
      (pss_cons (ps_lock (ps_for PassesOwn.never rfl (pi_keys (pv 3)) (pg_tupK (K := K) rfl rfl (pgs_cons (pg_name (i := 4) sc_p_shows_plan.nd rfl (by first | exact Or.inl rfl | exact Or.inr rfl)) (pgs_cons (pg_name (i := 5) sc_p_shows_plan.nd rfl (by first | exact Or.inl rfl | exact Or.inr rfl)) pgs_nil))) (pss_one (ps_for PassesOwn.never rfl (pi_values (pe_frz (pe_call (ok_p_bounds_at T) (hr.mono (by decide)) (by rfl) T.d_p_bounds_at.mg T.d_p_bounds_at.fn.kp T.d_p_bounds_at.b .nil pass0 (pa_cons (pv 0) (pa_cons (pv 4) (pa_cons (pv 5) pa_nil)))))) (pg_name (i := 6) sc_p_shows_plan.nd rfl (by first | exact Or.inl rfl | exact Or.inr rfl)) (pss_one (ps_if (pt_cmpR op_gt (pe_dget (hu_of hr) (pv 3) (pe_tupI (pa_cons (pv 4) (pa_cons (pv 5) pa_nil))) (fun _ _ => rfl)) (pe_call (ok_p_reachedX T) (hr.mono (by decide)) (by rfl) T.d_p_reached.mg T.d_p_reached.fn.kp T.d_p_reached.b .nil pass0 (pa_cons (pv 3) (pa_cons (pv 6) pa_nil))) (nomark _)) (pss_one (ps_ret pe_bl)) pss_nil))))))
      (pss_one (ps_ret pe_bl)))))), ?_⟩
    have k1 := O.k1
    have k2 := O.k2
    have h2 := O.h2
    obtain ⟨ty, hty, kl, _, _, _, _⟩ := hv.ty
    refine ⟨_, rfl, _, _, _, _, _, rfl, .ty _, hty, kit_ty kl, ?_⟩
    cases el : isL e with
    | false => exact ⟨_, rfl, iteT (q false _ ⟨(fun z => nomatch z), fun z => absurd z (isPlan_L el)⟩ .refl)⟩
    | true =>
    obtain ⟨f, xs, ds, m, rfl, rfl, rfl, hf, tg⟩ := hv.lstI el
    have lx : xs.length = ds.length := tg.1
    refine ⟨_, rfl, iteF ?_⟩
    refine ⟨_, rfl, f, _, rfl, .inl (SqL.of hf), _, rfl, p, d, x, D, rfl, hD, rfl, _, rfl, ?_⟩
    by_cases cl : ds.length = D.ks.length + 1
    rotate_left
    · exact ite_nT (by omega) (q false _ ⟨(fun z => nomatch z), fun z => absurd (isPlan_rows z).1 cl⟩ .refl)
    refine ite_nF (by omega) ?_
    refine ⟨_, rfl, f, rfl, ⟨_, SqL.of hf⟩, t1, .ref d, xs.length, fun i H' => Sm H H' ∧ i ≤ xs.length ∧ (ds.take i).all (placeB (D.cs.length : Int)) = true, rfl, fun H3 tb => ⟨Sm.tabbed tb t1, Nat.zero_le _, rfl⟩, fun i H3 ⟨sm, le, al⟩ => ?_⟩
    by_cases c : i = xs.length
    rotate_left
    · obtain ⟨x0, e, ex, ee, tx⟩ := tg.at_ (i := i) (by omega)
      refine .inr ⟨⟨_, _, sm.seq (SqL.of hf), ex⟩, by omega, fun y H4 ⟨e3, hy⟩ => ?_⟩
      subst e3
      obtain rfl := Option.some.inj ((hy _ (sm.seq (SqL.of hf))).symm.trans ex)
      refine ⟨_, rfl, _, rfl, p, d, x, D, rfl, hD.sm sm, Av, Bn, m, y, e, (D.cs.length : Int), rfl, tx.sm sm, sm.tab _ t2, fun H5 s5 => ?_⟩
      cases ck : placeB (D.cs.length : Int) e with
      | true => exact ⟨true, rfl, sm.trans s5, by omega, all_up al ee ck⟩
      | false =>
        exact ⟨false, rfl, _, rfl, iteT (q false H5 ⟨(fun z => nomatch z), fun z => by
          have a := (isPlan_rows z).2
          rw [all_at ee ck] at a
          cases a⟩ (sm.trans s5))⟩
    rw [List.take_of_length_le (by omega)] at al
    refine .inl ⟨⟨_, sm.seq (SqL.of hf), by omega⟩, _, rfl, iteF ?_⟩
    obtain ⟨Xs, rfl, okr⟩ := rows_of al
    have PO : PlanOk D Xs := ⟨by rw [← cl, List.length_map], okr⟩
    have hv3 : Tg K Av H3 Bn (m + 1) (.ref f) (planX Xs) := hv.sm sm
    obtain ⟨f', rs, ef, hf3, nf, R⟩ := plan_tg hv3
    cases ef
    have hD3 := hD.sm sm
    refine ⟨_, rfl, Av, f, rs, Xs, D.cs.length, rfl, hf3, R, by rw [PO.len]; omega, h2, fun r hr => (okr r hr).1, fun ta kvs H4 s4 nta hta tx => ?_⟩
    refine ⟨ta, .dT kvs, hta, trivial, fun od => ?_⟩
    have sL : Same H3 (upd H4 ta (.frz od (.dT kvs))) := Same.put s4 nta
    have hL : (upd H4 ta (.frz od (.dT kvs))) ta = some (.frz od (.dT kvs)) := upd_same
    generalize upd H4 ta (.frz od (.dT kvs)) = H5 at sL hL
    have back : ∀ {H' : Hp}, Same H3 H' → Sm H (upd H' ta (.dT kvs)) := fun {H'} s => sm.trans (.of (Same.put s nta))
    refine ⟨_, rfl, ta, od, rfl, .inr ⟨kvs, hL, for_it (walk_keysT (d := ta) (o := od) (kvs := kvs)) (fun j σ H' => ∃ (v4 v5 v6 : Option V), σ = [some (.ref d), some (.ref f), none, some (.ref ta), v4, v5, v6] ∧ Same H3 H' ∧ H' ta = some (.frz od (.dT kvs)) ∧ ∀ (i : Nat) (pl t : Nat) (v : V), i < j → kvs[i]? = some (kk pl t, v) → ∀ b ∈ bnds D pl t, PS (rowF Xs) pl t ≤ valX (rowF Xs) b)
      ⟨none, none, none, rfl, sL, hL, fun i pl t v lt => absurd lt (Nat.not_lt_zero _)⟩ (fun j σ H' _ ⟨_, _, _, _, _, h, _⟩ => h) ?_ ?_⟩⟩
    · rintro j v σ H6 H7 hj ⟨v4, v5, v6, rfl, s6, hL6, done⟩ ⟨rfl, k, w, q0, ek, rfl, hq0⟩
      obtain ⟨pl, t, e1, ⟨hpl, ht⟩, e2⟩ := tx.all _ (List.mem_of_getElem? ek)
      have e1 : k = kk pl t := e1
      have e2 : w = .int (PS (rowF Xs) pl t) := e2
      subst e1
      subst e2
      have hpl' : pl ≤ D.ks.length := by rw [PO.len] at hpl; omega
      have hq0' : H7 q0 = some (.tup [.int (pl : Int), .int ((t : Int) - 1)]) := hq0
      refine ⟨q0, _, rfl, SqT.of hq0', rfl, _, _, rfl, _, _, rfl, rfl, ?_⟩
      refine ⟨_, rfl, _, rfl, _, rfl, p, d, x, D, pl, t, (t : Int) - 1, rfl, rfl, hD3.same s6, O, hpl', ht, fun bx kb H8 s8 nb hb ab => ?_⟩
      refine ⟨bx, .dK kb, rfl, hb, trivial, fun od2 => ?_⟩
      have s9 : Same H7 (upd H8 bx (.frz od2 (.dK kb))) := Same.put s8 nb
      have hb9 : (upd H8 bx (.frz od2 (.dK kb))) bx = some (.frz od2 (.dK kb)) := upd_same
      have tab9 : ∀ {a : Addr} {o : HO}, H8 a = some o → (∀ z, o ≠ .dK z) → (upd H8 bx (.frz od2 (.dK kb))) a = some o := fun {a o} e n => by
        rw [upd_ne (fun z => by rw [z, hb] at e; exact n _ (Option.some.inj e).symm)]
        exact e
      generalize upd H8 bx (.frz od2 (.dK kb)) = H9 at s9 hb9 tab9
      have klen := ab.len
      refine ⟨bx, od2, kb, rfl, hb9, for_it (walk_values (d := bx) (o := od2) (kvs := kb)) (fun a σ H' => ∃ (v6 : Option V), σ = [some (.ref d), some (.ref f), none, some (.ref ta), some (.int (pl : Int)), some (.int ((t : Int) - 1)), v6] ∧ Same H9 H' ∧ ∀ b ∈ (bnds D pl t).take a, PS (rowF Xs) pl t ≤ valX (rowF Xs) b)
        ⟨_, rfl, .refl _, fun b m => absurd m (by rw [List.take_zero]; exact List.not_mem_nil)⟩ (fun a σ H' _ ⟨_, _, s, _⟩ => s _ _ hb9) ?_ ?_⟩
      · rintro a v σ G1 G2 ha ⟨v6', rfl, sg, ok⟩ ⟨rfl, ky, hk⟩
        obtain ⟨bd, ebd, e1, tt, ll, e2, htt, hll⟩ := ab.get hk
        obtain rfl : v = .ref tt := e2
        have htt9 := sg _ _ (tab9 htt nofun)
        have hll9 : leadV G2 ll bd.lead := by
          cases el : bd.lead with
          | none =>
            rw [el] at hll
            exact hll
          | some y =>
            rw [el] at hll
            obtain ⟨qq, eq, hqq⟩ := hll
            exact ⟨qq, eq, sg _ _ (tab9 hqq nofun)⟩
        have hL9 : G2 ta = some (.frz od (.dT kvs)) := sg _ _ (s9 _ _ hL6)
        refine ⟨_, rfl, _, rfl, _, rfl, rfl, fun k1 G3 g3 o3 y3 => ?_⟩
        have hL10 := g3 _ _ hL9
        have g : DGet G3 ta (.ref k1) (some (.int (PS (rowF Xs) pl t))) := .inr ⟨kvs, kk pl t, k1, .inr ⟨od, hL10⟩, rfl, y3, (tx.at_ pl t ⟨hpl, ht⟩).symm⟩
        refine ⟨ta, _, rfl, g, ?_⟩
        obtain ⟨u, eu, uz, us⟩ : ∃ u : Int, valX (rowF Xs) bd = u + bd.more ∧ (bd.lead = none → u = 0) ∧ (∀ p' h', bd.lead = some (p', h') → valV kvs [.inl p', .inl h'] = some (.int u)) := by
          cases el : bd.lead with
          | none => exact ⟨0, by unfold valX; rw [el, Int.zero_add], fun _ => rfl, fun p' h' z => nomatch z⟩
          | some y =>
            obtain ⟨p', h'⟩ := y
            obtain ⟨pn, tn, rfl, rfl, pk, tt'⟩ := bnds_lead hpl' (List.mem_of_getElem? ebd) el
            refine ⟨PS (rowF Xs) pn tn, ?_, (fun z => nomatch z), fun p' h' z => ?_⟩
            · unfold valX
              rw [el]
              show PS (rowF Xs) ((pn : Int)).toNat ((tn : Int) - 1 + 1).toNat + bd.more = _
              rw [Int.toNat_natCast, show ((tn : Int) - 1 + 1).toNat = tn by omega]
            · obtain ⟨rfl, rfl⟩ := Prod.mk.inj (Option.some.inj z)
              exact tx.at_ pn tn ⟨by rw [PO.len]; omega, by omega⟩
        refine ⟨_, rfl, _, rfl, ta, tt, ll, bd, kvs, u, rfl, g3 _ _ htt9, hll9.same g3, .inr ⟨od, hL10⟩, uz, us, ?_⟩
        rw [← eu]
        refine ⟨_, _, rfl, rfl, _, rfl, ?_⟩
        have s3g : Same H3 G3 := s6.trans (s9.trans (sg.trans g3))
        by_cases cv : valX (rowF Xs) bd < PS (rowF Xs) pl t
        · refine ite_bT (decide_eq_true cv) ?_
          refine ⟨hL10, q false _ ⟨(fun z => nomatch z), fun z => ?_⟩ (back s3g)⟩
          have dd := (isPlan_iff PO).mp z
          cases t with
          | zero =>
            have eb : bd = ⟨"begin", none, 0⟩ := List.mem_singleton.mp (List.mem_of_getElem? ebd)
            rw [eb, PS_zero] at cv
            exact absurd cv (by show ¬ ((0 : Int) < 0); decide)
          | succ t =>
            have := (plAt_bnds hpl' (by rw [PO.lenF hpl']; omega)).mp (dd pl t hpl' (by omega)) bd (List.mem_of_getElem? ebd)
            omega
        · refine ite_bF (decide_eq_false cv) ?_
          refine ⟨_, rfl, sg.trans g3, fun b mb => ?_⟩
          rw [take_one ebd] at mb
          rcases List.mem_append.mp mb with z | z
          · exact ok b z
          · rw [List.mem_singleton.mp z]
            omega
      · rintro σ G1 ⟨v6', rfl, sg, ok⟩
        rw [klen, List.take_length] at ok
        refine ⟨_, _, _, rfl, s6.trans (s9.trans sg), sg _ _ (s9 _ _ hL6), fun i pl' t' v lt ei => ?_⟩
        by_cases c : i < j
        · exact done i pl' t' v c ei
        · obtain rfl : i = j := by omega
          rw [ek] at ei
          obtain ⟨e1, _⟩ := Prod.mk.inj (Option.some.inj ei)
          obtain ⟨rfl, rfl⟩ := kk_inj e1
          exact ok
    · rintro σ H6 ⟨v4, v5, v6, rfl, s6, hL6, done⟩
      refine ⟨hL6, q true _ ⟨fun _ => (isPlan_iff PO).mpr fun pl t hpl ht => ?_, fun _ => rfl⟩ (back s6)⟩
      obtain ⟨i, v, ei⟩ := tx.mem (p := pl) (t := t + 1) ⟨by rw [PO.len]; omega, by omega⟩
      exact (plAt_bnds hpl (by rw [PO.lenF hpl]; exact ht)).mpr (done i pl (t + 1) v (List.getElem?_eq_some_iff.mp ei).1 ei)

end
end KR
namespace KR
open PySem PySem.Spec PyProof.Rows L2
section
variable {P : Program} {w : World} {K : PySem.W.Frag} {mg : Str → Option Value} {base : Heap}
def sp_p__most_taken (K : PySem.W.Frag) : Sp := fun vs H Q _ => ∃ (p d : Addr) (x : DyP) (D : Dy), vs = [.ref d] ∧ DayAt K H p d x D ∧ DyOk D ∧ ∀ (ta : Addr) (kvs : List (List Key × V)) (H' : Hp), Same H H' → H ta = none → H' ta = some (.dT kvs) → Told D kvs (fun p t => p ≤ D.ks.length ∧ t ≤ D.cs.length) → Q (.ref ta) H'
theorem ok_p__most_taken (T : All K mg) : FnOk P w K mg base CX0 2 T.f_p__most_taken T.fd_p__most_taken ["day"] (sp_p__most_taken K) := by
  refine T.d_p__most_taken.fn.ok sc_p__most_taken (fun vs H Q E h => ?_) (fun cdv A outer s H vs Q E hr h => ?_)
  · obtain ⟨p, d, x, D, rfl, _⟩ := h
    rfl
  · obtain ⟨p, d, x, D, rfl, hD, O, q⟩ := h
    refine ⟨_, (pss_cons (ps_set (i := 1) sc_p__most_taken.nd rfl (by first | exact Or.inl rfl | exact Or.inr rfl) pe_dnewT)
      (pss_cons (ps_for PassesOwn.never rfl (pi_range2 (by rfl) T.b_range (pa_cons (pe_glob (v := .int (-1)) rfl T.c_AHEAD_OF_ALL ⟨_, rfl⟩) (pa_cons (pe_call (ok_p_hours_in T) hr (by rfl) T.d_p_hours_in.mg T.d_p_hours_in.fn.kp T.d_p_hours_in.b .nil pass0 (pa_cons (pv 0) pa_nil)) pa_nil))) (pg_name (i := 2) sc_p__most_taken.nd rfl (by first | exact Or.inl rfl | exact Or.inr rfl)) (pss_one (ps_for PassesOwn.never rfl (pi_revR (by rfl) T.b_reversed (prg_1 (by rfl) T.b_range (pe_call (ok_p_places_in T) hr (by rfl) T.d_p_places_in.mg T.d_p_places_in.fn.kp T.d_p_places_in.b .nil pass0 (pa_cons (pv 0) pa_nil)))) (pg_name (i := 3) sc_p__most_taken.nd rfl (by first | exact Or.inl rfl | exact Or.inr rfl)) (pss_cons (ps_set (i := 4) sc_p__most_taken.nd rfl (by first | exact Or.inl rfl | exact Or.inr rfl) (pe_call (ok_p_bounds_at T) hr (by rfl) T.d_p_bounds_at.mg T.d_p_bounds_at.fn.kp T.d_p_bounds_at.b .nil pass0 (pa_cons (pv 0) (pa_cons (pv 3) (pa_cons (pv 2) pa_nil)))))
      (pss_one (ps_asg (pe_callB (minLK (K := K) rfl rfl) (by rfl) T.b_min (by decide +kernel) (pa_cons (pe_lock (pe_lc (own := [("bound", 5)]) (g := gName 5) (tt := tYes) (by rfl) sc_p__most_taken.nd (pi_values (pv 4)) (blkOk_by (own := [("bound", 5)]) (N := ["day", "taken", "hour", "place", "bounds", "bound"]) (sc := defScope s_p__most_taken) (by decide +kernel)) (fun _ _ _ _ _ => (pg_name (i := 5) sc_p__most_taken.nd rfl (by first | exact Or.inl rfl | exact Or.inr rfl))) (fun _ _ _ _ _ => pts_nil) (fun _ _ _ _ _ => (pe_call (ok_p_reached T) hr (by rfl) T.d_p_reached.mg T.d_p_reached.fn.kp T.d_p_reached.b .nil pass0 (pa_cons (pv 1) (pa_cons (pv 5) pa_nil)))))) pa_nil)) (pg_sub (pv 1) (pe_tupI (pa_cons (pv 3) (pa_cons (pv 2) pa_nil))) (set_dict (hu_of hr)))))))))
      (pss_one (ps_ret (pv 1))))), ?_⟩
    have k1 := O.k1
    have k2 := O.k2
    have h2 := O.h2
    refine fun ta nta => ?_
    refine ⟨_, rfl, p, d, x, D, rfl, hD.same (same_new nta), ?_⟩
    have eN : ((D.cs.length : Int) - -1).toNat = D.cs.length + 1 := by omega
    refine ⟨-1, (D.cs.length : Int), rfl, ⟨by decide, by decide, by omega, by omega⟩, for_range (lo := -1) (n := ((D.cs.length : Int) - -1).toNat) (fun i σ H' => ∃ (kvs : List (List Key × V)) (v2 v3 v4 : Option V), σ = [some (.ref d), some (.ref ta), v2, v3, v4, none] ∧ Same H H' ∧ H' ta = some (.dT kvs) ∧ kvs.length ≤ 9 * i ∧ Told D kvs fun p' t' => p' ≤ D.ks.length ∧ t' < i)
      ⟨[], none, none, none, rfl, same_new nta, upd_same, Nat.zero_le _, fun p' t' h => absurd h.2 (Nat.not_lt_zero _)⟩ ?_ ?_⟩
    · rintro i σ H1 hi ⟨kvs, v2, v3, v4, rfl, s1, hta, kl, told⟩
      have i48 : i ≤ D.cs.length := by omega
      refine ⟨_, rfl, p, d, x, D, rfl, hD.same s1, ?_⟩
      have eM : ((D.ks.length : Int) + 1 - 0).toNat = D.ks.length + 1 := by omega
      refine ⟨(D.ks.length : Int) + 1, rfl, by decide, by decide, by omega, by omega, for_rangeC (lo := 0 + ((((D.ks.length : Int) + 1 - 0).toNat : Nat) : Int) - 1) (c := -1) (n := ((D.ks.length : Int) + 1 - 0).toNat) (fun j σ H' => ∃ (kvs : List (List Key × V)) (v3 v4 : Option V), σ = [some (.ref d), some (.ref ta), some (.int (-1 + (i : Int))), v3, v4, none] ∧ Same H H' ∧ H' ta = some (.dT kvs) ∧ kvs.length ≤ 9 * i + j ∧ Told D kvs fun p' t' => p' ≤ D.ks.length ∧ (t' < i ∨ (t' = i ∧ D.ks.length < p' + j)))
        ⟨kvs, v3, v4, rfl, s1, hta, by omega, fun p' t' h => told p' t' ⟨h.1, by omega⟩⟩ ?_ ?_⟩
      · rintro j σ H1 hj ⟨kvs, v3, v4, rfl, s1, hta, kl, told⟩
        obtain ⟨pl, epl, lpl⟩ : ∃ pl : Nat, 0 + ((((D.ks.length : Int) + 1 - 0).toNat : Nat) : Int) - 1 + (j : Int) * -1 = (pl : Int) ∧ pl + j = D.ks.length := ⟨D.ks.length - j, by omega, by omega⟩
        rw [epl]
        refine ⟨_, rfl, _, rfl, _, rfl, p, d, x, D, pl, i, -1 + (i : Int), rfl, by omega, hD.same s1, O, by omega, i48, fun b kb H2 s2 nb hb ab => ?_⟩
        have hta2 := s2 _ _ hta
        have tab : ta ≠ b := ne_of_none hta nb
        have klen := ab.len
        refine ⟨b, .dK kb, hb, trivial, fun od => ?_⟩
        refine ⟨_, rfl, b, od, kb, rfl, upd_same, fun Dl hDl => ?_⟩
        have Dlb : Dl ≠ b := fun e => by
          rw [e, upd_same] at hDl
          cases hDl
        have hDl' : H2 Dl = none := by
          rw [upd_ne Dlb] at hDl
          exact hDl
        refine lc_it (walk_values (d := b) (o := od) (kvs := kb)) (fun a H' => ∃ zs : List Int, Fr b H2 H' ∧ H' b = some (.frz od (.dK kb)) ∧ H' Dl = some (.lst (zs.map V.int)) ∧ zs = ((bnds D pl i).map (valB D)).take a)
          ⟨[], (Fr.put Fr.refl).new hDl, by rw [upd_ne Dlb.symm]; exact upd_same, upd_same, rfl⟩ (fun a H' _ ⟨_, _, h, _⟩ => h) ?_ ?_
        · rintro a v H4 H5 ha ⟨zs, F, hfb, hD4, ez⟩ ⟨rfl, k, hk⟩
          obtain ⟨bd, ebd, e1, tt, ll, e2, htt, hll⟩ := ab.get hk
          obtain rfl : v = .ref tt := e2
          have ttb : tt ≠ b := ne_of htt hb (by intro z; cases z)
          have len3 := bnds_len3 D pl i
          refine ⟨rfl, yesT ?_⟩
          refine ⟨_, rfl, _, rfl, ta, tt, ll, D, bd, kvs, rfl, F _ _ ttb htt, hll.frb hb F, F _ _ tab hta2, fun p' h' el => ?_, ?_⟩
          · obtain ⟨pn, tn, rfl, rfl, pk, tt'⟩ := bnds_lead (by omega) (List.mem_of_getElem? ebd) el
            have g := told pn tn ⟨pk, by omega⟩
            rw [show ((tn : Int) - 1 + 1).toNat = tn by omega, Int.toNat_natCast]
            exact g
          · have zl : zs.length ≤ 3 := by
              rw [ez, List.length_take, List.length_map]
              omega
            refine ⟨_, hD4, by rw [List.length_map]; exact small' (by omega), zs ++ [valB D bd], F.put' hDl', ?_, by rw [upd_same, List.map_append] <;> rfl, ?_⟩
            · rw [upd_ne Dlb.symm]
              exact hfb
            · rw [ez, take_one (show ((bnds D pl i).map (valB D))[a]? = some (valB D bd) by rw [List.getElem?_map, ebd] <;> rfl)]
        · rintro H4 ⟨zs, F, hfb, hD4, ez⟩
          have ez' : zs = (bnds D pl i).map (valB D) := by
            rw [ez, klen, ← List.length_map (as := bnds D pl i) (valB D), List.take_length]
          obtain ⟨mm, ml⟩ := bnds_min (D := D) (p := pl) (t := i) k1 (by omega)
          refine ⟨hfb, ?_⟩
          refine ⟨Dl, zs, rfl, SqL.of (by rw [upd_ne Dlb]; exact hD4), by rw [ez', List.length_map]; exact bnds_len D pl i, fun m hm hle => ?_⟩
          rw [ez'] at hm hle
          obtain rfl := min_mem hm hle mm ml
          have F6 : Fr b H2 (upd H4 b (.dK kb)) := Fr.put F
          have s16 : Same H1 (upd H4 b (.dK kb)) := same_frb s2 nb F6
          generalize upd H4 b (.dK kb) = H6 at F6 s16
          refine ⟨_, rfl, _, rfl, _, rfl, rfl, fun ky H7 s7 n7 h7 => ?_⟩
          rw [show (-1 + (i : Int)) = (i : Int) - 1 by omega] at h7
          have s17 := s16.trans s7
          have hta7 := s17 _ _ hta
          refine ⟨ta, _, rfl, .t (k := kk pl i) hta7 h7 (small' (by omega)), ?_⟩
          have lp := length_putK kvs (kk pl i) (.int (tk D i pl))
          exact ⟨putK kvs (kk pl i) (.int (tk D i pl)), _, _, rfl, Same.put (s1.trans s17) nta, upd_same, by omega, told.put pl i fun p' t' h => by omega⟩
      · rintro σ H1' ⟨kvs, v3, v4, rfl, s1, hta, kl, told⟩
        rw [eM] at kl told
        exact ⟨kvs, _, _, _, rfl, s1, hta, by omega, fun p' t' h => told p' t' ⟨h.1, by omega⟩⟩
    · rintro σ H1 ⟨kvs, v2, v3, v4, rfl, s1, hta, kl, told⟩
      rw [eN] at told
      exact ⟨_, rfl, q ta kvs H1 s1 nta hta fun p' t' h => told p' t' ⟨h.1, by omega⟩⟩

end
end KR
namespace KR
open PySem PySem.Spec PyProof.Rows L2
section
variable {P : Program} {w : World} {K : PySem.W.Frag} {mg : Str → Option Value} {base : Heap}
def sp_p_most_plan (K : PySem.W.Frag) : Sp := fun vs H Q _ => ∃ (p d : Addr) (x : DyP) (D : Dy), vs = [.ref d] ∧ DayAt K H p d x D ∧ DyOk D ∧ ∀ (f : Addr) (rs : List Addr) (H' : Hp), Same H H' → H f = none → H' f = some (.lst (rs.map V.ref)) → rs.length = D.ks.length + 1 → rs.Nodup → (∀ (j : Nat) (r : Addr), rs[j]? = some r → H' r = some (.lst ((rowI D j).map V.int)) ∧ H r = none ∧ r ≠ f) → Q (.ref f) H'
theorem ok_p_most_plan (T : All K mg) : FnOk P w K mg base CX0 3 T.f_p_most_plan T.fd_p_most_plan ["day"] (sp_p_most_plan K) := by
  refine T.d_p_most_plan.fn.ok sc_p_most_plan (fun vs H Q E h => ?_) (fun cdv A outer s H vs Q E hr h => ?_)
  · obtain ⟨p, d, x, D, rfl, _⟩ := h
    rfl
  · obtain ⟨p, d, x, D, rfl, hD, O, q⟩ := h
    refine ⟨_, (pss_cons (ps_set (i := 1) sc_p_most_plan.nd rfl (by first | exact Or.inl rfl | exact Or.inr rfl) (pe_call (ok_p__most_taken T) hr (by rfl) T.d_p__most_taken.mg T.d_p__most_taken.fn.kp T.d_p__most_taken.b .nil pass0 (pa_cons (pv 0) pa_nil)))
      (pss_cons (ps_set (i := 2) sc_p_most_plan.nd rfl (by first | exact Or.inl rfl | exact Or.inr rfl) (pe_rngV (by rfl) T.b_range (pe_call (ok_p_hours_in T) (hr.mono (by decide)) (by rfl) T.d_p_hours_in.mg T.d_p_hours_in.fn.kp T.d_p_hours_in.b .nil pass0 (pa_cons (pv 0) pa_nil))))
      (pss_one (ps_ret (pe_lc (own := [("place", 4)]) (g := gName 4) (tt := tYes) (by rfl) sc_p_most_plan.nd (pi_range1 (by rfl) T.b_range (pa_cons (pe_call (ok_p_places_in T) (hr.mono (by decide)) (by rfl) T.d_p_places_in.mg T.d_p_places_in.fn.kp T.d_p_places_in.b .nil pass0 (pa_cons (pv 0) pa_nil)) pa_nil)) (blkOk_by (own := [("place", 4)]) (N := ["day", "taken", "hours", "hour", "place"]) (sc := defScope s_p_most_plan) (by decide +kernel)) (fun _ _ _ _ _ => (pg_name (i := 4) sc_p_most_plan.nd rfl (by first | exact Or.inl rfl | exact Or.inr rfl))) (fun _ _ _ _ _ => pts_nil) (fun _ _ _ _ _ => (pe_lc (own := [("hour", 3)]) (g := gName 3) (tt := tYes) (by rfl) sc_p_most_plan.nd (pi_rngV (pv 2)) (blkOk_in (own := [("hour", 3)]) (N := ["day", "taken", "hours", "hour", "place"]) (sc := defScope s_p_most_plan) rfl (by decide +kernel)) (fun _ _ _ _ _ => (pg_name (i := 3) sc_p_most_plan.nd rfl (by first | exact Or.inl rfl | exact Or.inr rfl))) (fun _ _ _ _ _ => pts_nil) (fun _ _ _ _ _ => (pe_op op_sub (pe_dget (hu_of hr) (pv 1) (pe_tupI (pa_cons (pv 4) (pa_cons (pv 3) pa_nil))) (fun _ _ => rfl)) (pe_dget (hu_of hr) (pv 1) (pe_tupI (pa_cons (pv 4) (pa_cons (pe_op op_sub (pv 3) pe_int) pa_nil))) (fun _ _ => rfl))))))))))), ?_⟩
    have k1 := O.k1
    have k2 := O.k2
    have h2 := O.h2
    refine ⟨_, rfl, p, d, x, D, rfl, hD, O, fun ta kvs H1 s1 nt ht told => ?_⟩
    refine ⟨_, rfl, p, d, x, D, rfl, hD.same s1, _, rfl, fun ra nra => ?_⟩
    have sr : Same H1 (upd H1 ra (.rng 0 (D.cs.length : Int))) := same_new nra
    have hra : (upd H1 ra (.rng 0 (D.cs.length : Int))) ra = some (.rng 0 (D.cs.length : Int)) := upd_same
    generalize upd H1 ra (.rng 0 (D.cs.length : Int)) = H2 at sr hra
    have s12 := s1.trans sr
    have ht2 := sr _ _ ht
    refine ⟨_, rfl, p, d, x, D, rfl, hD.same s12, (D.ks.length : Int) + 1, rfl, by omega, by omega, fun F hF => ?_⟩
    have nF : H F = none := same_none' s12 hF
    have eM : ((D.ks.length : Int) + 1).toNat = D.ks.length + 1 := by omega
    refine lc_range (lo := 0) (n := ((D.ks.length : Int) + 1).toNat) (fun i H' => ∃ rs : List Addr, Same H2 H' ∧ H' F = some (.lst (rs.map V.ref)) ∧ rs.length = i ∧ rs.Nodup ∧ ∀ (j : Nat) (r : Addr), rs[j]? = some r → H' r = some (.lst ((rowI D j).map V.int)) ∧ H2 r = none ∧ r ≠ F)
      ⟨[], same_new hF, upd_same, rfl, List.nodup_nil, fun j r e => by simp at e⟩ (fun i H3 hi z => ?_) (fun H3 z => ?_)
    · obtain ⟨rs, s3, hF3, lr, nd, rows⟩ := z
      rw [eM] at hi
      rw [Int.zero_add]
      refine ⟨rfl, yesT ?_⟩
      refine ⟨_, rfl, ra, 0, (D.cs.length : Int), rfl, s3 _ _ hra, ⟨by decide, by decide, by omega, by omega⟩, fun G hG => ?_⟩
      have eN : ((D.cs.length : Int) - 0).toNat = D.cs.length := by omega
      have hF4 : (upd H3 G (.lst [])) F = some (.lst (rs.map V.ref)) := by
        rw [upd_ne (ne_of_none hF3 hG)]
        exact hF3
      refine lc_range (lo := 0) (n := ((D.cs.length : Int) - 0).toNat) (fun t H' => Same H3 H' ∧ H' G = some (.lst (((rowI D i).take t).map V.int)))
        ⟨same_new hG, upd_same⟩ (fun t H4 hj z => ?_) (fun H4 z => ?_)
      · obtain ⟨s4, hG4⟩ := z
        rw [eN] at hj
        rw [Int.zero_add]
        refine ⟨rfl, yesT ?_⟩
        refine ⟨_, rfl, _, rfl, _, rfl, rfl, fun ky H5 s5 n5 h5 => ?_⟩
        have ek : [V.int (i : Int), V.int (t : Int)] = (kk i (t + 1)).map kV := by
          show _ = [V.int (i : Int), V.int (((t + 1 : Nat) : Int) - 1)]
          rw [show ((t + 1 : Nat) : Int) - 1 = (t : Int) by omega]
        rw [ek] at h5
        have g5 : DGet H5 ta (.ref ky) (some (.int (tk D (t + 1) i))) := by
          rw [← told i (t + 1) ⟨by omega, by omega⟩]
          exact .t ((s3.trans (s4.trans s5)) _ _ ht2) h5
        refine ⟨ta, _, rfl, g5, ?_⟩
        refine ⟨_, rfl, _, rfl, _, rfl, _, _, rfl, rfl, rfl, fun ky2 H6 s6 n6 h6 => ?_⟩
        have h6' : H6 ky2 = some (.tup ((kk i t).map kV)) := h6
        have g6 : DGet H6 ta (.ref ky2) (some (.int (tk D t i))) := by
          rw [← told i t ⟨by omega, by omega⟩]
          exact .t ((s3.trans (s4.trans (s5.trans s6))) _ _ ht2) h6'
        refine ⟨ta, _, rfl, g6, _, _, rfl, rfl, ?_⟩
        have s46 := s5.trans s6
        refine ⟨_, s46 _ _ hG4, by rw [List.length_map, List.length_take, row_len]; exact small' (by omega), Same.put (s4.trans s46) hG, ?_⟩
        rw [upd_same, take_one (row_get hj), List.map_append] <;> rfl
      · obtain ⟨s4, hG4⟩ := z
        rw [eN, List.take_of_length_le (by rw [row_len]; exact Nat.le_refl _)] at hG4
        have nG : H2 G = none := same_none' s3 hG
        have GF : G ≠ F := fun e => by
          rw [e, hF3] at hG
          cases hG
        have hF5 := s4 _ _ hF3
        refine ⟨_, hF5, by rw [List.length_map]; exact small' (by omega), rs ++ [G], Same.put (s3.trans s4) hF, by rw [upd_same, List.map_append] <;> rfl, by rw [List.length_append, lr] <;> rfl, ?_, fun j r e => ?_⟩
        · refine List.nodup_append.mpr ⟨nd, by simp, fun u hu v hv => ?_⟩
          rw [List.mem_singleton.mp hv]
          obtain ⟨j, hj⟩ := List.getElem?_of_mem hu
          exact ne_of_none (rows j u hj).1 hG
        · by_cases c : j < rs.length
          · rw [List.getElem?_append_left c] at e
            obtain ⟨a1, a2, a3⟩ := rows j r e
            exact ⟨by rw [upd_ne a3]; exact s4 _ _ a1, a2, a3⟩
          · have jl : j = rs.length := by
              have := (List.getElem?_eq_some_iff.mp e).1
              rw [List.length_append, List.length_singleton] at this
              omega
            subst jl
            rw [List.getElem?_append_right (Nat.le_refl _), Nat.sub_self] at e
            cases e
            exact ⟨by rw [upd_ne GF, lr]; exact hG4, nG, GF⟩
    · obtain ⟨rs, s3, hF3, lr, nd, rows⟩ := z
      exact q F rs H3 (s12.trans s3) nF hF3 (lr.trans eM) nd fun j r e => ⟨(rows j r e).1, same_none' s12 (rows j r e).2.1, (rows j r e).2.2⟩

end
end KR
namespace KR
open PySem PySem.Spec PyProof.Rows L2
section
variable {P : Program} {w : World} {K : PySem.W.Frag} {mg : Str → Option Value} {base : Heap}
def sp_p_first_hour (K : PySem.W.Frag) : Sp := fun vs H Q _ => ∃ (p d : Addr) (x : DyP) (D : Dy) (m : Int), vs = [.ref d, .int m] ∧ DayAt K H p d x D ∧ DyOk D ∧ ∀ v H', Same H H' → FirstV D m v → Q v H'
theorem ok_p_first_hour (T : All K mg) : FnOk P w K mg base CX0 3 T.f_p_first_hour T.fd_p_first_hour ["day", "many"] (sp_p_first_hour K) := by
  refine T.d_p_first_hour.fn.ok sc_p_first_hour (fun vs H Q E h => ?_) (fun cdv A outer s H vs Q E hr h => ?_)
  · obtain ⟨p, d, x, D, m, rfl, _⟩ := h
    rfl
  · obtain ⟨p, d, x, D, m, rfl, hD, O, q⟩ := h
    refine ⟨_, (pss_cons (ps_set (i := 2) sc_p_first_hour.nd rfl (by first | exact Or.inl rfl | exact Or.inr rfl) (pe_call (ok_p__most_taken T) hr (by rfl) T.d_p__most_taken.mg T.d_p__most_taken.fn.kp T.d_p__most_taken.b .nil pass0 (pa_cons (pv 0) pa_nil)))
      (pss_cons (ps_asg (pe_call (ok_p_end_of T) hr (by rfl) T.d_p_end_of.mg T.d_p_end_of.fn.kp T.d_p_end_of.b .nil pass0 (pa_cons (pv 0) pa_nil)) (pg_tupK (K := K) rfl rfl (pgs_cons (pg_name (i := 3) sc_p_first_hour.nd rfl (by first | exact Or.inl rfl | exact Or.inr rfl)) (pgs_cons (pg_name (i := 4) sc_p_first_hour.nd rfl (by first | exact Or.inl rfl | exact Or.inr rfl)) pgs_nil))))
      (pss_cons (ps_for PassesOwn.never rfl (pi_range1 (by rfl) T.b_range (pa_cons (pe_call (ok_p_hours_in T) (hr.mono (by decide)) (by rfl) T.d_p_hours_in.mg T.d_p_hours_in.fn.kp T.d_p_hours_in.b .nil pass0 (pa_cons (pv 0) pa_nil)) pa_nil)) (pg_name (i := 5) sc_p_first_hour.nd rfl (by first | exact Or.inl rfl | exact Or.inr rfl)) (pss_one (ps_if (pt_cmpR op_ge (pe_dget (hu_of hr) (pv 2) (pe_tupI (pa_cons (pv 3) (pa_cons (pv 5) pa_nil))) (fun _ _ => rfl)) (pv 1) (nomark _)) (pss_one (ps_ret (pv 5))) pss_nil)))
      (pss_one (ps_ret pe_non))))), ?_⟩
    have h2 := O.h2
    refine ⟨_, rfl, p, d, x, D, rfl, hD, O, fun ta kvs H1 s1 n1 hta told => ?_⟩
    refine ⟨_, rfl, p, d, x, D, rfl, hD.same s1, fun te H2 s2 n2 h2' => ?_⟩
    refine ⟨te, _, rfl, SqT.of h2', rfl, _, _, rfl, _, _, rfl, rfl, ?_⟩
    have s12 := s1.trans s2
    refine ⟨_, rfl, p, d, x, D, rfl, hD.same s12, D.cs.length, rfl, by omega, by omega, for_range (lo := 0) (n := D.cs.length) (fun i σ H' => ∃ v5 : Option V, σ = [some (.ref d), some (.int m), some (.ref ta), some (.int (D.ks.length : Int)), some (.int ((D.cs.length : Int) - 1)), v5] ∧ Same H2 H' ∧ ∀ j, j < i → tk D (j + 1) D.ks.length < m)
      ⟨none, rfl, .refl _, fun j h => absurd h (Nat.not_lt_zero j)⟩ ?_ ?_⟩
    · rintro i σ H3 hi ⟨v5, rfl, s3, below⟩
      rw [Int.zero_add]
      refine ⟨_, rfl, _, rfl, _, rfl, rfl, fun ky H4 s4 n4 h4 => ?_⟩
      have s24 := s3.trans s4
      have ek : [V.int (D.ks.length : Int), V.int (i : Int)] = (kk D.ks.length (i + 1)).map kV := by
        show _ = [V.int (D.ks.length : Int), V.int (((i + 1 : Nat) : Int) - 1)]
        rw [show ((i + 1 : Nat) : Int) - 1 = (i : Int) by omega]
      rw [ek] at h4
      have g : DGet H4 ta (.ref ky) (some (.int (tk D (i + 1) D.ks.length))) := by
        rw [← told D.ks.length (i + 1) ⟨Nat.le_refl _, by omega⟩]
        exact .t ((s2.trans s24) _ _ hta) h4
      refine ⟨ta, _, rfl, g, _, rfl, _, _, rfl, rfl, _, rfl, ?_⟩
      by_cases c : m ≤ tk D (i + 1) D.ks.length
      · refine ite_bT (decide_eq_true c) ?_
        exact ⟨_, rfl, q _ _ (s12.trans s24) (.inl ⟨i, hi, below, c, rfl⟩)⟩
      · refine ite_bF (decide_eq_false c) ?_
        refine ⟨_, rfl, s24, fun j hj => ?_⟩
        rcases Nat.lt_or_ge j i with lt | ge
        · exact below j lt
        · rw [show j = i by omega]
          omega
    · rintro σ H3 ⟨v5, rfl, s3, below⟩
      exact q _ _ (s12.trans s3) (.inr ⟨below, rfl⟩)

end
end KR
namespace KR
open PySem PySem.Spec PyProof.Rows L2
section
variable {P : Program} {w : World} {K : PySem.W.Frag} {mg : Str → Option Value} {base : Heap}
def sp_p__tight_bound (K : PySem.W.Frag) : Sp := fun vs H Q _ => ∃ (p d ta le : Addr) (x : DyP) (D : Dy) (kvs : List (List Key × V)) (pl t : Nat), vs = [.ref d, .ref ta, .ref le] ∧ DayAt K H p d x D ∧ DyOk D ∧ H ta = some (.dT kvs) ∧ Told D kvs (fun p t => p ≤ D.ks.length ∧ t ≤ D.cs.length) ∧ H le = some (.tup [.int (pl : Int), .int ((t : Int) - 1)]) ∧ pl ≤ D.ks.length ∧ t ≤ D.cs.length ∧
  ∀ (tt : Addr) (b : Bd) (l : V) (H' : Hp), Same H H' → FirstT D pl t b → b ∈ bnds D pl t → valB D b = tk D t pl → H' tt = some (.tup [.str b.word, l]) → leadV H' l b.lead → Q (.ref tt) H'
theorem ok_p__tight_bound (T : All K mg) : FnOk P w K mg base CX0 2 T.f_p__tight_bound T.fd_p__tight_bound ["day", "taken", "lead"] (sp_p__tight_bound K) := by
  refine T.d_p__tight_bound.fn.ok sc_p__tight_bound (fun vs H Q E h => ?_) (fun cdv A outer s H vs Q E hr h => ?_)
  · obtain ⟨p, d, ta, le, x, D, kvs, pl, t, rfl, _⟩ := h
    rfl
  · obtain ⟨p, d, ta, le, x, D, kvs, pl, t, rfl, hD, O, hta, told, hle, hpl, ht, q⟩ := h
    refine ⟨_, (pss_cons (ps_asg (pv 2) (pg_tupK (K := K) rfl rfl (pgs_cons (pg_name (i := 3) sc_p__tight_bound.nd rfl (by first | exact Or.inl rfl | exact Or.inr rfl)) (pgs_cons (pg_name (i := 4) sc_p__tight_bound.nd rfl (by first | exact Or.inl rfl | exact Or.inr rfl)) pgs_nil))))
      (pss_cons (ps_set (i := 5) sc_p__tight_bound.nd rfl (by first | exact Or.inl rfl | exact Or.inr rfl) (pe_call (ok_p_bounds_at T) hr (by rfl) T.d_p_bounds_at.mg T.d_p_bounds_at.fn.kp T.d_p_bounds_at.b .nil pass0 (pa_cons (pv 0) (pa_cons (pv 3) (pa_cons (pv 4) pa_nil)))))
      (pss_cons (ps_lock (ps_setLc (i := 6) (own := [("word", 7)]) (g := gName 7) (by rfl) sc_p__tight_bound.nd rfl rfl (sw_true rfl rfl rfl (by decide +kernel)) (pi_keys (pv 5)) (blkOk_by (own := [("word", 7)]) (N := ["day", "taken", "lead", "place", "hour", "bounds", "tight", "word"]) (sc := defScope s_p__tight_bound) (by decide +kernel)) (fun _ _ _ _ _ => (pg_name (i := 7) sc_p__tight_bound.nd rfl (by first | exact Or.inl rfl | exact Or.inr rfl))) (fun _ _ _ _ _ => (pts_one (pt_cmpR op_eq (pe_call (ok_p_reached T) hr (by rfl) T.d_p_reached.mg T.d_p_reached.fn.kp T.d_p_reached.b .nil pass0 (pa_cons (pv 1) (pa_cons (pe_dget (hu_of hr) (pv 5) (pv 7) (fun _ _ => rfl)) pa_nil))) (pe_dget (hu_of hr) (pv 1) (pv 2) (fun _ _ => rfl)) (nomark _)))) (fun _ _ _ _ _ => (pv 7))))
      (pss_one (ps_ret (pe_tupI (pa_cons (pe_ix (ixL (K := K) rfl) (pv 6) pe_int (fun _ _ => rfl)) (pa_cons (pe_ix (ixT (K := K) rfl) (pe_dget (hu_of hr) (pv 5) (pe_ix (ixL (K := K) rfl) (pv 6) pe_int (fun _ _ => rfl)) (fun _ _ => rfl)) pe_int (fun _ _ => rfl)) pa_nil)))))))), ?_⟩
    have k1 := O.k1
    have k2 := O.k2
    have h2 := O.h2
    refine ⟨_, rfl, le, _, rfl, SqT.of hle, rfl, _, _, rfl, _, _, rfl, rfl, ?_⟩
    refine ⟨_, rfl, _, rfl, _, rfl, p, d, x, D, pl, t, (t : Int) - 1, rfl, rfl, hD, O, hpl, ht, fun b kb H1 s1 nb hb ab => ?_⟩
    have hta1 := s1 _ _ hta
    have hle1 := s1 _ _ hle
    have klen := ab.len
    have len3 := bnds_len3 D pl t
    have wnd := bnds_words D pl t
    have bta : ta ≠ b := ne_of_none hta nb
    have ble : le ≠ b := ne_of_none hle nb
    refine ⟨b, .dK kb, hb, trivial, fun od => ?_⟩
    refine ⟨_, rfl, b, od, rfl, .inl ⟨kb, upd_same, fun Dl hDl => ?_⟩⟩
    have Dlb : Dl ≠ b := fun e => by
      rw [e, upd_same] at hDl
      cases hDl
    have hDl' : H1 Dl = none := by
      rw [upd_ne Dlb] at hDl
      exact hDl
    refine lc_it (walk_keys (d := b) (o := od) (kvs := kb)) (fun a H' => Fr b H1 H' ∧ H' b = some (.frz od (.dK kb)) ∧ H' Dl = some (.lst (((((bnds D pl t).take a).filter fun b => decide (valB D b = tk D t pl)).map (·.word)).map V.str)))
      ⟨(Fr.put Fr.refl).new hDl, by rw [upd_ne Dlb.symm]; exact upd_same, upd_same⟩ (fun a H' _ ⟨_, h, _⟩ => h) ?_ ?_
    · rintro a v H4 H5 ha ⟨F, hfb, hD4⟩ ⟨rfl, k, vv, hk, rfl⟩
      obtain ⟨bd, ebd, e1, _⟩ := ab.get hk
      obtain rfl : k = .inr bd.word := e1
      have mb := List.mem_of_getElem? ebd
      obtain ⟨v', ev, _, tt, ll, e2, htt, hll⟩ := ab.at_ wnd bd mb
      obtain rfl : v' = .ref tt := e2
      have ttb : tt ≠ b := ne_of htt hb (by intro z; cases z)
      refine ⟨rfl, ?_⟩
      refine ⟨_, rfl, _, rfl, _, rfl, b, .ref tt, rfl, .inl ⟨kb, .inr bd.word, .inr ⟨od, hfb⟩, rfl, ev.symm⟩, ?_⟩
      refine ⟨ta, tt, ll, D, bd, kvs, rfl, F _ _ ttb htt, hll.frb hb F, F _ _ bta hta1, fun p' h' el => ?_, ?_⟩
      · obtain ⟨pn, tn, rfl, rfl, pk, tt'⟩ := bnds_lead hpl mb el
        have g := told pn tn ⟨pk, by omega⟩
        rw [show ((tn : Int) - 1 + 1).toNat = tn by omega, Int.toNat_natCast]
        exact g
      · have g2 : DGet H5 ta (.ref le) (some (.int (tk D t pl))) := by
          rw [← told pl t ⟨hpl, ht⟩]
          exact .t (k := kk pl t) (F _ _ bta hta1) (F _ _ ble hle1)
        refine ⟨_, rfl, _, rfl, ta, _, rfl, g2, rfl, _, rfl, ?_⟩
        have fl : ((((bnds D pl t).take a).filter fun b => decide (valB D b = tk D t pl)).map (·.word)).length ≤ 3 := by
          rw [List.length_map]
          have h1 := List.length_filter_le (fun b => decide (valB D b = tk D t pl)) ((bnds D pl t).take a)
          rw [List.length_take] at h1
          omega
        by_cases c : valB D bd = tk D t pl
        · refine ite_bT (decide_eq_true (congrArg V.int c)) ?_
          refine ⟨_, rfl, _, hD4, by rw [List.length_map]; exact small' (by omega), F.put' hDl', by rw [upd_ne Dlb.symm]; exact hfb, ?_⟩
          rw [upd_same, take_one ebd, List.filter_append, List.filter_cons, if_pos (decide_eq_true c), List.map_append, List.map_append] <;> rfl
        · refine ite_bF (decide_eq_false fun e => c (by injection e)) ?_
          refine ⟨F, hfb, ?_⟩
          rw [hD4, take_one ebd, List.filter_append, List.filter_cons, if_neg (by rw [decide_eq_false c]; exact Bool.false_ne_true), List.filter_nil, List.append_nil]
    · rintro H4 ⟨F, hfb, hD4⟩
      refine ⟨hfb, ?_⟩
      have F6 : Fr b H1 (upd H4 b (.dK kb)) := Fr.put F
      have s16 : Same H (upd H4 b (.dK kb)) := same_frb s1 nb F6
      have hb6 : (upd H4 b (.dK kb)) b = some (.dK kb) := upd_same
      have hD6 : (upd H4 b (.dK kb)) Dl = _ := (upd_ne Dlb).trans hD4
      generalize upd H4 b (.dK kb) = H6 at F6 s16 hb6 hD6
      obtain ⟨b0, rest, eF⟩ : ∃ b0 rest, (bnds D pl t).filter (fun b => decide (valB D b = tk D t pl)) = b0 :: rest := by
        obtain ⟨mm, _⟩ := bnds_min (D := D) (p := pl) (t := t) k1 hpl
        obtain ⟨b0, m0, e0⟩ := List.mem_map.mp mm
        have m1 := (List.mem_filter (p := fun b => decide (valB D b = tk D t pl))).mpr ⟨m0, decide_eq_true e0⟩
        cases h : (bnds D pl t).filter (fun b => decide (valB D b = tk D t pl)) with
        | nil => rw [h] at m1; exact absurd m1 List.not_mem_nil
        | cons b1 r => exact ⟨b1, r, rfl⟩
      have mb0 := List.mem_filter.mp (show b0 ∈ (bnds D pl t).filter (fun b => decide (valB D b = tk D t pl)) by rw [eF]; exact List.mem_cons_self)
      have vb0 := of_decide_eq_true mb0.2
      rw [klen, List.take_of_length_le (Nat.le_refl _), eF] at hD6
      obtain ⟨v', ev, _, tt, ll, e2, htt, hll⟩ := ab.at_ wnd b0 mb0.1
      obtain rfl : v' = .ref tt := e2
      have htt6 := F6 _ _ (ne_of htt hb (by intro z; cases z)) htt
      refine ⟨_, rfl, Dl, _, 0, _, rfl, rfl, SqL.of hD6, at0, _, rfl, _, rfl, Dl, _, 0, _, rfl, rfl, SqL.of hD6, at0, b, .ref tt, rfl, .inl ⟨kb, .inr b0.word, .inl hb6, rfl, ev.symm⟩, tt, _, 0, _, rfl, rfl, SqT.of htt6, at0, rfl, fun t1 H7 s7 n7 h7 => ?_⟩
      exact q t1 b0 ll H7 (s16.trans s7) ⟨rest, eF⟩ mb0.1 vb0 h7 ((hll.frb hb F6).same s7)

end
end KR
namespace KR
open PySem PySem.Spec PyProof.Rows L2
section
variable {P : Program} {w : World} {K : PySem.W.Frag} {mg : Str → Option Value} {base : Heap}
def WS (K : PySem.W.Frag) (D : Dy) (H1 : Hp) (d ta pa : Addr) (m : Nat) (σ : L2.St) (H' : Hp) : Prop := ∃ (lv : V) (v4 v5 : Option V) (rs : List Addr) (l : List (Str × Nat × Nat)), σ = [some (.ref d), some (.ref ta), some (.ref pa), some lv, v4, v5] ∧ Same H1 H' ∧ H' pa = some (.lst (rs.map V.ref)) ∧ PaperAt H' rs l ∧
  ((∃ (le : Addr) (pl t : Nat), lv = .ref le ∧ H' le = some (.tup [.int (pl : Int), .int ((t : Int) - 1)]) ∧ pl ≤ D.ks.length ∧ t ≤ D.cs.length ∧ m = t * 10 + (9 - pl) + 1 ∧ l.length + m ≤ 500 ∧ ∀ l', Chain D pl t l' (tk D t pl) → TChain D pl t l' → Chain D D.ks.length D.cs.length (l ++ l') (mostD D) ∧ TChain D D.ks.length D.cs.length (l ++ l')) ∨
  (lv = .non ∧ m = 0 ∧ l.length ≤ 500 ∧ Chain D D.ks.length D.cs.length l (mostD D) ∧ TChain D D.ks.length D.cs.length l))
def sp_p_most_struck (K : PySem.W.Frag) : Sp := fun vs H Q _ => ∃ (p d : Addr) (x : DyP) (D : Dy), vs = [.ref d] ∧ DayAt K H p d x D ∧ DyOk D ∧ ∀ (tt f : Addr) (rs : List Addr) (l : List (Str × Nat × Nat)) (H' : Hp), Same H H' → H f = none → H' tt = some (.tup [.int (mostD D), .ref f]) → H' f = some (.lst (rs.map V.ref)) → PaperAt H' rs l → Chain D D.ks.length D.cs.length l (mostD D) → TChain D D.ks.length D.cs.length l → l.length ≤ 500 → Q (.ref tt) H'
theorem ok_p_most_struck (T : All K mg) : FnOk P w K mg base CX0 3 T.f_p_most_struck T.fd_p_most_struck ["day"] (sp_p_most_struck K) := by
  refine T.d_p_most_struck.fn.ok sc_p_most_struck (fun vs H Q E h => ?_) (fun cdv A outer s H vs Q E hr h => ?_)
  · obtain ⟨p, d, x, D, rfl, _⟩ := h
    rfl
  · obtain ⟨p, d, x, D, rfl, hD, O, q⟩ := h
    refine ⟨_, (pss_cons (ps_set (i := 1) sc_p_most_struck.nd rfl (by first | exact Or.inl rfl | exact Or.inr rfl) (pe_call (ok_p__most_taken T) hr (by rfl) T.d_p__most_taken.mg T.d_p__most_taken.fn.kp T.d_p__most_taken.b .nil pass0 (pa_cons (pv 0) pa_nil)))
      (pss_cons (ps_set (i := 2) sc_p_most_struck.nd rfl (by first | exact Or.inl rfl | exact Or.inr rfl) (pe_lstI pa_nil))
      (pss_cons (ps_set (i := 3) sc_p_most_struck.nd rfl (by first | exact Or.inl rfl | exact Or.inr rfl) (pe_call (ok_p_end_of T) hr (by rfl) T.d_p_end_of.mg T.d_p_end_of.fn.kp T.d_p_end_of.b .nil pass0 (pa_cons (pv 0) pa_nil)))
      (pss_cons (ps_while PassesOwn.never (pt_cmpR op_notN (pv 3) pe_non (nomark _)) (pss_cons (ps_asg (pe_call (ok_p__tight_bound T) hr (by rfl) T.d_p__tight_bound.mg T.d_p__tight_bound.fn.kp T.d_p__tight_bound.b .nil pass0 (pa_cons (pv 0) (pa_cons (pv 1) (pa_cons (pv 3) pa_nil)))) (pg_tupK (K := K) rfl rfl (pgs_cons (pg_name (i := 4) sc_p_most_struck.nd rfl (by first | exact Or.inl rfl | exact Or.inr rfl)) (pgs_cons (pg_name (i := 5) sc_p_most_struck.nd rfl (by first | exact Or.inl rfl | exact Or.inr rfl)) pgs_nil))))
      (pss_cons (ps_expr (pe_bm PySem.F.plainAttrs_list PySem.F.slot_list_append PySem.F.type_list_append mt_append (pv 2) (pa_cons (pe_op (op_catTP (K := K) rfl) (pe_tupI (pa_cons (pv 4) pa_nil)) (pv 3)) pa_nil)))
      (pss_one (ps_set (i := 3) sc_p_most_struck.nd rfl (by first | exact Or.inl rfl | exact Or.inr rfl) (pv 5))))))
      (pss_one (ps_ret (pe_tupI (pa_cons (pe_dget (hu_of hr) (pv 1) (pe_call (ok_p_end_of T) hr (by rfl) T.d_p_end_of.mg T.d_p_end_of.fn.kp T.d_p_end_of.b .nil pass0 (pa_cons (pv 0) pa_nil)) (fun _ _ => rfl)) (pa_cons (pv 2) pa_nil))))))))), ?_⟩
    have k1 := O.k1
    have k2 := O.k2
    have h2 := O.h2
    refine ⟨_, rfl, p, d, x, D, rfl, hD, O, fun ta kvs H1 s1 n1 hta told => ?_⟩
    refine ⟨rfl, fun pa H2 s2 n2 hpa => ?_⟩
    refine ⟨_, rfl, p, d, x, D, rfl, (hD.same s1).same s2, fun le0 H3 s3 n3 hle0 => ?_⟩
    refine ⟨WS K D H1 d ta pa, ⟨D.cs.length * 10 + (9 - D.ks.length) + 1, .ref le0, none, none, [], [], rfl, s2.trans s3, s3 _ _ hpa, PaperAt.nil _, .inl ⟨le0, D.ks.length, D.cs.length, rfl, hle0, Nat.le_refl _, Nat.le_refl _, rfl, by show 0 + _ ≤ _; omega, fun l' h h' => ⟨h, h'⟩⟩⟩, ?_⟩
    rintro m σ H4 ⟨lv, v4, v5, rs, l, rfl, s4, hpa4, pap, alt⟩
    refine ⟨_, rfl, rfl, _, rfl, ?_⟩
    rcases alt with ⟨le, pl, t, rfl, hle, hpl, ht, em, lm, cont⟩ | ⟨rfl, em, ll, ch, tch⟩
    · refine iteT ?_
      refine ⟨fun σ' H' => ∃ m', m' < m ∧ WS K D H1 d ta pa m' σ' H', fun _ _ h => h, ?_⟩
      refine ⟨_, rfl, _, rfl, _, rfl, p, d, ta, le, x, D, kvs, pl, t, rfl, (hD.same s1).same s4, O, s4 _ _ hta, told, hle, hpl, ht, fun tt b lw H5 s5 fb mb vb htt hlw => ?_⟩
      refine ⟨tt, _, rfl, SqT.of htt, rfl, _, _, rfl, _, _, rfl, rfl, ?_⟩
      have hpa5 := s5 _ _ hpa4
      refine ⟨_, rfl, .inl ⟨rfl, _, SqL.of hpa5⟩, _, rfl, rfl, fun t1 H6 s6 n6 h6 => ?_⟩
      refine ⟨_, rfl, t1, le, _, _, rfl, rfl, SqT.of h6, SqT.of ((s5.trans s6) _ _ hle), by simp, by simp, by rw [sizeLine_eq]; show 1 + 2 ≤ 16777216; decide, fun r H7 s7 n7 h7 => ?_⟩
      have hpa7 := (s6.trans s7) _ _ hpa5
      refine ⟨pa, _, _, rfl, rfl, hpa7, by rw [List.length_map, pap.1]; exact small' (by omega), ?_⟩
      refine ⟨_, rfl, ?_⟩
      have s47 := s5.trans (s6.trans s7)
      have npa : H1 pa = none := n2
      have hr7 : H7 r = some (bdTup (b.word, pl, t)) := h7
      have pap7 := (pap.same s47).snoc hr7
      have pap8 : PaperAt (upd H7 pa (.lst (rs.map V.ref ++ [.ref r]))) (rs ++ [r]) (l ++ [(b.word, pl, t)]) := ⟨pap7.1, fun j r' e a c => by
        have h := pap7.2 j r' e a c
        rw [upd_ne (ne_of h hpa7 (by intro z; cases z))]
        exact h⟩
      have e8 : (upd H7 pa (.lst (rs.map V.ref ++ [.ref r]))) pa = some (.lst ((rs ++ [r]).map V.ref)) := by
        rw [upd_same, List.map_append] <;> rfl
      have s8 : Same H1 (upd H7 pa (.lst (rs.map V.ref ++ [.ref r]))) := Same.put (s4.trans s47) npa
      have lw7 := (hlw.same s6).same s7
      cases el : b.lead with
      | none =>
        rw [el] at lw7
        obtain rfl : lw = .non := lw7
        have ev : b.more = tk D t pl := by
          rw [← vb]
          unfold valB
          rw [el]
        refine ⟨0, by omega, .non, _, _, rs ++ [r], l ++ [(b.word, pl, t)], rfl, s8, e8, pap8, .inr ⟨rfl, rfl, by rw [List.length_append]; show l.length + 1 ≤ _; omega, cont _ ?_ (.last fb el)⟩⟩
        have c := Chain.last (D := D) mb el
        rw [ev] at c
        exact c
      | some y =>
        obtain ⟨p', h'⟩ := y
        obtain ⟨pn, tn, rfl, rfl, pk, tl⟩ := bnds_lead hpl mb el
        rw [el] at lw7
        obtain ⟨le', rfl, hle'⟩ := lw7
        have ev : tk D tn pn + b.more = tk D t pl := by
          rw [← vb]
          unfold valB
          rw [el]
          show _ = tk D ((tn : Int) - 1 + 1).toNat ((pn : Int)).toNat + b.more
          rw [show ((tn : Int) - 1 + 1).toNat = tn by omega, Int.toNat_natCast]
        refine ⟨tn * 10 + (9 - pn) + 1, by omega, .ref le', _, _, rs ++ [r], l ++ [(b.word, pl, t)], rfl, s8, e8, pap8, .inl ⟨le', pn, tn, rfl, by rw [upd_ne (ne_of hle' hpa7 (by intro z; cases z))]; exact hle', pk, by omega, rfl, by rw [List.length_append]; show l.length + 1 + _ ≤ _; omega, fun l' c ct => ?_⟩⟩
        have c1 := Chain.step mb el pk (by omega) c
        rw [ev] at c1
        have c2 := cont _ c1 (.step fb el ct)
        rw [List.append_assoc, List.singleton_append]
        exact c2
    · refine iteF ?_
      refine ⟨_, rfl, _, rfl, p, d, x, D, rfl, (hD.same s1).same s4, fun te H5 s5 n5 h5 => ?_⟩
      have g : DGet H5 ta (.ref te) (some (.int (mostD D))) := by
        unfold mostD
        rw [← told D.ks.length D.cs.length ⟨Nat.le_refl _, Nat.le_refl _⟩]
        exact .t (k := kk D.ks.length D.cs.length) ((s4.trans s5) _ _ hta) h5
      refine ⟨ta, _, rfl, g, _, rfl, rfl, fun tt H6 s6 n6 h6 => ?_⟩
      have s56 := s5.trans s6
      exact q tt pa rs l H6 (s1.trans (s4.trans s56)) (same_none' s1 n2) h6 (s56 _ _ hpa4) (pap.same s56) ch tch ll

end
end KR
namespace KR
open PySem PySem.Spec PyProof.Rows L2
section
variable {P : Program} {w : World} {K : PySem.W.Frag} {mg : Str → Option Value} {base : Heap}
def sp_p__most (K : PySem.W.Frag) : Sp := fun vs H Q _ => ∃ (p d : Addr) (x : DyP) (D : Dy), vs = [.ref d] ∧ DayAt K H p d x D ∧ DyOk D ∧ ∀ H', Same H H' → Q (.int (mostD D)) H'
theorem ok_p__most (T : All K mg) : FnOk P w K mg base CX0 3 T.f_p__most T.fd_p__most ["day"] (sp_p__most K) := by
  refine T.d_p__most.fn.ok sc_p__most (fun vs H Q E h => ?_) (fun cdv A outer s H vs Q E hr h => ?_)
  · obtain ⟨p, d, x, D, rfl, _⟩ := h
    rfl
  · obtain ⟨p, d, x, D, rfl, hD, O, q⟩ := h
    refine ⟨_, (pss_one (ps_ret (pe_dget (hu_of hr) (pe_call (ok_p__most_taken T) hr (by rfl) T.d_p__most_taken.mg T.d_p__most_taken.fn.kp T.d_p__most_taken.b .nil pass0 (pa_cons (pv 0) pa_nil)) (pe_call (ok_p_end_of T) hr (by rfl) T.d_p_end_of.mg T.d_p_end_of.fn.kp T.d_p_end_of.b .nil pass0 (pa_cons (pv 0) pa_nil)) (fun _ _ => rfl)))), ?_⟩
    refine ⟨_, rfl, p, d, x, D, rfl, hD, O, fun ta kvs H1 s1 nt ht told => ?_⟩
    refine ⟨_, rfl, p, d, x, D, rfl, hD.same s1, fun te H2 s2 n2 h2 => ?_⟩
    have h2' : H2 te = some (.tup ((kk D.ks.length D.cs.length).map kV)) := h2
    have g : DGet H2 ta (.ref te) (some (.int (tk D D.cs.length D.ks.length))) := by
      rw [← told D.ks.length D.cs.length ⟨Nat.le_refl _, Nat.le_refl _⟩]
      exact .t (s2 _ _ ht) h2'
    exact ⟨ta, _, rfl, g, q H2 (s1.trans s2)⟩

end
end KR
namespace KR
open PySem PySem.Spec PyProof.Rows L2
section
variable {P : Program} {w : World} {K : PySem.W.Frag} {mg : Str → Option Value} {base : Heap}
def sp_p__widened (K : PySem.W.Frag) : Sp := fun vs H Q _ => ∃ (p d : Addr) (x : DyP) (D : Dy) (i : Nat), vs = [.ref d, .int (i : Int)] ∧ DayAt K H p d x D ∧ (∃ o, H p = some o) ∧ DyOk D ∧ i ≤ D.ks.length ∧ ∀ (w : Addr) (x' : DyP) (H' : Hp), Same H H' → DayAt K H' p w x' (widerD D i) → Q (.ref w) H'
theorem ok_p__widened (T : All K mg) : FnOk P w K mg base CX0 1 T.f_p__widened T.fd_p__widened ["day", "place"] (sp_p__widened K) := by
  refine T.d_p__widened.fn.ok sc_p__widened (fun vs H Q E h => ?_) (fun cdv A outer s H vs Q E hr h => ?_)
  · obtain ⟨p, d, x, D, i, rfl, _⟩ := h
    rfl
  · obtain ⟨p, d, x, D, i, rfl, hD, ⟨op, hp⟩, O, hi, q⟩ := h
    refine ⟨_, (pss_cons (ps_asg (pv 0) (pg_tupK (K := K) rfl rfl (pgs_cons (pg_name (i := 2) sc_p__widened.nd rfl (by first | exact Or.inl rfl | exact Or.inr rfl)) (pgs_cons (pg_name (i := 3) sc_p__widened.nd rfl (by first | exact Or.inl rfl | exact Or.inr rfl)) (pgs_cons (pg_name (i := 4) sc_p__widened.nd rfl (by first | exact Or.inl rfl | exact Or.inr rfl)) pgs_nil)))))
      (pss_cons (ps_if (pt_cmpR op_eq (pv 1) (pe_callB (lenA (K := K) rfl) (by rfl) T.b_len PySem.boot_len (pa_cons (pv 3) pa_nil)) (nomark _)) (pss_one (ps_ret (pe_tupI (pa_cons (pv 2) (pa_cons (pv 3) (pa_cons (pe_lc (own := [("number", 5)]) (g := gName 5) (tt := tYes) (by rfl) sc_p__widened.nd (pi_seqB (K := K) rfl (pv 4)) (blkOk_by (own := [("number", 5)]) (N := ["day", "place", "comes", "kettles", "strikes", "number", "wider", "room", "takes"]) (sc := defScope s_p__widened) (by decide +kernel)) (fun _ _ _ _ _ => (pg_name (i := 5) sc_p__widened.nd rfl (by first | exact Or.inl rfl | exact Or.inr rfl))) (fun _ _ _ _ _ => pts_nil) (fun _ _ _ _ _ => (pe_op op_add (pv 5) pe_int))) pa_nil)))))) pss_nil)
      (pss_cons (ps_set (i := 6) sc_p__widened.nd rfl (by first | exact Or.inl rfl | exact Or.inr rfl) (pe_callTy (listI (K := K) rfl) (by rfl) T.b_list (by decide +kernel) (pa_cons (pv 3) pa_nil)))
      (pss_cons (ps_asg (pe_ix (ixQ (K := K) rfl) (pv 3) (pv 1) (fun _ _ => rfl)) (pg_tupK (K := K) rfl rfl (pgs_cons (pg_name (i := 7) sc_p__widened.nd rfl (by first | exact Or.inl rfl | exact Or.inr rfl)) (pgs_cons (pg_name (i := 8) sc_p__widened.nd rfl (by first | exact Or.inl rfl | exact Or.inr rfl)) pgs_nil))))
      (pss_cons (ps_asg (pe_tupI (pa_cons (pe_op op_add (pv 7) pe_int) (pa_cons (pe_lc (own := [("number", 5)]) (g := gName 5) (tt := tYes) (by rfl) sc_p__widened.nd (pi_seqB (K := K) rfl (pv 8)) (blkOk_by (own := [("number", 5)]) (N := ["day", "place", "comes", "kettles", "strikes", "number", "wider", "room", "takes"]) (sc := defScope s_p__widened) (by decide +kernel)) (fun _ _ _ _ _ => (pg_name (i := 5) sc_p__widened.nd rfl (by first | exact Or.inl rfl | exact Or.inr rfl))) (fun _ _ _ _ _ => pts_nil) (fun _ _ _ _ _ => (pe_op op_add (pv 5) pe_int))) pa_nil))) (pg_sub (pv 6) (pv 1) set_list))
      (pss_one (ps_ret (pe_tupI (pa_cons (pv 2) (pa_cons (pv 6) (pa_cons (pv 4) pa_nil))))))))))), ?_⟩
    have h2 := O.h2
    have k2 := O.k2
    refine ⟨_, rfl, d, _, rfl, hD.at_, rfl, _, _, rfl, _, _, rfl, _, _, rfl, rfl, ?_⟩
    refine ⟨_, rfl, _, rfl, _, _, rfl, lenV_b hD.ks, ?_⟩
    rw [List.length_map, hD.len]
    refine ⟨rfl, _, rfl, ?_⟩
    by_cases c : i = D.ks.length
    · subst c
      refine ite_bT (decide_eq_true rfl) ?_
      refine ⟨_, rfl, _, rfl, ?_⟩
      refine inc_lc (i := 4) (n := 5) rfl (by show 5 < 9; decide) hD.ss (by rw [O.sl]; exact h2) fun G H1 s1 n1 h1 => ⟨rfl, fun w H2 s2 n2 h2' => ?_⟩
      exact q w _ H2 (s1.trans s2) (wider_atS hD (s1.trans s2) h2' (s2 _ _ h1) (ne_of_none hp n1).symm)
    · refine ite_bF (decide_eq_false fun e => c (by injection e with e; omega)) ?_
      have lt : i < D.ks.length := by omega
      refine ⟨_, rfl, x.k, _, rfl, seqB_or hD.ks, fun wl H1 s1 n1 h1 => ?_⟩
      obtain ⟨ka, t, b, gk, hk, ht⟩ := (hD.same s1).pot (j := i) lt
      refine ⟨_, rfl, _, rfl, ix_b (hD.same s1).ks rfl gk ?_⟩
      refine ⟨ka, _, rfl, hk, rfl, _, _, rfl, _, _, rfl, rfl, ?_⟩
      refine ⟨_, rfl, _, _, rfl, rfl, ?_⟩
      refine inc_lc (i := 8) (n := 5) rfl (by show 5 < 9; decide) ht (by rw [kt_len O lt]; exact h2) fun G H2 s2 n2 h2' => ⟨rfl, fun u H3 s3 n3 h3 => ?_⟩
      have hwl := (s2.trans s3) _ _ h1
      refine ⟨_, rfl, _, rfl, wl, _, (i : Int), i, rfl, rfl, hwl, ixN_at (by rw [List.length_map, hD.len]; exact lt), ?_⟩
      rw [show (x.as.map V.ref).set i (V.ref u) = (x.as.set i u).map V.ref from List.map_set.symm]
      have s4 : Same H (upd H3 wl (.lst ((x.as.set i u).map V.ref))) := Same.put (s1.trans (s2.trans s3)) n1
      have hw4 : (upd H3 wl (.lst ((x.as.set i u).map V.ref))) wl = some (.lst ((x.as.set i u).map V.ref)) := upd_same
      have hu4 : (upd H3 wl (.lst ((x.as.set i u).map V.ref))) u = some (.tup [.int ((kt D i).1 + 1), .ref G]) := by
        rw [upd_ne (ne_of h3 hwl (by intro z; cases z))]
        exact h3
      have hG4 : (upd H3 wl (.lst ((x.as.set i u).map V.ref))) G = some (.lst (((kt D i).2.map (· + 1)).map V.int)) := by
        rw [upd_ne (ne_of_none h1 n2).symm]
        exact s3 _ _ h2'
      generalize upd H3 wl (.lst ((x.as.set i u).map V.ref)) = H4 at s4 hw4 hu4 hG4
      refine ⟨_, rfl, _, rfl, _, rfl, rfl, fun w H5 s5 n5 h5 => ?_⟩
      exact q w _ H5 (s4.trans s5) (wider_at hD (s4.trans s5) lt h5 (s5 _ _ hw4) (ne_of_none hp n1).symm (s5 _ _ hu4) (s5 _ _ hG4) (ne_of_none (s1 _ _ hp) n2).symm)

end
end KR
namespace KR
open PySem PySem.Spec PyProof.Rows L2
section
variable {P : Program} {w : World} {K : PySem.W.Frag} {mg : Str → Option Value} {base : Heap}
def sp_p_binding_places (K : PySem.W.Frag) : Sp := fun vs H Q _ => ∃ (p d : Addr) (x : DyP) (D : Dy), vs = [.ref d] ∧ DayAt K H p d x D ∧ (∃ o, H p = some o) ∧ DyOk D ∧ ∀ (f : Addr) (H' : Hp), Same H H' → H f = none → H' f = some (.lst ((bindI D).map V.int)) → Q (.ref f) H'
theorem ok_p_binding_places (T : All K mg) : FnOk P w K mg base CX0 4 T.f_p_binding_places T.fd_p_binding_places ["day"] (sp_p_binding_places K) := by
  refine T.d_p_binding_places.fn.ok sc_p_binding_places (fun vs H Q E h => ?_) (fun cdv A outer s H vs Q E hr h => ?_)
  · obtain ⟨p, d, x, D, rfl, _⟩ := h
    rfl
  · obtain ⟨p, d, x, D, rfl, hD, ⟨op, hp⟩, O, q⟩ := h
    refine ⟨_, (pss_cons (ps_set (i := 1) sc_p_binding_places.nd rfl (by first | exact Or.inl rfl | exact Or.inr rfl) (pe_call (ok_p__most T) hr (by rfl) T.d_p__most.mg T.d_p__most.fn.kp T.d_p__most.b .nil pass0 (pa_cons (pv 0) pa_nil)))
      (pss_one (ps_ret (pe_lc (own := [("place", 2)]) (g := gName 2) (by rfl) sc_p_binding_places.nd (pi_range1 (by rfl) T.b_range (pa_cons (pe_call (ok_p_places_in T) (hr.mono (by decide)) (by rfl) T.d_p_places_in.mg T.d_p_places_in.fn.kp T.d_p_places_in.b .nil pass0 (pa_cons (pv 0) pa_nil)) pa_nil)) (blkOk_by (own := [("place", 2)]) (N := ["day", "many", "place"]) (sc := defScope s_p_binding_places) (by decide +kernel)) (fun _ _ _ _ _ => (pg_name (i := 2) sc_p_binding_places.nd rfl (by first | exact Or.inl rfl | exact Or.inr rfl))) (fun _ _ _ _ _ => (pts_one (pt_cmpR op_gt (pe_call (ok_p__most T) hr (by rfl) T.d_p__most.mg T.d_p__most.fn.kp T.d_p__most.b .nil pass0 (pa_cons (pe_call (ok_p__widened T) (hr.mono (by decide)) (by rfl) T.d_p__widened.mg T.d_p__widened.fn.kp T.d_p__widened.b .nil pass0 (pa_cons (pv 0) (pa_cons (pv 2) pa_nil))) pa_nil)) (pv 1) (nomark _)))) (fun _ _ _ _ _ => (pv 2)))))), ?_⟩
    have k2 := O.k2
    refine ⟨_, rfl, p, d, x, D, rfl, hD, O, fun H1 s1 => ?_⟩
    refine ⟨_, rfl, p, d, x, D, rfl, hD.same s1, (D.ks.length : Int) + 1, rfl, by omega, by omega, fun F hF => ?_⟩
    have eM : ((D.ks.length : Int) + 1).toNat = D.ks.length + 1 := by omega
    refine lc_range (lo := 0) (n := ((D.ks.length : Int) + 1).toNat) (fun i H' => Same H1 H' ∧ H' F = some (.lst ((((List.range i).filter fun p => decide (mostD D < mostD (widerD D p))).map fun p : Nat => (p : Int)).map V.int)))
      ⟨same_new hF, upd_same⟩ (fun i H2 hi z => ?_) (fun H2 z => ?_)
    · obtain ⟨s2, hF2⟩ := z
      rw [eM] at hi
      rw [Int.zero_add]
      refine ⟨rfl, ?_⟩
      refine ⟨_, rfl, _, rfl, p, d, x, D, i, rfl, (hD.same s1).same s2, ⟨op, (s1.trans s2) _ _ hp⟩, O, by omega, fun w x' H3 s3 hW => ?_⟩
      refine ⟨p, w, x', widerD D i, rfl, hW, wider_ok O (by omega), fun H4 s4 => ?_⟩
      refine ⟨_, rfl, _, _, rfl, rfl, _, rfl, ?_⟩
      have s24 := s3.trans s4
      have fl : ((List.range i).filter fun p => decide (mostD D < mostD (widerD D p))).length ≤ i := by
        have := List.length_filter_le (fun p => decide (mostD D < mostD (widerD D p))) (List.range i)
        rw [List.length_range] at this
        exact this
      by_cases c : mostD D < mostD (widerD D i)
      · refine ite_bT (decide_eq_true c) ?_
        refine ⟨_, rfl, _, s24 _ _ hF2, by rw [List.length_map, List.length_map]; exact small' (by omega), Same.put (s2.trans s24) hF, ?_⟩
        rw [upd_same, List.range_succ, List.filter_append, List.filter_cons, if_pos (decide_eq_true c), List.map_append, List.map_append] <;> rfl
      · refine ite_bF (decide_eq_false c) ?_
        refine ⟨s2.trans s24, ?_⟩
        rw [s24 _ _ hF2, List.range_succ, List.filter_append, List.filter_cons, if_neg (by rw [decide_eq_false c]; exact Bool.false_ne_true), List.filter_nil, List.append_nil]
    · obtain ⟨s2, hF2⟩ := z
      rw [eM] at hF2
      exact q F H2 (s1.trans s2) (same_none' s1 hF) hF2

end
end KR
namespace KR
open PySem PySem.Spec PyProof.Rows L2
section
variable {P : Program} {w : World} {K : PySem.W.Frag} {mg : Str → Option Value} {base : Heap}
def sp_p__is_bound_of (K : PySem.W.Frag) : Sp := fun vs H Q _ => ∃ (Av : Addr → Prop) (B n : Nat) (v : V) (d : PyData) (le : Addr) (pl t : Int), vs = [v, .ref le] ∧ Tg K Av H B n v d ∧ H le = some (.tup [.int pl, .int t]) ∧ ∀ H', Same H H' → Q (.bl (bdW pl t d).isSome) H'
theorem ok_p__is_bound_of (T : All K mg) : FnOk P w K mg base CX0 2 T.f_p__is_bound_of T.fd_p__is_bound_of ["thing", "lead"] (sp_p__is_bound_of K) := by
  refine T.d_p__is_bound_of.fn.ok sc_p__is_bound_of (fun vs H Q E h => ?_) (fun cdv A outer s H vs Q E hr h => ?_)
  · obtain ⟨Av, B, n, v, d, le, pl, t, rfl, _⟩ := h
    rfl
  · obtain ⟨Av, B, n, v, d, le, pl, t, rfl, h, hle, q⟩ := h
    refine ⟨_, (pss_cons (ps_if (PW.pt (pw_or (pt_not (pt_val (pe_callB (isiK (K := K) rfl) (by rfl) T.b_isinstance (by decide +kernel) (pa_cons (pv 0) (pa_cons (pe_bltn (v := .ty "tuple") (by rfl) T.b_tuple (by decide +kernel) rfl) pa_nil))))) (pw_or1 (pt_cmpR op_ne (pe_callB (lenQ (K := K) rfl) (by rfl) T.b_len PySem.boot_len (pa_cons (pv 0) pa_nil)) pe_int (nomark _))))) (pss_one (ps_ret pe_bl)) pss_nil)
      (pss_cons (ps_asg (pv 0) (pg_tupK (K := K) rfl rfl (pgs_cons (pg_name (i := 2) sc_p__is_bound_of.nd rfl (by first | exact Or.inl rfl | exact Or.inr rfl)) (pgs_cons (pg_name (i := 3) sc_p__is_bound_of.nd rfl (by first | exact Or.inl rfl | exact Or.inr rfl)) (pgs_cons (pg_name (i := 4) sc_p__is_bound_of.nd rfl (by first | exact Or.inl rfl | exact Or.inr rfl)) pgs_nil)))))
      (pss_one (ps_ret (pe_and (pe_callB (isiK (K := K) rfl) (by rfl) T.b_isinstance (by decide +kernel) (pa_cons (pv 2) (pa_cons (pe_bltn (v := .ty "str") (by rfl) T.b_str (by decide +kernel) rfl) pa_nil))) (pe_and (pe_call (ok_p_is_number T) hr (by rfl) T.d_p_is_number.mg T.d_p_is_number.fn.kp T.d_p_is_number.b .nil pass0 (pa_cons (pv 3) pa_nil)) (pe_and (pe_call (ok_p_is_number T) hr (by rfl) T.d_p_is_number.mg T.d_p_is_number.fn.kp T.d_p_is_number.b .nil pass0 (pa_cons (pv 4) pa_nil)) (pe_one (pe_cmpR (eqDK (K := K) rfl hr.units) (pe_tupI (pa_cons (pv 3) (pa_cons (pv 4) pa_nil))) (pv 1) (nomark _)))))))))), ?_⟩
    obtain ⟨ty, hty, _, kt, _, _, _⟩ := h.ty
    refine ⟨_, rfl, _, _, _, _, _, rfl, .ty _, hty, kit_ty kt, ?_⟩
    cases e : isT d with
    | false =>
      rw [bdW_T e] at q
      exact ⟨_, rfl, iteT (q _ (.refl _))⟩
    | true =>
      obtain ⟨a, xs, ds, m, rfl, rfl, rfl, sq, tg⟩ := h.tupI e
      refine ⟨_, rfl, iteF ?_⟩
      refine ⟨_, rfl, a, _, rfl, .inr sq, rfl, _, rfl, ?_⟩
      by_cases c : xs.length = 3
      · rw [decide_eq_true (show V.int (xs.length : Int) = V.int 3 by rw [c] <;> rfl)]
        refine iteF ?_
        obtain ⟨x1, x2, x3, d1, d2, d3, rfl, rfl, t1, t2, t3⟩ := three tg c
        refine ⟨_, rfl, a, _, rfl, sq, rfl, _, _, rfl, _, _, rfl, _, _, rfl, rfl, ?_⟩
        obtain ⟨ty1, hty1, _, _, _, _, ks⟩ := t1.ty
        refine ⟨_, rfl, _, _, _, _, _, rfl, .ty _, hty1, kit_ty ks, _, rfl, ?_⟩
        cases e1 : isS d1 with
        | false =>
          rw [bdW_no (.inl e1)] at q
          exact iteF (q _ (.refl _))
        | true =>
          refine iteT ?_
          refine ⟨_, rfl, Av, B, m, x2, d2, rfl, t2, _, rfl, ?_⟩
          cases e2 : isI d2 with
          | false =>
            rw [bdW_no (.inr (.inl e2))] at q
            exact iteF (q _ (.refl _))
          | true =>
            refine iteT ?_
            refine ⟨_, rfl, Av, B, m, x3, d3, rfl, t3, _, rfl, ?_⟩
            cases e3 : isI d3 with
            | false =>
              rw [bdW_no (.inr (.inr e3))] at q
              exact iteF (q _ (.refl _))
            | true =>
              refine iteT ?_
              obtain ⟨w1, rfl, rfl⟩ := t1.strI e1
              obtain ⟨i2, rfl, rfl, _⟩ := t2.intI e2
              obtain ⟨i3, rfl, rfl, _⟩ := t3.intI e3
              refine ⟨_, rfl, _, rfl, rfl, fun u1 H1 s1 n1 h1 => ⟨_, rfl, .tuple [.int i2, .int i3], .tuple [.int pl, .int t], dp_pair h1, dp_pair (s1 _ _ hle), rfl, rfl, ?_⟩⟩
              rw [eqv_pair]
              have z := q H1 s1
              have ez : (bdW pl t (.tuple [.str w1, .int i2, .int i3])).isSome = decide (i2 = pl ∧ i3 = t) := by
                show (if i2 = pl ∧ i3 = t then some w1 else none).isSome = _
                split
                · rename_i y
                  rw [decide_eq_true y] <;> rfl
                · rename_i y
                  rw [decide_eq_false y] <;> rfl
              rw [ez] at z
              exact z
      · rw [decide_eq_false (show ¬ V.int (xs.length : Int) = V.int 3 from fun z => c (by injection z with z; omega))]
        rw [bdW_len (by rw [← tg.1]; exact c)] at q
        exact iteT (q _ (.refl _))

end
end KR
namespace KR
open PySem PySem.Spec PyProof.Rows L2
section
variable {P : Program} {w : World} {K : PySem.W.Frag} {mg : Str → Option Value} {base : Heap}
def sp_p_shows_most (K : PySem.W.Frag) : Sp := fun vs H Q _ => ∃ (p d : Addr) (x : DyP) (D : Dy) (m : Int) (Av : Addr → Prop) (B n : Nat) (v : V) (e : PyData), vs = [.ref d, .int m, v] ∧ DayAt K H p d x D ∧ DyOk D ∧ Tg K Av H B n v e ∧ ∀ H', Same H H' → Q (.bl (isPap D m e)) H'
def LeadW (D : Dy) (m : Int) (r : Bool) (ds : List PyData) (lv : V) (told : Int) (H' : Hp) : Prop :=
  (∃ (le : Addr) (pl t : Nat), lv = .ref le ∧ H' le = some (.tup [.int (pl : Int), .int ((t : Int) - 1)]) ∧ pl ≤ D.ks.length ∧ t ≤ D.cs.length ∧ walkP D m (some ((pl : Int), (t : Int) - 1)) told ds = r) ∨ (lv = .non ∧ walkP D m none told ds = r)
theorem ok_p_shows_most (T : All K mg) : FnOk P w K mg base CX0 3 T.f_p_shows_most T.fd_p_shows_most ["day", "many", "thing"] (sp_p_shows_most K) := by
  refine T.d_p_shows_most.fn.ok sc_p_shows_most (fun vs H Q E h => ?_) (fun cdv A outer s H vs Q E hr h => ?_)
  · obtain ⟨p, d, x, D, m, Av, B, n, v, e, rfl, _⟩ := h
    rfl
  · obtain ⟨p, d, x, D, m, Av, B, n, v, e, rfl, hD, O, hv, q⟩ := h
    refine ⟨_, (pss_cons (ps_if (pt_not (pt_val (pe_callB (isiK (K := K) rfl) (by rfl) T.b_isinstance (by decide +kernel) (pa_cons (pv 2) (pa_cons (pe_bltn (v := .ty "list") (by rfl) T.b_list (by decide +kernel) rfl) pa_nil))))) (pss_one (ps_ret pe_bl)) pss_nil)
      (pss_cons (ps_set (i := 3) sc_p_shows_most.nd rfl (by first | exact Or.inl rfl | exact Or.inr rfl) (pe_call (ok_p_end_of T) hr (by rfl) T.d_p_end_of.mg T.d_p_end_of.fn.kp T.d_p_end_of.b .nil pass0 (pa_cons (pv 0) pa_nil)))
      (pss_cons (ps_set (i := 4) sc_p_shows_most.nd rfl (by first | exact Or.inl rfl | exact Or.inr rfl) pe_int)
      (pss_cons (ps_for PassesOwn.never rfl (pi_listK (K := K) rfl (pv 2)) (pg_name (i := 5) sc_p_shows_most.nd rfl (by first | exact Or.inl rfl | exact Or.inr rfl)) (pss_cons (ps_if (PW.pt (pw_or (pt_cmpR op_isN (pv 3) pe_non (nomark _)) (pw_or1 (pt_not (pt_val (pe_call (ok_p__is_bound_of T) hr (by rfl) T.d_p__is_bound_of.mg T.d_p__is_bound_of.fn.kp T.d_p__is_bound_of.b .nil pass0 (pa_cons (pv 5) (pa_cons (pv 3) pa_nil)))))))) (pss_one (ps_ret pe_bl)) pss_nil)
      (pss_cons (ps_set (i := 6) sc_p_shows_most.nd rfl (by first | exact Or.inl rfl | exact Or.inr rfl) (pe_call (ok_p_bounds_at T) (hr.mono (by decide)) (by rfl) T.d_p_bounds_at.mg T.d_p_bounds_at.fn.kp T.d_p_bounds_at.b .nil pass0 (pa_cons (pv 0) (pa_cons (pe_ix (ixT (K := K) rfl) (pv 3) pe_int (fun _ _ => rfl)) (pa_cons (pe_ix (ixT (K := K) rfl) (pv 3) pe_int (fun _ _ => rfl)) pa_nil)))))
      (pss_cons (ps_if (pt_cmp (pc_dnotin (hu_of hr) (pe_ix (ixT (K := K) rfl) (pv 5) pe_int (fun _ _ => rfl)) (pv 6)) (by with_unfolding_all rfl)) (pss_one (ps_ret pe_bl)) pss_nil)
      (pss_cons (ps_asg (pe_dget (hu_of hr) (pv 6) (pe_ix (ixT (K := K) rfl) (pv 5) pe_int (fun _ _ => rfl)) (fun _ _ => rfl)) (pg_tupK (K := K) rfl rfl (pgs_cons (pg_name (i := 3) sc_p_shows_most.nd rfl (by first | exact Or.inl rfl | exact Or.inr rfl)) (pgs_cons (pg_name (i := 7) sc_p_shows_most.nd rfl (by first | exact Or.inl rfl | exact Or.inr rfl)) pgs_nil))))
      (pss_one (ps_aug (i := 4) sc_p_shows_most.nd rfl (by first | exact Or.inl rfl | exact Or.inr rfl) (pv 7) ip_add)))))))
      (pss_one (ps_ret (pe_and (pe_cmpR op_isN (pv 3) pe_non (nomark _)) (pe_one (pe_cmpR op_eq (pv 4) (pv 1) (nomark _)))))))))), ?_⟩
    obtain ⟨ty, hty, kl, _, _, _, _⟩ := hv.ty
    refine ⟨_, rfl, _, _, _, _, _, rfl, .ty _, hty, kit_ty kl, ?_⟩
    cases el : isL e with
    | false =>
      have z : isPap D m e = false := by cases e <;> first | rfl | exact nomatch el
      rw [z] at q
      exact ⟨_, rfl, iteT (q _ (.refl _))⟩
    | true =>
      obtain ⟨f, xs, ds, n', rfl, rfl, rfl, hf, tg⟩ := hv.lstI el
      refine ⟨_, rfl, iteF ?_⟩
      refine ⟨_, rfl, p, d, x, D, rfl, hD, fun le0 H1 s1 n1 h1 => ?_⟩
      generalize er : isPap D m (.list ds) = r at q
      have er' : walkP D m (some ((D.ks.length : Int), (D.cs.length : Int) - 1)) 0 ds = r := er
      refine ⟨_, rfl, f, rfl, ⟨_, SqL.of (s1 _ _ hf)⟩, for_it (walk_list (K := K) (a := f) (xs := xs)) (fun j σ H' => ∃ (lv : V) (td : Int) (v5 v6 v7 : Option V), σ = [some (.ref d), some (.int m), some (.ref f), some lv, some (.int td), v5, v6, v7] ∧ Same H H' ∧ LeadW D m r (ds.drop j) lv td H')
        ⟨.ref le0, 0, none, none, none, rfl, s1, .inl ⟨le0, D.ks.length, D.cs.length, rfl, h1, Nat.le_refl _, Nat.le_refl _, er'⟩⟩ (fun j σ H' _ ⟨_, _, _, _, _, _, s, _⟩ => SqL.of (s _ _ hf)) ?_ ?_⟩
      · rintro j v σ H2 H3 hj ⟨lv, td, v5, v6, v7, rfl, s2, ld⟩ ⟨rfl, hv'⟩
        have hj2 : j < ds.length := by rw [← tg.1]; exact hj
        obtain ⟨x0, e, ex, ee, tx⟩ := (tg.same s2).at_ hj
        obtain rfl : v = x0 := Option.some.inj (hv'.symm.trans ex)
        have dj : ds.drop j = e :: ds.drop (j + 1) := by
          rw [List.drop_eq_getElem_cons hj2]
          rw [List.getElem?_eq_getElem hj2] at ee
          rw [Option.some.inj ee]
        rw [dj] at ld
        rcases ld with ⟨le, pl, t, rfl, hle, hpl, ht, wk⟩ | ⟨rfl, wk⟩
        · refine ⟨_, rfl, rfl, _, rfl, iteF ?_⟩
          refine ⟨_, rfl, _, rfl, Av, B, n', v, e, le, (pl : Int), (t : Int) - 1, rfl, tx, hle, fun H4 s4 => ?_⟩
          rw [walkP_cons] at wk
          cases eb : bdW (pl : Int) ((t : Int) - 1) e with
          | none =>
            simp only [eb] at wk
            subst wk
            exact ⟨_, rfl, iteT (q _ (s2.trans s4))⟩
          | some w =>
            simp only [eb] at wk
            refine ⟨_, rfl, iteF ?_⟩
            obtain ⟨r0, ew, hr3⟩ : ∃ r0, v = .ref r0 ∧ SqT K H3 r0 [.str w, .int (pl : Int), .int ((t : Int) - 1)] := by
              cases et : isT e with
              | false => rw [bdW_T et] at eb; cases eb
              | true =>
                obtain ⟨a, ys, es, m', rfl, rfl, rfl, sq, tg'⟩ := tx.tupI et
                by_cases c : ys.length = 3
                · obtain ⟨x1, x2, x3, d1, d2, d3, rfl, rfl, t1, t2, t3⟩ := three tg' c
                  cases e1 : isS d1 with
                  | false => rw [bdW_no (.inl e1)] at eb; cases eb
                  | true =>
                    cases e2 : isI d2 with
                    | false => rw [bdW_no (.inr (.inl e2))] at eb; cases eb
                    | true =>
                      cases e3 : isI d3 with
                      | false => rw [bdW_no (.inr (.inr e3))] at eb; cases eb
                      | true =>
                        obtain ⟨w1, rfl, rfl⟩ := t1.strI e1
                        obtain ⟨i2, rfl, rfl, _⟩ := t2.intI e2
                        obtain ⟨i3, rfl, rfl, _⟩ := t3.intI e3
                        have eb : (if i2 = (pl : Int) ∧ i3 = (t : Int) - 1 then some w1 else none) = some w := eb
                        split at eb
                        · rename_i y
                          cases eb
                          rw [y.1, y.2] at sq
                          exact ⟨a, rfl, sq⟩
                        · cases eb
                · rw [bdW_len (by rw [← tg'.1]; exact c)] at eb
                  cases eb
            subst ew
            have hle4 := s4 _ _ hle
            have hr4 := Same.tup s4 hr3
            refine ⟨_, rfl, _, rfl, le, _, 0, _, rfl, rfl, SqT.of hle4, at0, _, rfl, le, _, 1, _, rfl, rfl, SqT.of hle4, at1, ?_⟩
            refine ⟨p, d, x, D, pl, t, (t : Int) - 1, rfl, rfl, (hD.same s2).same s4, O, hpl, ht, fun bx kb H5 s5 nb hb ab => ?_⟩
            have hr5 := Same.tup s5 hr4
            have s05 := s2.trans (s4.trans s5)
            rw [Int.toNat_natCast, show ((t : Int) - 1 + 1).toNat = t by omega] at wk
            cases es : stepP D pl t w with
            | none =>
              simp only [es] at wk
              subst wk
              have g : DGet H5 bx (.str w) none := .inl ⟨kb, .inr w, .inl hb, rfl, (ab.no (stepP_none es)).symm⟩
              refine ⟨_, rfl, r0, _, 0, _, rfl, rfl, hr5, at0, _, rfl, bx, _, rfl, g, _, rfl, iteT ?_⟩
              exact q _ s05
            | some b =>
              simp only [es] at wk
              obtain ⟨mb, rfl⟩ := stepP_some es
              obtain ⟨v', ev, _, tt, ll', e2, htt, hll⟩ := ab.at_ (bnds_words D pl t) b mb
              obtain rfl : v' = .ref tt := e2
              have g : DGet H5 bx (.str b.word) (some (.ref tt)) := .inl ⟨kb, .inr b.word, .inl hb, rfl, ev.symm⟩
              refine ⟨_, rfl, r0, _, 0, _, rfl, rfl, hr5, at0, _, rfl, bx, _, rfl, g, _, rfl, iteF ?_⟩
              refine ⟨_, rfl, _, rfl, r0, _, 0, _, rfl, rfl, hr5, at0, bx, _, rfl, g, ?_⟩
              refine ⟨tt, _, rfl, SqT.of htt, rfl, _, _, rfl, _, _, rfl, rfl, ?_⟩
              refine ⟨_, rfl, _, rfl, _, _, rfl, rfl, ?_⟩
              refine ⟨_, _, _, _, _, rfl, s05, ?_⟩
              cases el : b.lead with
              | none =>
                rw [el] at wk hll
                exact .inr ⟨hll, wk⟩
              | some y =>
                obtain ⟨p', t', rfl, hp', ht'⟩ := lead_in hpl mb el
                rw [el] at wk hll
                obtain ⟨le', rfl, hle'⟩ := hll
                exact .inl ⟨le', p', t', rfl, hle', hp', by omega, wk⟩
        · subst wk
          refine ⟨_, rfl, rfl, _, rfl, iteT ?_⟩
          exact q _ s2
      · rintro σ H2 ⟨lv, td, v5, v6, v7, rfl, s2, ld⟩
        rw [tg.1, List.drop_length] at ld
        rcases ld with ⟨le, pl, t, rfl, hle, hpl, ht, wk⟩ | ⟨rfl, wk⟩
        · refine ⟨_, rfl, rfl, _, rfl, iteF ?_⟩
          have wk : false = r := wk
          subst wk
          exact q _ s2
        · refine ⟨_, rfl, rfl, _, rfl, iteT ?_⟩
          refine ⟨_, rfl, _, rfl, rfl, ?_⟩
          have wk : (true && decide (td = m)) = r := wk
          subst wk
          have z := q _ s2
          by_cases c : td = m
          · rw [decide_eq_true c] at z
            rw [decide_eq_true (show V.int td = V.int m by rw [c])]
            exact z
          · rw [decide_eq_false c] at z
            rw [decide_eq_false (show ¬ V.int td = V.int m from fun e => c (by injection e))]
            exact z

end
end KR
namespace KR
open PySem PySem.Spec PyProof.Rows L2
section
variable {P : Program} {w : World} {K : PySem.W.Frag} {mg : Str → Option Value} {base : Heap}
def sp_l_small_right (K : PySem.W.Frag) (Ps : List Addr) : Sp := fun vs H Q _ => ∃ (p d : Addr) (nb : Nat) (x : DyP) (D : Dy), vs = [.ref p, .ref d] ∧ BoxAt H p nb ∧ nb ≤ 990000000 ∧ DayAt K H p d x D ∧ DyOk D ∧ DyNn D ∧ (∃ b, Few D b) ∧ Tbs Ps H ∧ ∀ H', BoxAt H' p (nb + 100) → Fs p H H' → Q (.bl true) H'
theorem ok_l_small_right (T : All K mg) (B : Tabs T base) : FnOk P w K mg base CX0 6 T.f_l_small_right T.fd_l_small_right ["_law_box_here", "_law_day_here"] (sp_l_small_right K T.Ps) := by
  refine T.d_l_small_right.fn.ok sc_l_small_right (fun vs H Q E h => ?_) (fun cdv A outer s H vs Q E hr h => ?_)
  · obtain ⟨p, d, nb, x, D, rfl, _⟩ := h
    rfl
  · obtain ⟨p, d, nb, x, D, rfl, hB, hn, hD, O, N, ⟨b, few⟩, hT, q⟩ := h
    refine ⟨_, (pss_cons (ps_set (i := 2) sc_l_small_right.nd rfl (by first | exact Or.inl rfl | exact Or.inr rfl) (pe_call (ok_l_all T) (hr.mono (by decide)) (by rfl) T.d_l_all.mg T.d_l_all.fn.kp T.d_l_all.b .nil pass0 (pa_cons (pv 1) pa_nil)))
      (pss_cons (ps_par (i := 3) (j := 4) (by rfl) sc_l_small_right.nd rfl rfl (by decide) rfl rfl (pa_cons (pe_lc (own := [("_law_sums", 5)]) (g := gName 5) (tt := tYes) (by rfl) sc_l_small_right.nd (pi_listK (K := K) rfl (pv 2)) (blkOk_by (own := [("_law_sums", 5)]) (N := ["_law_box_here", "_law_day_here", "_law_every", "_law_plans", "_law_struck", "_law_sums", "_law_turn", "_law_plan", "_law_row", "_law_at", "_law_told", "_law_many", "_law_paper", "_law_some", "_law_hours", "_law_hour"]) (sc := defScope s_l_small_right) (by decide +kernel)) (fun _ _ _ _ _ => (pg_name (i := 5) sc_l_small_right.nd rfl (by first | exact Or.inl rfl | exact Or.inr rfl))) (fun _ _ _ _ _ => pts_nil) (fun _ _ _ _ _ => (pe_call (ok_l_plan_of T) (hr.mono (by decide)) (by rfl) T.d_l_plan_of.mg T.d_l_plan_of.fn.kp T.d_l_plan_of.b .nil pass0 (pa_cons (pv 5) pa_nil)))) (pa_cons (pe_callB (maxLK (K := K) rfl rfl) (by rfl) T.b_max (by decide +kernel) (pa_cons (pe_lc (own := [("_law_sums", 5)]) (g := gName 5) (tt := tYes) (by rfl) sc_l_small_right.nd (pi_listK (K := K) rfl (pv 2)) (blkOk_by (own := [("_law_sums", 5)]) (N := ["_law_box_here", "_law_day_here", "_law_every", "_law_plans", "_law_struck", "_law_sums", "_law_turn", "_law_plan", "_law_row", "_law_at", "_law_told", "_law_many", "_law_paper", "_law_some", "_law_hours", "_law_hour"]) (sc := defScope s_l_small_right) (by decide +kernel)) (fun _ _ _ _ _ => (pg_name (i := 5) sc_l_small_right.nd rfl (by first | exact Or.inl rfl | exact Or.inr rfl))) (fun _ _ _ _ _ => pts_nil) (fun _ _ _ _ _ => (pe_ix (ixL (K := K) rfl) (pe_ix (ixL (K := K) rfl) (pv 5) (pe_un un_neg pe_int) (fun _ _ => rfl)) (pe_un un_neg pe_int) (fun _ _ => rfl)))) pa_nil)) pa_nil)) (by rfl))
      (pss_cons (ps_for PassesOwn.never rfl (pi_range1 (by rfl) T.b_range (pa_cons pe_int pa_nil)) (pg_name (i := 6) sc_l_small_right.nd rfl (by first | exact Or.inl rfl | exact Or.inr rfl)) (pss_cons (ps_setLc (i := 7) (own := [("_law_row", 8)]) (g := gName 8) (tt := tYes) (by rfl) sc_l_small_right.nd rfl rfl (sw_true rfl rfl rfl (by decide +kernel)) (pi_listK (K := K) rfl (pe_ix (ixL (K := K) rfl) (pv 3) (pe_call (ok_l_take T) (hr.mono (by decide)) (by rfl) T.d_l_take.mg T.d_l_take.fn.kp T.d_l_take.b .nil pass0 (pa_cons (pv 0) (pa_cons (pe_callB (lenQ (K := K) rfl) (by rfl) T.b_len PySem.boot_len (pa_cons (pv 3) pa_nil)) pa_nil))) (fun _ _ => rfl))) (blkOk_by (own := [("_law_row", 8)]) (N := ["_law_box_here", "_law_day_here", "_law_every", "_law_plans", "_law_struck", "_law_sums", "_law_turn", "_law_plan", "_law_row", "_law_at", "_law_told", "_law_many", "_law_paper", "_law_some", "_law_hours", "_law_hour"]) (sc := defScope s_l_small_right) (by decide +kernel)) (fun _ _ _ _ _ => (pg_name (i := 8) sc_l_small_right.nd rfl (by first | exact Or.inl rfl | exact Or.inr rfl))) (fun _ _ _ _ _ => pts_nil) (fun _ _ _ _ _ => (pe_callTy (listI (K := K) rfl) (by rfl) T.b_list (by decide +kernel) (pa_cons (pv 8) pa_nil))))
      (pss_cons (ps_if (pt_cmpR op_notBl (pe_call (ok_p_shows_plan T B) hr (by rfl) T.d_p_shows_plan.mg T.d_p_shows_plan.fn.kp T.d_p_shows_plan.b .nil pass0 (pa_cons (pv 1) (pa_cons (pv 7) pa_nil))) pe_bl (nomark _)) (pss_one (ps_ret pe_bl)) pss_nil)
      (pss_cons (ps_set (i := 8) sc_l_small_right.nd rfl (by first | exact Or.inl rfl | exact Or.inr rfl) (pe_ix (ixL (K := K) rfl) (pv 7) (pe_call (ok_l_take T) (hr.mono (by decide)) (by rfl) T.d_l_take.mg T.d_l_take.fn.kp T.d_l_take.b .nil pass0 (pa_cons (pv 0) (pa_cons (pe_callB (lenQ (K := K) rfl) (by rfl) T.b_len PySem.boot_len (pa_cons (pv 7) pa_nil)) pa_nil))) (fun _ _ => rfl)))
      (pss_cons (ps_set (i := 9) sc_l_small_right.nd rfl (by first | exact Or.inl rfl | exact Or.inr rfl) (pe_call (ok_l_take T) (hr.mono (by decide)) (by rfl) T.d_l_take.mg T.d_l_take.fn.kp T.d_l_take.b .nil pass0 (pa_cons (pv 0) (pa_cons (pe_callB (lenQ (K := K) rfl) (by rfl) T.b_len PySem.boot_len (pa_cons (pv 8) pa_nil)) pa_nil))))
      (pss_cons (ps_asg (pe_op op_add (pe_ix (ixL (K := K) rfl) (pv 8) (pv 9) (fun _ _ => rfl)) pe_int) (pg_sub (pv 8) (pv 9) set_list))
      (pss_cons (ps_set (i := 10) sc_l_small_right.nd rfl (by first | exact Or.inl rfl | exact Or.inr rfl) (pe_call (ok_p_shows_plan T B) hr (by rfl) T.d_p_shows_plan.mg T.d_p_shows_plan.fn.kp T.d_p_shows_plan.b .nil pass0 (pa_cons (pv 1) (pa_cons (pv 7) pa_nil))))
      (pss_one (ps_if (PW.pt (pw_or (pt_not (pt_val (pe_callB (isiK (K := K) rfl) (by rfl) T.b_isinstance (by decide +kernel) (pa_cons (pv 10) (pa_cons (pe_bltn (v := .ty "bool") (by rfl) T.b_bool (by decide +kernel) rfl) pa_nil))))) (pw_or1 (pt_cmpR op_ne (pv 10) (pe_cmpR (op_inD (K := K) rfl hr.units) (pv 7) (pv 3) (by with_unfolding_all rfl)) (nomark _))))) (pss_one (ps_ret pe_bl)) pss_nil)))))))))
      (pss_cons (ps_asg (pe_call (ok_p_most_struck T) (hr.mono (by decide)) (by rfl) T.d_p_most_struck.mg T.d_p_most_struck.fn.kp T.d_p_most_struck.b .nil pass0 (pa_cons (pv 1) pa_nil)) (pg_tupK (K := K) rfl rfl (pgs_cons (pg_name (i := 11) sc_l_small_right.nd rfl (by first | exact Or.inl rfl | exact Or.inr rfl)) (pgs_cons (pg_name (i := 12) sc_l_small_right.nd rfl (by first | exact Or.inl rfl | exact Or.inr rfl)) pgs_nil))))
      (pss_cons (ps_if (PW.pt (pw_or (pt_cmpR op_ne (pv 11) (pv 4) (nomark _)) (pw_or (pt_cmpR op_notBl (pe_call (ok_p_shows_most T) (hr.mono (by decide)) (by rfl) T.d_p_shows_most.mg T.d_p_shows_most.fn.kp T.d_p_shows_most.b .nil pass0 (pa_cons (pv 1) (pa_cons (pv 11) (pa_cons (pv 12) pa_nil)))) pe_bl (nomark _)) (pw_or1 (pt_cmpR (op_niD (K := K) rfl hr.units) (pe_call (ok_p_most_plan T) (hr.mono (by decide)) (by rfl) T.d_p_most_plan.mg T.d_p_most_plan.fn.kp T.d_p_most_plan.b .nil pass0 (pa_cons (pv 1) pa_nil)) (pv 3) (by with_unfolding_all rfl)))))) (pss_one (ps_ret pe_bl)) pss_nil)
      (pss_cons (ps_J (ps_if (PW.pt (pw_and (pt_cmpR op_gt (pv 4) pe_int (nomark _)) (pw_and1 (pt_cmpR op_notBl (pe_call (ok_p_shows_most T) (hr.mono (by decide)) (by rfl) T.d_p_shows_most.mg T.d_p_shows_most.fn.kp T.d_p_shows_most.b .nil pass0 (pa_cons (pv 1) (pa_cons (pe_op op_sub (pv 4) pe_int) (pa_cons (pv 12) pa_nil)))) pe_bl (nomark _))))) (pss_one (ps_ret pe_bl)) pss_nil))
      (pss_cons (ps_for PassesOwn.never rfl (pi_range2 (by rfl) T.b_range (pa_cons pe_int (pa_cons (pe_op op_add (pv 4) pe_int) pa_nil))) (pg_name (i := 13) sc_l_small_right.nd rfl (by first | exact Or.inl rfl | exact Or.inr rfl)) (pss_cons (ps_setLc (i := 14) (own := [("_law_hour", 15)]) (g := gName 15) (by rfl) sc_l_small_right.nd rfl rfl (sw_true rfl rfl rfl (by decide +kernel)) (pi_range1 (by rfl) T.b_range (pa_cons (pe_callB (lenA (K := K) rfl) (by rfl) T.b_len PySem.boot_len (pa_cons (pe_ix (ixT (K := K) rfl) (pv 1) pe_int (fun _ _ => rfl)) pa_nil)) pa_nil)) (blkOk_by (own := [("_law_hour", 15)]) (N := ["_law_box_here", "_law_day_here", "_law_every", "_law_plans", "_law_struck", "_law_sums", "_law_turn", "_law_plan", "_law_row", "_law_at", "_law_told", "_law_many", "_law_paper", "_law_some", "_law_hours", "_law_hour"]) (sc := defScope s_l_small_right) (by decide +kernel)) (fun _ _ _ _ _ => (pg_name (i := 15) sc_l_small_right.nd rfl (by first | exact Or.inl rfl | exact Or.inr rfl))) (fun _ _ _ _ _ => (pts_one (pt_cmpR op_ge (pe_callB (maxLK (K := K) rfl rfl) (by rfl) T.b_max (by decide +kernel) (pa_cons (pe_lc (own := [("_law_sums", 5)]) (g := gName 5) (tt := tYes) (by rfl) sc_l_small_right.nd (pi_listK (K := K) rfl (pv 2)) (blkOk_in (own := [("_law_sums", 5)]) (N := ["_law_box_here", "_law_day_here", "_law_every", "_law_plans", "_law_struck", "_law_sums", "_law_turn", "_law_plan", "_law_row", "_law_at", "_law_told", "_law_many", "_law_paper", "_law_some", "_law_hours", "_law_hour"]) (sc := defScope s_l_small_right) rfl (by decide +kernel)) (fun _ _ _ _ _ => (pg_name (i := 5) sc_l_small_right.nd rfl (by first | exact Or.inl rfl | exact Or.inr rfl))) (fun _ _ _ _ _ => pts_nil) (fun _ _ _ _ _ => (pe_ix (ixL (K := K) rfl) (pe_ix (ixL (K := K) rfl) (pv 5) (pe_un un_neg pe_int) (fun _ _ => rfl)) (pe_op op_add (pv 15) pe_int) (fun _ _ => rfl)))) pa_nil)) (pv 13) (nomark _)))) (fun _ _ _ _ _ => (pv 15)))
      (pss_one (ps_if (pt_cmpR (neDK (K := K) rfl hr.units) (pe_call (ok_p_first_hour T) (hr.mono (by decide)) (by rfl) T.d_p_first_hour.mg T.d_p_first_hour.fn.kp T.d_p_first_hour.b .nil pass0 (pa_cons (pv 1) (pa_cons (pv 13) pa_nil))) (pe_ix (ixL (K := K) rfl) (pe_op op_catI (pv 14) (pe_lstI (pa_cons pe_non pa_nil))) pe_int (fun _ _ => rfl)) (nomark _)) (pss_one (ps_ret pe_bl)) pss_nil))))
      (pss_one (ps_ret pe_bl))))))))), ?_⟩
    have k1 := O.k1
    have k2 := O.k2
    have h1' := O.h1
    have h2 := O.h2
    refine ⟨_, rfl, p, d, x, D, rfl, hD, O, N, ⟨b, few⟩, fun g as H1 s1 n1 hg T1 => ?_⟩
    obtain ⟨op, hp⟩ := hB.some
    have TA : TbL H H1 p as (genH D D.cs.length) := T1.away hp
    have gp : g ≠ p := (ne_of_none hp n1).symm
    have B1 := hB.same s1
    have la := Paired.length T1
    have l8 := gen_few few
    have shp : ∀ S ∈ genH D D.cs.length, S.length = D.ks.length + 1 ∧ ∀ r ∈ S, r.length = D.cs.length + 1 := fun S hS => by
      have sh := genH_shape k1 D.cs.length S hS
      refine ⟨sh.len, fun r hr => ?_⟩
      obtain ⟨q', eq'⟩ := List.getElem?_of_mem hr
      have hq' : q' ≤ D.ks.length := by have := (List.getElem?_eq_some_iff.mp eq').1; rw [sh.len] at this; omega
      have := sh.row q' hq'
      rw [rowT_at eq', len_end hq'] at this
      exact this
    -- the plans
    refine ⟨_, rfl, g, rfl, ⟨_, SqL.of hg⟩, fun pl hpl => ?_⟩
    refine lc_it (walk_list (K := K) (a := g) (xs := as.map V.ref)) (fun j H' => ∃ ps : List Addr, Same H1 H' ∧ H' pl = some (.lst (ps.map V.ref)) ∧ TbL H1 H' pl ps (((genH D D.cs.length).map planT).take j))
      ⟨[], same_new hpl, upd_same, .nil⟩ (fun j H' _ ⟨_, s, _⟩ => SqL.of (s _ _ hg)) ?_ ?_
    · rintro j v H2' H2 hj ⟨ps, s2, hpl2, P2⟩ ⟨rfl, hv⟩
      rw [List.length_map] at hj
      rw [List.getElem?_map] at hv
      obtain ⟨a, ea, rfl⟩ := Option.map_eq_some_iff.mp hv
      obtain ⟨S, eS, tS⟩ := pair_get T1 ea
      obtain ⟨sS1, sS2⟩ := shp S (List.mem_of_getElem? eS)
      refine ⟨rfl, yesT ?_⟩
      refine ⟨_, rfl, H, g, a, S, rfl, tS.fr (.of s2), fun r hr => by have := sS2 r hr; omega, by omega, fun e rs H3 s3 n3 he P3 => ?_⟩
      have hpl3 := s3 _ _ hpl2
      have lp := Paired.length P2
      rw [List.length_take] at lp
      refine ⟨_, hpl3, by rw [List.length_map]; exact small' (by omega), ps ++ [e], Same.put (s2.trans s3) hpl, by rw [upd_same, List.map_append] <;> rfl, ?_⟩
      have epl : e ≠ pl := (ne_of_none hpl2 n3).symm
      rw [take_one (show ((genH D D.cs.length).map planT)[j]? = some (planT S) by rw [List.getElem?_map, eS] <;> rfl)]
      refine TbL.fr (pair_app (P2.fr (.of s3)) (.cons ⟨rs, he, epl, same_none' s2 n3, pair_map (fun r ns z => ⟨z.1, (ne_of_none hpl2 z.2).symm, same_none' s2 z.2⟩) P3⟩ .nil)) fr_upd
    rintro H2 ⟨ps, s2, hpl2, P2⟩
    rw [List.length_map, la, List.take_of_length_le (by rw [List.length_map]; exact Nat.le_refl _)] at P2
    have s02 := s1.trans s2
    have hp1 := s1 _ _ hp
    have PL2 : TbL H1 H2 p ps ((genH D D.cs.length).map planT) := P2.away hp1
    have plp : pl ≠ p := (ne_of_none hp1 hpl).symm
    have hg2 := s2 _ _ hg
    have T2 := T1.fr (.of s2)
    refine ⟨_, rfl, ?_⟩
    refine ⟨g, rfl, ⟨_, SqL.of hg2⟩, fun G hGG => ?_⟩
    refine lc_it (walk_list (K := K) (a := g) (xs := as.map V.ref)) (fun j H' => Same H2 H' ∧ H' G = some (.lst ((((genH D D.cs.length).map fun S => val S D.ks.length D.cs.length).take j).map V.int)))
      ⟨same_new hGG, by rw [List.take_zero]; exact upd_same⟩ (fun j H' _ z => SqL.of (z.1 _ _ hg2)) ?_ ?_
    · rintro j v Hj' Hj hj ⟨sj, hGj⟩ ⟨rfl, hv⟩
      have laj := Paired.length T2
      have l8j := gen_few few
      rw [List.length_map] at hj
      rw [List.getElem?_map] at hv
      obtain ⟨c, ec, rfl⟩ := Option.map_eq_some_iff.mp hv
      obtain ⟨S, eS, tS⟩ := pair_get T2 ec
      obtain ⟨rs', hbj, bl, _, Pj⟩ := tS.fr (.of sj)
      have shj := genH_shape O.k1 D.cs.length S (List.mem_of_getElem? eS)
      obtain ⟨r, er, hrj, rl, _⟩ := pair_getR Pj (rowT_get (S := S) (p := D.ks.length) (by rw [shj.len]; omega))
      have lrj : rs'.length = D.ks.length + 1 := (Paired.length Pj).trans shj.len
      have lnj : (rowT S D.ks.length).length = D.cs.length + 1 := (shj.row _ (Nat.le_refl _)).trans (len_end (Nat.le_refl _))
      refine ⟨rfl, yesT ?_⟩
      refine ⟨_, rfl, _, rfl, c, _, -1, .ref r, rfl, rfl, SqL.of hbj, at_endR9 lrj er, ?_⟩
      refine ⟨_, rfl, r, _, -1, _, rfl, rfl, SqL.of hrj, at_end9 lnj, ?_⟩
      refine ⟨_, hGj, by rw [List.length_map, List.length_take, List.length_map]; exact small' (by omega), Same.put sj hGG, ?_⟩
      rw [upd_same, take_one (show ((genH D D.cs.length).map fun S => val S D.ks.length D.cs.length)[j]? = some (val S D.ks.length D.cs.length) by rw [List.getElem?_map, eS] <;> rfl), List.map_append] <;> rfl
    rintro H3 ⟨s3, hgG⟩
    rw [List.length_map, Paired.length T2, List.take_of_length_le (by rw [List.length_map]; exact Nat.le_refl _)] at hgG
    refine ⟨G, _, rfl, SqL.of hgG, gen_len0 O N, fun m m1 m2 => ?_⟩
    obtain rfl := last_max O N (Nat.le_refl _) m1 m2
    refine ⟨_, _, rfl, ?_⟩
    have s03 := s02.trans s3
    have hpl3 := s3 _ _ hpl2
    have PL3 : TbL H1 H3 p ps ((genH D D.cs.length).map planT) := PL2.fs (.sm (.of s3))
    have B3 := hB.same s03
    have hT3 := hT.same s03
    have hD3 := hD.same s03
    have lps : ps.length = (genH D D.cs.length).length := by
      have := Paired.length PL3
      rw [List.length_map] at this
      exact this
    have pos : 0 < ps.length := by
      have := gen_len0 (t := D.cs.length) O N
      rw [List.length_map] at this
      omega
    refine ⟨_, rfl, by decide, by decide, for_range (lo := 0) (n := 12) (fun k σ H' => ∃ w6 w7 w8 w9 w10 : Option V, σ = [some (.ref p), some (.ref d), some (.ref g), some (.ref pl), some (.int (mostD D)), none, w6, w7, w8, w9, w10, none, none, none, none, none] ∧ Fs p H3 H' ∧ BoxAt H' p (nb + 3 * k))
      ⟨_, _, _, _, _, rfl, .refl, B3.mono (by omega)⟩ ?_ ?_⟩
    · rintro k σ H4 hk ⟨w6, w7, w8, w9, w10, rfl, F4, B4⟩
      rw [Int.zero_add]
      have hpl4 := F4.keep _ _ plp hpl3 nofun
      refine ⟨_, rfl, _, rfl, _, rfl, pl, _, rfl, .inl (SqL.of hpl4), ?_⟩
      rw [List.length_map]
      refine ⟨p, (ps.length : Int), _, rfl, B4, by omega, by omega, by omega, fun z H5 z0 z1 B5 F5 => ?_⟩
      obtain ⟨zn, rfl⟩ : ∃ zn : Nat, z = (zn : Int) := ⟨z.toNat, by omega⟩
      have zl : zn < ps.length := by omega
      have F35 : Fs p H3 H5 := F4.trans (.of F5)
      have hpl5 := F35.keep _ _ plp hpl3 nofun
      have PL5 := PL3.fs F35
      obtain ⟨a, ea⟩ : ∃ a, ps[zn]? = some a := ⟨ps[zn], List.getElem?_eq_getElem zl⟩
      obtain ⟨Xs, eX, tX⟩ := pair_get PL5 ea
      have mX : Xs ∈ (genH D D.cs.length).map planT := List.mem_of_getElem? eX
      obtain ⟨S, hS, eXS⟩ := List.mem_map.mp mX
      obtain ⟨OX, DX⟩ := good_plan (genH_good k1 _ S hS)
      rw [eXS] at OX DX
      have smX := plan_small O N OX DX
      obtain ⟨rs, ha5, ap, _, R5⟩ := tX
      have lrs : rs.length = D.ks.length + 1 := (Paired.length R5).trans OX.len
      refine ⟨pl, _, (zn : Int), .ref a, rfl, rfl, SqL.of hpl5, at_of (j := zn) rfl (by rw [List.getElem?_map, ea] <;> rfl), ?_⟩
      refine ⟨a, rfl, ⟨_, SqL.of ha5⟩, fun C hC => ?_⟩
      refine lc_it (walk_list (K := K) (a := a) (xs := rs.map V.ref)) (fun j H' => ∃ cs : List Addr, Same H5 H' ∧ H' C = some (.lst (cs.map V.ref)) ∧ cs.Nodup ∧ Paired (fun c ns => H' c = some (.lst (ns.map V.int)) ∧ c ≠ C ∧ H5 c = none) cs (Xs.take j))
        ⟨[], same_new hC, upd_same, .nil, .nil⟩ (fun j H' _ ⟨_, s, _⟩ => SqL.of (s _ _ ha5)) ?_ ?_
      · rintro j v H6' H6 hj ⟨cs, s6, hC6, nd, P6⟩ ⟨rfl, hv⟩
        rw [List.length_map] at hj
        rw [List.getElem?_map] at hv
        obtain ⟨r, er, rfl⟩ := Option.map_eq_some_iff.mp hv
        obtain ⟨ns, en, hr, _⟩ := pair_get R5 er
        refine ⟨rfl, yesT ?_⟩
        refine ⟨_, rfl, r, _, rfl, .inl (SqL.of (s6 _ _ hr)), fun c H7 s7 n7 h7 => ?_⟩
        have hC7 := s7 _ _ hC6
        have lc := Paired.length P6
        rw [List.length_take] at lc
        have cC : c ≠ C := (ne_of_none hC6 n7).symm
        have cn : c ∉ cs := fun m => by
          obtain ⟨u, eu⟩ := List.getElem?_of_mem m
          obtain ⟨ns', _, z, _⟩ := pair_get P6 eu
          rw [n7] at z
          cases z
        refine ⟨_, hC7, by rw [List.length_map]; exact small' (by omega), cs ++ [c], Same.put (s6.trans s7) hC, by rw [upd_same, List.map_append] <;> rfl, ?_, ?_⟩
        · refine List.nodup_append.mpr ⟨nd, by simp, fun u hu v hv => ?_⟩
          rw [List.mem_singleton.mp hv]
          exact fun z => cn (z ▸ hu)
        · rw [take_one en]
          exact pair_app (pair_map (fun _ _ z => ⟨by rw [upd_ne z.2.1]; exact s7 _ _ z.1, z.2⟩) P6) (.cons ⟨by rw [upd_ne cC]; exact h7, cC, same_none' s6 n7⟩ .nil)
      rintro H6 ⟨cs, s6, hC6, nd, P6⟩
      rw [List.length_map, Paired.length R5, List.take_length] at P6
      have Cp : C ≠ p := B5.new hC
      have B6 := B5.same s6
      have F36 : Fs p H3 H6 := F35.trans (.sm (.of s6))
      have tC : Tg K (fun b => b = p) H6 1000000 2 (.ref C) (planX Xs) := tg_plan hC6 Cp ⟨Paired.length P6, fun j r xs e1 e2 => by
        obtain ⟨ns, en, h1, h2, h3⟩ := pair_get P6 e1
        rw [e2] at en
        cases en
        exact ⟨h1, B5.new h3⟩⟩ fun r hr z hz => by have := smX r hr z hz; omega
      have hD6 := hD3.fs B3 F36
      have hT6 : Tbs T.Ps H6 := (box_lst B3).elim fun _ z => hT3.fs z F36
      refine ⟨_, rfl, _, rfl, p, d, x, D, _, 1000000, 2, .ref C, planX Xs, rfl, hD6, O, tC, hT6, fun b1 H7 hb1 s7 => ?_⟩
      obtain rfl := hb1.mpr ⟨Xs, rfl, OX, DX⟩
      refine ⟨_, _, rfl, rfl, _, rfl, iteF ?_⟩
      have hC7 := s7.lst hC6
      have B7 := B6.sm s7
      have lcs : cs.length = D.ks.length + 1 := (Paired.length P6).trans OX.len
      refine ⟨_, rfl, _, rfl, _, rfl, C, _, rfl, .inl (SqL.of hC7), ?_⟩
      rw [List.length_map, lcs]
      refine ⟨p, ((D.ks.length + 1 : Nat) : Int), _, rfl, B7, by omega, by omega, by omega, fun y H8 y0 y1 B8 F8 => ?_⟩
      obtain ⟨i, rfl⟩ : ∃ i : Nat, y = (i : Int) := ⟨y.toNat, by omega⟩
      obtain ⟨c, ec⟩ : ∃ c, cs[i]? = some c := ⟨cs[i]'(by omega), List.getElem?_eq_getElem _⟩
      obtain ⟨ns, en, hc6, cC, nc5⟩ := pair_get P6 ec
      have cp : c ≠ p := B5.new nc5
      have hC8 := F8 _ _ Cp hC7
      have hc8 := F8 _ _ cp (s7.lst hc6)
      have ln : ns.length = D.cs.length := (OX.row ns (List.mem_of_getElem? en)).1
      refine ⟨C, _, (i : Int), .ref c, rfl, rfl, SqL.of hC8, at_of (j := i) rfl (by rw [List.getElem?_map, ec] <;> rfl), ?_⟩
      refine ⟨_, rfl, _, rfl, c, _, rfl, .inl (SqL.of hc8), ?_⟩
      rw [List.length_map, ln]
      refine ⟨p, (D.cs.length : Int), _, rfl, B8, by omega, by omega, by omega, fun y H9 y0' y1' B9 F9 => ?_⟩
      obtain ⟨u, rfl⟩ : ∃ u : Nat, y = (u : Int) := ⟨y.toNat, by omega⟩
      have ul : u < ns.length := by omega
      have hC9 := F9 _ _ Cp hC8
      have hc9 := F9 _ _ cp hc8
      refine ⟨_, rfl, _, rfl, c, _, (u : Int), _, rfl, rfl, SqL.of hc9, at_of (j := u) rfl (ints_get ul), _, _, rfl, rfl, _, rfl, _, rfl, c, _, (u : Int), u, rfl, rfl, hc9, ixN_at9 (by rw [List.length_map]; exact ul), ?_⟩
      have z00 : 0 ≤ ns.getD u 0 := by
        rw [List.getD_eq_getElem?_getD, List.getElem?_eq_getElem ul]
        exact (smX ns (List.mem_of_getElem? en) _ (List.getElem_mem ul)).1
      have eset : (ns.map V.int).set u (.int (ns.getD u 0 + 1)) = (ns.set u (ns.getD u 0 + 1)).map V.int := List.map_set.symm
      rw [eset]
      have OX' : PlanOk D (Xs.set i (ns.set u (ns.getD u 0 + 1))) := plan_more OX en (by omega)
      have F39 : Fs p H3 H9 := F36.trans ((Fs.sm s7).trans (.of (F8.trans F9)))
      have nl3 : ¬ ∃ zs, H3 c = some (.lst zs) := fun ⟨zs, hz⟩ => by
        have := F35.keep _ _ cp hz nofun
        rw [nc5] at this
        cases this
      have F310 : Fs p H3 (upd H9 c (.lst ((ns.set u (ns.getD u 0 + 1)).map V.int))) := F39.putN hc9 nl3
      have B10 : BoxAt (upd H9 c (.lst ((ns.set u (ns.getD u 0 + 1)).map V.int))) p (nb + 3 * k + 1 + 1 + 1) := B9.upd cp
      have tX' : Tg K (fun b => b = p) (upd H9 c (.lst ((ns.set u (ns.getD u 0 + 1)).map V.int))) 1000001 2 (.ref C) (planX (Xs.set i (ns.set u (ns.getD u 0 + 1)))) := by
        refine tg_plan (rs := cs) (by rw [upd_ne cC.symm]; exact hC9) Cp ⟨by rw [List.length_set]; exact Paired.length P6, fun j r xs e1 e2 => ?_⟩ fun r hr z hz => ?_
        · obtain ⟨ms, em, h1, h2', h3⟩ := pair_get P6 e1
          have rp : r ≠ p := B5.new h3
          rw [List.getElem?_set] at e2
          by_cases cij : i = j
          · subst cij
            rw [ec] at e1
            cases e1
            rw [if_pos rfl, if_pos (by rw [OX.len]; omega)] at e2
            cases e2
            exact ⟨upd_same, rp⟩
          · rw [if_neg cij, em] at e2
            cases e2
            have ne : r ≠ c := fun z => cij ((List.getElem?_inj (List.getElem?_eq_some_iff.mp ec).1 nd).mp (ec.trans (z ▸ e1.symm)))
            exact ⟨by rw [upd_ne ne]; exact F9 _ _ rp (F8 _ _ rp (s7.lst h1)), rp⟩
        · rcases List.mem_or_eq_of_mem_set hr with m | m
          · have := smX r m z hz
            omega
          · subst m
            rcases List.mem_or_eq_of_mem_set hz with m | m
            · have := smX ns (List.mem_of_getElem? en) z m
              omega
            · have := smX ns (List.mem_of_getElem? en) (ns.getD u 0) (by rw [List.getD_eq_getElem?_getD, List.getElem?_eq_getElem ul]; exact List.getElem_mem ul)
              omega
      generalize upd H9 c (.lst ((ns.set u (ns.getD u 0 + 1)).map V.int)) = H10 at F310 B10 tX'
      have hD10 := hD3.fs B3 F310
      have hT10 : Tbs T.Ps H10 := (box_lst B3).elim fun _ z => hT3.fs z F310
      refine ⟨_, rfl, _, rfl, p, d, x, D, _, 1000001, 2, .ref C, _, rfl, hD10, O, tX', hT10, fun b2 H11 hb2 s11 => ?_⟩
      have F311 := F310.trans (.sm s11)
      have PL11 := PL3.fs F311
      have hpl11 := F311.keep _ _ plp hpl3 nofun
      have eb : b2 = decide (Xs.set i (ns.set u (ns.getD u 0 + 1)) ∈ (genH D D.cs.length).map planT) := by
        have iff : b2 = true ↔ Xs.set i (ns.set u (ns.getD u 0 + 1)) ∈ (genH D D.cs.length).map planT := hb2.trans ((isPlan_iff OX').trans (mem_plans k1 OX').symm)
        cases b2
        · exact (decide_eq_false fun m => Bool.false_ne_true (iff.mpr m)).symm
        · exact (decide_eq_true (iff.mp rfl)).symm
      refine ⟨_, rfl, _, _, _, _, _, rfl, .ty _, .base (.bl _), kit_ty (show kitB "bool" "bool" = some true by decide +kernel), _, rfl, iteF ?_⟩
      refine ⟨_, rfl, _, rfl, _, rfl, tabD (Xs.set i (ns.set u (ns.getD u 0 + 1))), ((genH D D.cs.length).map planT).map tabD, (tX'.sm s11).dp, .lst (SqL.of hpl11) PL11.dps, tabs_plain _, dins_plain _, tab_deep _, ?_⟩
      rw [any_tab, ← eb]
      refine ⟨rfl, _, rfl, ?_⟩
      refine ite_bF (b := !decide (V.bl b2 = V.bl b2)) (by rw [decide_eq_true rfl] <;> rfl) ?_
      exact ⟨_, _, _, _, _, rfl, F311, (B10.sm s11).mono (by omega)⟩
    · rintro σ H4 ⟨w6, w7, w8, w9, w10, rfl, F4, B4⟩
      have hD4 := hD3.fs B3 F4
      have hpl4 := F4.keep _ _ plp hpl3 nofun
      have PL4 := PL3.fs F4
      have hg4 := F4.keep _ _ gp (s3 _ _ hg2) nofun
      have TA4 := (TA.fs (.sm (.of (s2.trans s3)))).fs F4
      refine ⟨_, rfl, p, d, x, D, rfl, hD4, O, fun tt f rs l H5 s5 n5 htt hf pap ch tch ll => ?_⟩
      refine ⟨tt, _, rfl, SqT.of htt, rfl, _, _, rfl, _, _, rfl, rfl, ?_⟩
      have sm := ch.small (by omega) (by omega) (by omega)
      have PT : TgAll K (fun _ => False) H5 1000000 1 (rs.map V.ref) (l.map dpB) := papTg pap sm
      have T0 : Tg K (fun _ => False) H5 1000000 2 (.ref f) (dpP l) := PT.l hf (fun z => z)
      have hD5 := hD4.same s5
      refine ⟨_, rfl, _, rfl, rfl, _, rfl, ?_⟩
      rw [decide_eq_true rfl]
      refine iteF ?_
      refine ⟨_, rfl, _, rfl, _, rfl, p, d, x, D, mostD D, (fun _ => False), 1000000, 2, .ref f, dpP l, rfl, hD5, O, T0, fun H6 s6 => ?_⟩
      rw [ch.pap]
      refine ⟨_, _, rfl, rfl, _, rfl, iteF ?_⟩
      refine ⟨_, rfl, p, d, x, D, rfl, hD5.same s6, O, fun f1 rs1 H7 s7 n7 hf1 lr1 nd1 rows1 => ?_⟩
      have s57 := s6.trans s7
      have s47 := s5.trans s57
      have tP : Tg K (fun _ => False) H7 1000000 2 (.ref f1) (planX (rowsI D)) := rowsI_tg O N hf1 (fun z => z) lr1 fun j r e => ⟨(rows1 j r e).1, fun z => z⟩
      refine ⟨_, rfl, tabD (rowsI D), ((genH D D.cs.length).map planT).map tabD, tP.dp, .lst (SqL.of (s47 _ _ hpl4)) (PL4.fs (.sm (.of s47))).dps, tabs_plain _, dins_plain _, tab_deep _, ?_⟩
      rw [any_tab, decide_eq_true ((mem_plans k1 (rowsI_ok O N)).mpr (rowsI_do O N))]
      refine ⟨_, rfl, iteF ?_⟩
      refine ⟨fun σ' H' => σ' = [some (.ref p), some (.ref d), some (.ref g), some (.ref pl), some (.int (mostD D)), none, w6, w7, w8, w9, w10, some (.int (mostD D)), some (.ref f), none, none, none] ∧ Same H7 H', ?_, ?_⟩
      rotate_left
      · refine ⟨_, rfl, _, _, rfl, rfl, _, rfl, ?_⟩
        by_cases c : 0 < mostD D
        · refine ite_bT (decide_eq_true c) ?_
          refine ⟨_, rfl, _, rfl, _, _, rfl, rfl, _, rfl, p, d, x, D, mostD D - 1, (fun _ => False), 1000000, 2, .ref f, dpP l, rfl, hD5.same s57, O, T0.same s57, fun H8 s8 => ?_⟩
          rw [isPapN ch, decide_eq_false (by omega)]
          refine ⟨_, _, rfl, rfl, _, rfl, iteF ?_⟩
          exact ⟨rfl, s8⟩
        · exact ite_bF (decide_eq_false c) (iteF ⟨rfl, .refl _⟩)
      rintro σ H8 ⟨rfl, s78⟩
      have mb := tk_nn N D.cs.length 0 D.ks.length (by omega)
      have mb1 : 0 ≤ mostD D := mb.1
      have mb2 : mostD D ≤ 1000000 * (D.cs.length : Int) := mb.2
      have s48 := s47.trans s78
      have hg8 := s48 _ _ hg4
      have TA8 := TA4.fs (.sm (.of s48))
      have hD8 := hD4.same s48
      refine ⟨_, rfl, _, _, rfl, rfl, 1, mostD D + 2, rfl, ⟨by decide, by decide, by omega, by omega⟩, for_range (lo := 1) (n := (mostD D + 2 - 1).toNat) (fun n σ H' => ∃ w13 w14 w15 : Option V, σ = [some (.ref p), some (.ref d), some (.ref g), some (.ref pl), some (.int (mostD D)), none, w6, w7, w8, w9, w10, some (.int (mostD D)), some (.ref f), w13, w14, w15] ∧ Same H8 H')
        ⟨_, _, _, rfl, .refl _⟩ ?_ ?_⟩
      · rintro n σ H9 hnn ⟨w13, w14, w15, rfl, s9⟩
        have hD9 := hD8.same s9
        have hg9 := s9 _ _ hg8
        have TA9 := TA8.fs (.sm (.of s9))
        generalize (1 : Int) + (n : Int) = many
        refine ⟨_, rfl, d, _, 0, _, rfl, rfl, hD9.at_, at0, _, _, rfl, lenV_b hD9.cs.1, ?_⟩
        rw [List.length_map]
        refine ⟨_, rfl, by omega, by omega, fun F hF => ?_⟩
        refine lc_range (lo := 0) (n := ((D.cs.length : Int)).toNat) (fun u H' => Same H9 H' ∧ H' F = some (.lst ((((List.range u).filter fun t => decide (many ≤ tk D (t + 1) D.ks.length)).map fun t : Nat => (t : Int)).map V.int)))
          ⟨same_new hF, upd_same⟩ (fun u H10 hu z => ?_) (fun H10 z => ?_)
        · obtain ⟨s10, hF10⟩ := z
          rw [Int.toNat_natCast] at hu
          rw [Int.zero_add]
          have hg10 := s10 _ _ hg9
          have TA10 := TA9.fs (.sm (.of s10))
          refine ⟨rfl, ?_⟩
          refine ⟨_, rfl, ?_⟩
          refine ⟨g, rfl, ⟨_, SqL.of hg10⟩, fun G2 hGG2 => ?_⟩
          refine lc_it (walk_list (K := K) (a := g) (xs := as.map V.ref)) (fun j H' => Same H10 H' ∧ H' G2 = some (.lst ((((genH D D.cs.length).map fun S => val S D.ks.length (u + 1)).take j).map V.int)))
            ⟨same_new hGG2, by rw [List.take_zero]; exact upd_same⟩ (fun j H' _ z => SqL.of (z.1 _ _ hg10)) ?_ ?_
          · rintro j v Hj' Hj hj ⟨sj, hGj⟩ ⟨rfl, hv⟩
            have laj := Paired.length TA10
            have l8j := gen_few few
            rw [List.length_map] at hj
            rw [List.getElem?_map] at hv
            obtain ⟨c, ec, rfl⟩ := Option.map_eq_some_iff.mp hv
            obtain ⟨S, eS, tS⟩ := pair_get TA10 ec
            obtain ⟨rs', hbj, bl, _, Pj⟩ := tS.fr (.of sj)
            have shj := genH_shape O.k1 D.cs.length S (List.mem_of_getElem? eS)
            obtain ⟨r, er, hrj, rl, _⟩ := pair_getR Pj (rowT_get (S := S) (p := D.ks.length) (by rw [shj.len]; omega))
            have lrj : rs'.length = D.ks.length + 1 := (Paired.length Pj).trans shj.len
            have lnj : (rowT S D.ks.length).length = D.cs.length + 1 := (shj.row _ (Nat.le_refl _)).trans (len_end (Nat.le_refl _))
            refine ⟨rfl, yesT ?_⟩
            refine ⟨_, rfl, _, rfl, c, _, -1, .ref r, rfl, rfl, SqL.of hbj, at_endR9 lrj er, ?_⟩
            refine ⟨_, rfl, _, _, rfl, rfl, r, _, (u : Int) + 1, _, rfl, rfl, SqL.of hrj, at_of (j := u + 1) (by omega) (ints_get (by omega)), ?_⟩
            refine ⟨_, hGj, by rw [List.length_map, List.length_take, List.length_map]; exact small' (by omega), Same.put sj hGG2, ?_⟩
            rw [upd_same, take_one (show ((genH D D.cs.length).map fun S => val S D.ks.length (u + 1))[j]? = some (val S D.ks.length (u + 1)) by rw [List.getElem?_map, eS] <;> rfl), List.map_append] <;> rfl
          rintro H11 ⟨s11, hgG2⟩
          rw [List.length_map, Paired.length TA10, List.take_of_length_le (by rw [List.length_map]; exact Nat.le_refl _)] at hgG2
          refine ⟨G2, _, rfl, SqL.of hgG2, gen_len0 O N, fun m m1 m2 => ?_⟩
          obtain rfl := last_max O N (by omega) m1 m2
          refine ⟨_, rfl, _, _, rfl, rfl, _, rfl, ?_⟩
          have hF11 := s11 _ _ hF10
          have fl : ((List.range u).filter fun t => decide (many ≤ tk D (t + 1) D.ks.length)).length ≤ u := by
            have := List.length_filter_le (fun t => decide (many ≤ tk D (t + 1) D.ks.length)) (List.range u)
            rw [List.length_range] at this
            exact this
          by_cases c : many ≤ tk D (u + 1) D.ks.length
          · refine ite_bT (decide_eq_true c) ?_
            refine ⟨_, rfl, _, hF11, by rw [List.length_map, List.length_map]; exact small' (by omega), Same.put (s10.trans s11) hF, ?_⟩
            rw [upd_same, List.range_succ, List.filter_append, List.filter_cons, if_pos (decide_eq_true c), List.map_append, List.map_append] <;> rfl
          · refine ite_bF (decide_eq_false c) ?_
            refine ⟨s10.trans s11, ?_⟩
            rw [hF11, List.range_succ, List.filter_append, List.filter_cons, if_neg (by rw [decide_eq_false c]; exact Bool.false_ne_true), List.filter_nil, List.append_nil]
        · obtain ⟨s10, hF10⟩ := z
          rw [Int.toNat_natCast] at hF10
          have s9b := s10
          refine ⟨_, rfl, _, rfl, p, d, x, D, many, rfl, hD9.same s10, O, fun v1 H11 s11 fv => ?_⟩
          refine ⟨_, rfl, rfl, fun l1 H12 s12 n12 h12 => ?_⟩
          have fl : ((List.range D.cs.length).filter fun t => decide (many ≤ tk D (t + 1) D.ks.length)).length ≤ D.cs.length := by
            have := List.length_filter_le (fun t => decide (many ≤ tk D (t + 1) D.ks.length)) (List.range D.cs.length)
            rw [List.length_range] at this
            exact this
          refine ⟨F, l1, _, _, rfl, rfl, (s11.trans s12) _ _ hF10, h12, by rw [List.length_map, List.length_map, sizeLine_eq]; show _ + 1 ≤ _; omega, fun l2 H13 s13 n13 h13 => ?_⟩
          obtain ⟨v2, e2⟩ : ∃ v2, (((((List.range D.cs.length).filter fun t => decide (many ≤ tk D (t + 1) D.ks.length)).map fun t : Nat => (t : Int)).map V.int ++ [.non])[0]?) = some v2 := ⟨_, List.getElem?_eq_getElem (by rw [List.length_append]; show 0 < _ + 1; omega)⟩
          obtain rfl := firstV_uniq fv (first_of e2)
          obtain ⟨e, she, dpe⟩ := firstV_dp fv
          refine ⟨l2, _, 0, v1, rfl, rfl, SqL.of h13, at_of (j := 0) rfl e2, ?_⟩
          refine ⟨e, e, dpe, dpe, she, she, ?_⟩
          rw [SeqAt.eqv_refl _ (SeqAt.canLay_of_shaped she)]
          refine ⟨_, rfl, iteF ?_⟩
          exact ⟨_, _, _, rfl, s9.trans (s10.trans (s11.trans (s12.trans s13)))⟩
      · rintro σ H9 ⟨w13, w14, w15, rfl, s9⟩
        have F49 : Fs p H3 H9 := F4.trans (.sm (.of (s48.trans s9)))
        exact q H9 ((B4.same (s48.trans s9)).mono (by omega)) ((Fs.sm (.of s03)).trans F49)

end
end KR
namespace KR
open PySem PySem.Spec PyProof.Rows L2
section
variable {P : Program} {w : World} {K : PySem.W.Frag} {mg : Str → Option Value} {base : Heap}
theorem at_last {xs : List V} {x : V} : atI (xs ++ [x]) (-1) = some x := by
  unfold atI ixN
  rw [List.length_append, List.length_singleton, if_neg (by omega), if_pos (by omega)]
  show (xs ++ [x])[(-1 + ((xs.length + 1 : Nat) : Int)).toNat]? = _
  rw [show (-1 + ((xs.length + 1 : Nat) : Int)).toNat = xs.length by omega, List.getElem?_append_right (Nat.le_refl _), Nat.sub_self] <;> rfl
theorem ixN_d {n i : Nat} (h : i < n) : ixN n (i : Int) = some i := by
  unfold ixN
  rw [if_pos (by omega), if_pos (by omega), Int.toNat_natCast]
theorem kt_mem {D : Dy} {p : Nat} (h : p < D.ks.length) : kt D p ∈ D.ks := by
  unfold kt
  rw [List.getD_eq_getElem?_getD, List.getElem?_eq_getElem h]
  exact List.getElem_mem h
/-- sums of all places within an hour, behind so many places from the last one on -/
def rowW (D : Dy) (F : Nat → Nat → Int) (t j : Nat) : List Int := (List.range (D.ks.length + 1)).map fun p => if D.ks.length < p + j then F p (t + 1) else F p t
theorem rowW_len (D : Dy) (F : Nat → Nat → Int) (t j : Nat) : (rowW D F t j).length = D.ks.length + 1 := by
  unfold rowW
  rw [List.length_map, List.length_range]
theorem rowW_at {D : Dy} {F : Nat → Nat → Int} {t j p : Nat} (h : p ≤ D.ks.length) : (rowW D F t j)[p]? = some (if D.ks.length < p + j then F p (t + 1) else F p t) := by
  unfold rowW
  rw [List.getElem?_map, List.getElem?_range (by omega)] <;> rfl
theorem rowW_zero {D : Dy} {F : Nat → Nat → Int} (h : ∀ p, p ≤ D.ks.length → F p 0 = 0) : rowW D F 0 0 = List.replicate (D.ks.length + 1) 0 := by
  refine List.eq_replicate_iff.mpr ⟨rowW_len D F 0 0, fun z hz => ?_⟩
  unfold rowW at hz
  obtain ⟨p, hp, rfl⟩ := List.mem_map.mp hz
  have := List.mem_range.mp hp
  show (if D.ks.length < p + 0 then F p (0 + 1) else F p 0) = 0
  rw [if_neg (by omega), h p (by omega)]
theorem rowW_next (D : Dy) (F : Nat → Nat → Int) (t : Nat) : rowW D F t (D.ks.length + 1) = rowW D F (t + 1) 0 := by
  unfold rowW
  exact List.map_congr_left fun p hp => by
    have := List.mem_range.mp hp
    rw [if_pos (by omega), if_neg (by omega)]
theorem rowW_set {D : Dy} {F G : Nat → Nat → Int} {t j pl : Nat} {z : Int} (hj : pl + j = D.ks.length) (z1 : z = G pl (t + 1)) (e : ∀ p, p ≤ D.ks.length → p ≠ pl → (if D.ks.length < p + j then F p (t + 1) else F p t) = if D.ks.length < p + j then G p (t + 1) else G p t) : (rowW D F t j).set pl z = rowW D G t (j + 1) := by
  refine List.ext_getElem? fun i => ?_
  by_cases hi : i ≤ D.ks.length
  · rw [rowW_at hi, List.getElem?_set]
    by_cases c : pl = i
    · subst c
      rw [if_pos rfl, if_pos (by rw [rowW_len]; omega), if_pos (by omega), z1]
    · rw [if_neg c, rowW_at hi, e i hi fun z => c z.symm]
      by_cases c2 : D.ks.length < i + j
      · rw [if_pos c2, if_pos (by omega)]
      · rw [if_neg c2, if_neg (by omega)]
  · rw [List.getElem?_eq_none (by rw [List.length_set, rowW_len]; omega), List.getElem?_eq_none (by rw [rowW_len]; omega)]
def sp_l_great_right (K : PySem.W.Frag) : Sp := fun vs H Q _ => ∃ (p d : Addr) (nb : Nat) (x : DyP) (D : Dy), vs = [.ref p, .ref d] ∧ BoxAt H p nb ∧ nb ≤ 990000000 ∧ DayAt K H p d x D ∧ x.pc = true ∧ x.pk = true ∧ DyOk D ∧ DyNn D ∧ ∀ H', BoxAt H' p (nb + 3600) → Fr p H H' → Q (.bl true) H'
theorem ok_l_great_right (T : All K mg) : FnOk P w K mg base CX0 4 T.f_l_great_right T.fd_l_great_right ["_law_box_here", "_law_day_here"] (sp_l_great_right K) := by
  refine T.d_l_great_right.fn.ok sc_l_great_right (fun vs H Q E h => ?_) (fun cdv A outer s H vs Q E hr h => ?_)
  · obtain ⟨p, d, nb, x, D, rfl, _⟩ := h
    rfl
  · obtain ⟨p, d, nb, x, D, rfl, hB, hnb, hD, xc, xk, O, N, q⟩ := h
    refine ⟨_, (pss_cons (ps_asg (pv 1) (pg_tupK (K := K) rfl rfl (pgs_cons (pg_name (i := 2) sc_l_great_right.nd rfl (by first | exact Or.inl rfl | exact Or.inr rfl)) (pgs_cons (pg_name (i := 3) sc_l_great_right.nd rfl (by first | exact Or.inl rfl | exact Or.inr rfl)) (pgs_cons (pg_name (i := 4) sc_l_great_right.nd rfl (by first | exact Or.inl rfl | exact Or.inr rfl)) pgs_nil)))))
      (pss_cons (ps_set (i := 5) sc_l_great_right.nd rfl (by first | exact Or.inl rfl | exact Or.inr rfl) (pe_call (ok_p_most_plan T) hr (by rfl) T.d_p_most_plan.mg T.d_p_most_plan.fn.kp T.d_p_most_plan.b .nil pass0 (pa_cons (pv 1) pa_nil)))
      (pss_cons (ps_for PassesOwn.never rfl (pi_range1 (by rfl) T.b_range (pa_cons pe_int pa_nil)) (pg_name (i := 6) sc_l_great_right.nd rfl (by first | exact Or.inl rfl | exact Or.inr rfl)) (pss_cons (ps_par (i := 7) (j := 8) (by rfl) sc_l_great_right.nd rfl rfl (by decide) rfl rfl (pa_cons (pe_op op_rep (pe_lstI (pa_cons pe_int pa_nil)) (pe_callB (lenQ (K := K) rfl) (by rfl) T.b_len PySem.boot_len (pa_cons (pv 3) pa_nil))) (pa_cons pe_int pa_nil)) (by rfl))
      (pss_cons (ps_par (i := 9) (j := 10) (by rfl) sc_l_great_right.nd rfl rfl (by decide) rfl rfl (pa_cons (pe_op op_rep (pe_lstI (pa_cons pe_int pa_nil)) (pe_callB (lenQ (K := K) rfl) (by rfl) T.b_len PySem.boot_len (pa_cons (pv 5) pa_nil))) (pa_cons (pe_op op_rep (pe_lstI (pa_cons pe_int pa_nil)) (pe_callB (lenQ (K := K) rfl) (by rfl) T.b_len PySem.boot_len (pa_cons (pv 5) pa_nil))) pa_nil)) (by rfl))
      (pss_one (ps_for PassesOwn.never rfl (pi_enumB (K := K) rfl (by rfl) T.b_enumerate (pa_cons (pv 2) pa_nil)) (pg_tupK (K := K) rfl rfl (pgs_cons (pg_name (i := 11) sc_l_great_right.nd rfl (by first | exact Or.inl rfl | exact Or.inr rfl)) (pgs_cons (pg_name (i := 12) sc_l_great_right.nd rfl (by first | exact Or.inl rfl | exact Or.inr rfl)) pgs_nil))) (pss_cons (ps_par3 (i := 8) (j := 13) (l := 14) (by rfl) sc_l_great_right.nd rfl rfl rfl (by decide) (by decide) (by decide) rfl rfl rfl (pa_cons (pe_op op_add (pv 8) (pv 12)) (pa_cons (pe_callTy (listI (K := K) rfl) (by rfl) T.b_list (by decide +kernel) (pa_cons (pv 7) pa_nil)) (pa_cons pe_int pa_nil))) (by rfl))
      (pss_cons (ps_for PassesOwn.never rfl (pi_range3 (by rfl) T.b_range (pa_cons (pe_callB (lenQ (K := K) rfl) (by rfl) T.b_len PySem.boot_len (pa_cons (pv 3) pa_nil)) (pa_cons (pe_un un_neg pe_int) (pa_cons (pe_un un_neg pe_int) pa_nil)))) (pg_name (i := 15) sc_l_great_right.nd rfl (by first | exact Or.inl rfl | exact Or.inr rfl)) (pss_cons (ps_J (ps_set (i := 16) sc_l_great_right.nd rfl (by first | exact Or.inl rfl | exact Or.inr rfl) (pe_ix (ixQ (K := K) rfl) (pe_ifExp (pt_cmpR op_eq (pv 15) (pe_callB (lenQ (K := K) rfl) (by rfl) T.b_len PySem.boot_len (pa_cons (pv 3) pa_nil)) (nomark _)) (pv 4) (pe_ix (ixT (K := K) rfl) (pe_ix (ixL (K := K) rfl) (pv 3) (pv 15) (fun _ _ => rfl)) pe_int (fun _ _ => rfl))) (pv 11) (fun _ _ => rfl))))
      (pss_cons (ps_J (ps_set (i := 17) sc_l_great_right.nd rfl (by first | exact Or.inl rfl | exact Or.inr rfl) (pe_callB (call_min2 rfl) (by rfl) T.b_min (by decide +kernel) (pa_cons (pv 16) (pa_cons (pe_ix (ixL (K := K) rfl) (pe_op op_catI (pv 13) (pe_lstI (pa_cons (pv 8) pa_nil))) (pe_op op_sub (pv 15) pe_int) (fun _ _ => rfl)) pa_nil)))))
      (pss_cons (ps_J (ps_if (pt_cmpR op_lt (pv 15) (pe_callB (lenQ (K := K) rfl) (by rfl) T.b_len PySem.boot_len (pa_cons (pv 3) pa_nil)) (nomark _)) (pss_cons (ps_asg (pe_op op_sub (pe_ix (ixL (K := K) rfl) (pv 7) (pv 15) (fun _ _ => rfl)) (pv 14)) (pg_sub (pv 7) (pv 15) set_list))
      (pss_one (ps_set (i := 17) sc_l_great_right.nd rfl (by first | exact Or.inl rfl | exact Or.inr rfl) (pe_callB (call_min2 rfl) (by rfl) T.b_min (by decide +kernel) (pa_cons (pv 17) (pa_cons (pe_op op_sub (pe_ix (ixT (K := K) rfl) (pe_ix (ixL (K := K) rfl) (pv 3) (pv 15) (fun _ _ => rfl)) pe_int (fun _ _ => rfl)) (pe_ix (ixL (K := K) rfl) (pv 7) (pv 15) (fun _ _ => rfl))) pa_nil)))))) pss_nil))
      (pss_cons (ps_set (i := 14) sc_l_great_right.nd rfl (by first | exact Or.inl rfl | exact Or.inr rfl) (pe_ix (ixL (K := K) rfl) (pe_lstI (pa_cons (pv 17) (pa_cons (pe_call (ok_l_take T) (hr.mono (by decide)) (by rfl) T.d_l_take.mg T.d_l_take.fn.kp T.d_l_take.b .nil pass0 (pa_cons (pv 0) (pa_cons (pe_op op_add (pv 17) pe_int) pa_nil))) pa_nil))) (pe_call (ok_l_take T) (hr.mono (by decide)) (by rfl) T.d_l_take.mg T.d_l_take.fn.kp T.d_l_take.b .nil pass0 (pa_cons (pv 0) (pa_cons pe_int pa_nil))) (fun _ _ => rfl)))
      (pss_cons (ps_J (ps_if (pt_cmpR op_lt (pv 15) (pe_callB (lenQ (K := K) rfl) (by rfl) T.b_len PySem.boot_len (pa_cons (pv 3) pa_nil)) (nomark _)) (pss_one (ps_asg (pe_op op_add (pe_ix (ixL (K := K) rfl) (pv 7) (pv 15) (fun _ _ => rfl)) (pv 14)) (pg_sub (pv 7) (pv 15) set_list))) pss_nil))
      (pss_cons (ps_asg (pe_op op_add (pe_ix (ixL (K := K) rfl) (pv 9) (pv 15) (fun _ _ => rfl)) (pv 14)) (pg_sub (pv 9) (pv 15) set_list))
      (pss_cons (ps_asg (pe_op op_add (pe_ix (ixL (K := K) rfl) (pv 10) (pv 15) (fun _ _ => rfl)) (pe_ix (ixL (K := K) rfl) (pe_ix (ixL (K := K) rfl) (pv 5) (pv 15) (fun _ _ => rfl)) (pv 11) (fun _ _ => rfl))) (pg_sub (pv 10) (pv 15) set_list))
      (pss_one (ps_if (pt_cmpR op_gt (pe_ix (ixL (K := K) rfl) (pv 9) (pv 15) (fun _ _ => rfl)) (pe_ix (ixL (K := K) rfl) (pv 10) (pv 15) (fun _ _ => rfl)) (nomark _)) (pss_one (ps_ret pe_bl)) pss_nil))))))))))
      (pss_one (ps_set (i := 8) sc_l_great_right.nd rfl (by first | exact Or.inl rfl | exact Or.inr rfl) (pe_op op_sub (pv 8) (pv 14)))))))))))
      (pss_one (ps_ret pe_bl))))), ?_⟩
    have k1 := O.k1
    have k2 := O.k2
    have h2 := O.h2
    refine ⟨_, rfl, d, _, rfl, hD.at_, rfl, _, _, rfl, _, _, rfl, _, _, rfl, rfl, ?_⟩
    refine ⟨_, rfl, p, d, x, D, rfl, hD, O, fun f rs H1 s1 n1 hf1 lr nd rows => ?_⟩
    have hD1 := hD.same s1
    have hB1 := hB.same s1
    have fp : f ≠ p := hB.new n1
    refine ⟨_, rfl, by decide, by decide, for_range (lo := 0) (n := 4) (fun u σ H' => ∃ v6 v7 v8 v9 v10 v11 v12 v13 v14 v15 v16 v17 : Option V, σ = [some (.ref p), some (.ref d), some (.ref x.c), some (.ref x.k), some (.ref x.s), some (.ref f), v6, v7, v8, v9, v10, v11, v12, v13, v14, v15, v16, v17] ∧ Fr p H1 H' ∧ BoxAt H' p (nb + 870 * u))
      ⟨_, _, _, _, _, _, _, _, _, _, _, _, rfl, .refl, hB1⟩ ?_ ?_⟩
    · rintro u σ H2 hu ⟨v6, v7, v8, v9, v10, v11, v12, v13, v14, v15, v16, v17, rfl, F2, B2⟩
      rw [Int.zero_add]
      have hD2 := hD1.fr hB1 F2
      have hk2 : SqL K H2 x.k (x.as.map V.ref) := by
        have z := hD2.ks
        rw [xk] at z
        exact z
      refine ⟨rfl, fun l0 H3 s3 n3 h3 => ?_⟩
      refine ⟨_, rfl, x.k, _, rfl, .inl (Same.seq s3 hk2), ?_⟩
      rw [List.length_map, hD.len]
      refine ⟨l0, (D.ks.length : Int), _, rfl, rfl, h3, by omega, by omega, by show 1 * _ ≤ _; rw [sizeLine_eq]; omega, fun hl nhl => ?_⟩
      rw [rep_ints D.ks.length 0]
      have s4 : Same H2 (upd H3 hl (.lst ((List.replicate D.ks.length (0 : Int)).map V.int))) := s3.trans (same_new nhl)
      have hl4 : (upd H3 hl (.lst ((List.replicate D.ks.length (0 : Int)).map V.int))) hl = some (.lst ((List.replicate D.ks.length (0 : Int)).map V.int)) := upd_same
      have hlp : hl ≠ p := (B2.same s3).new nhl
      have nhl1 : H1 hl = none := fr_new' F2 (same_none' s3 nhl) hlp
      generalize upd H3 hl (.lst ((List.replicate D.ks.length (0 : Int)).map V.int)) = H4 at s4 hl4
      refine ⟨_, _, rfl, ?_⟩
      have hf4 : H4 f = some (.lst (rs.map V.ref)) := s4 _ _ (F2 _ _ fp hf1)
      refine ⟨rfl, fun l1 H5 s5 n5 h5 => ?_⟩
      refine ⟨_, rfl, f, _, rfl, .inl (SqL.of (s5 _ _ hf4)), ?_⟩
      rw [List.length_map, lr]
      refine ⟨l1, ((D.ks.length + 1 : Nat) : Int), _, rfl, rfl, h5, by omega, by omega, by show 1 * _ ≤ _; rw [sizeLine_eq]; omega, fun sl nsl => ?_⟩
      rw [rep_ints (D.ks.length + 1) 0]
      have s6 : Same H4 (upd H5 sl (.lst ((List.replicate (D.ks.length + 1) (0 : Int)).map V.int))) := s5.trans (same_new nsl)
      have sl6 : (upd H5 sl (.lst ((List.replicate (D.ks.length + 1) (0 : Int)).map V.int))) sl = some (.lst ((List.replicate (D.ks.length + 1) (0 : Int)).map V.int)) := upd_same
      have slp : sl ≠ p := ((B2.same s4).same s5).new nsl
      have nsl1 : H1 sl = none := fr_new' F2 (same_none' s4 (same_none' s5 nsl)) slp
      have hlsl : hl ≠ sl := ne_of_none (s5 _ _ hl4) nsl
      generalize upd H5 sl (.lst ((List.replicate (D.ks.length + 1) (0 : Int)).map V.int)) = H6 at s6 sl6
      refine ⟨rfl, fun l2 H7 s7 n7 h7 => ?_⟩
      refine ⟨_, rfl, f, _, rfl, .inl (SqL.of ((s6.trans s7) _ _ hf4)), ?_⟩
      rw [List.length_map, lr]
      refine ⟨l2, ((D.ks.length + 1 : Nat) : Int), _, rfl, rfl, h7, by omega, by omega, by show 1 * _ ≤ _; rw [sizeLine_eq]; omega, fun bl nbl => ?_⟩
      rw [rep_ints (D.ks.length + 1) 0]
      have s8 : Same H6 (upd H7 bl (.lst ((List.replicate (D.ks.length + 1) (0 : Int)).map V.int))) := s7.trans (same_new nbl)
      have bl8 : (upd H7 bl (.lst ((List.replicate (D.ks.length + 1) (0 : Int)).map V.int))) bl = some (.lst ((List.replicate (D.ks.length + 1) (0 : Int)).map V.int)) := upd_same
      have blp : bl ≠ p := (((B2.same s4).same s6).same s7).new nbl
      have nbl1 : H1 bl = none := fr_new' F2 (same_none' s4 (same_none' s6 (same_none' s7 nbl))) blp
      have hlbl : hl ≠ bl := ne_of_none (s7 _ _ (s6 _ _ hl4)) nbl
      have slbl : sl ≠ bl := ne_of_none (s7 _ _ sl6) nbl
      generalize upd H7 bl (.lst ((List.replicate (D.ks.length + 1) (0 : Int)).map V.int)) = H8 at s8 bl8
      refine ⟨_, _, rfl, ?_⟩
      have s28 := s4.trans (s6.trans s8)
      have F8 : Fr p H1 H8 := F2.trans (.of s28)
      refine ⟨_, rfl, x.c, _, x.pc, rfl, (hD1.fr hB1 F8).cs.1, for_it (walk_enumB (K := K) (a := x.c) (xs := D.cs.map V.int) (p := x.pc)) (fun t σ H' => ∃ (g : Nat → List Int) (wt : Int) (v6 v11 v12 v13 v14 v15 v16 v17 : Option V), σ = [some (.ref p), some (.ref d), some (.ref x.c), some (.ref x.k), some (.ref x.s), some (.ref f), v6, some (.ref hl), some (.int wt), some (.ref sl), some (.ref bl), v11, v12, v13, v14, v15, v16, v17] ∧ Fr p H1 H' ∧ BoxAt H' p (nb + 870 * u + 18 * t) ∧ H' hl = some (.lst ((heldV D g t).map V.int)) ∧ wt = csum D t - PS g 0 t ∧ H' sl = some (.lst ((rowW D (PS g) t 0).map V.int)) ∧ H' bl = some (.lst ((rowW D (fun q t => tk D t q) t 0).map V.int)) ∧ (∀ q, q ≤ D.ks.length → (g q).length = t) ∧ (∀ q, q ≤ D.ks.length → Ldl (g q)) ∧ ∀ pl t', pl ≤ D.ks.length → t' < t → PlAt D g pl t')
        ⟨fun _ => [], 0, _, _, _, _, _, _, _, _, rfl, F8, (B2.same s28).mono (by omega), by rw [heldV_zero]; exact s8 _ _ (s6 _ _ hl4), by rw [PS_zero] <;> rfl, by rw [rowW_zero fun p _ => PS_zero _ _]; exact s8 _ _ sl6, by rw [rowW_zero (F := fun q t => tk D t q) fun p _ => tk_zero D p]; exact bl8, fun q _ => rfl, fun q _ z hz => absurd hz List.not_mem_nil, fun pl t' _ lt => absurd lt (Nat.not_lt_zero _)⟩ (fun t σ H' _ ⟨_, _, _, _, _, _, _, _, _, _, _, F, _⟩ => (hD1.fr hB1 F).cs.1) ?_ ?_⟩
      · clear v6 v7 v8 v9 v10 v11 v12 v13 v14 v15 v16 v17
        rintro t v σ Ha H9 ht ⟨g, wt, v6, v11, v12, v13, v14, v15, v16, v17, rfl, F9, B9, h9, rfl, sl9, bl9, len9, ldl9, done9⟩ ⟨T0, x0, y0, rfl, hT, rfl, e0, ex⟩
        rw [List.length_map] at ht
        obtain rfl := Option.some.inj e0
        have ex' : (D.cs.map V.int)[t]? = some y0 := ex
        rw [ints_get ht] at ex'
        obtain rfl := Option.some.inj ex'
        have sT : Same Ha (upd Ha T0 (.tup [.int (t : Nat), .int (D.cs.getD t 0)])) := same_new hT
        have hT9 : (upd Ha T0 (.tup [.int (t : Nat), .int (D.cs.getD t 0)])) T0 = some (.tup [.int (t : Nat), .int (D.cs.getD t 0)]) := upd_same
        generalize upd Ha T0 (.tup [.int (t : Nat), .int (D.cs.getD t 0)]) = H9 at sT hT9
        refine ⟨T0, _, rfl, SqT.of hT9, rfl, _, _, rfl, _, _, rfl, rfl, ?_⟩
        have B9' := B9.same sT
        have h9' := sT _ _ h9
        refine ⟨_, rfl, _, rfl, _, _, rfl, rfl, _, rfl, hl, _, rfl, .inl (SqL.of h9'), fun bf Hb sb nb' hb => ⟨_, _, _, rfl, ?_⟩⟩
        have sab := sT.trans sb
        have Fb : Fr p H1 Hb := F9.trans (.of sab)
        have bfl : bf ≠ hl := (ne_of_none h9' nb').symm
        have bfp : bf ≠ p := B9'.new nb'
        have bfs : bf ≠ sl := (ne_of_none (sT _ _ sl9) nb').symm
        have bfb : bf ≠ bl := (ne_of_none (sT _ _ bl9) nb').symm
        have hkb : SqL K Hb x.k (x.as.map V.ref) := by
          have z := (hD1.fr hB1 Fb).ks
          rw [xk] at z
          exact z
        have cS := csum_stepW ht
        have eW : csum D t - PS g 0 t + D.cs.getD t 0 = csum D (t + 1) - PS g 0 t := by omega
        refine ⟨_, rfl, x.k, _, rfl, .inl hkb, ?_⟩
        rw [List.length_map, hD.len]
        have eN : ((D.ks.length : Int) - -1).toNat = D.ks.length + 1 := by omega
        refine ⟨_, rfl, _, rfl, (D.ks.length : Int), -1, -1, _, rfl, RgC.neg (by omega) (by omega) (by decide) (by decide), for_rangeC (lo := (D.ks.length : Int)) (c := -1) (n := ((D.ks.length : Int) - -1).toNat) (fun j σ H' => ∃ (gg : Nat → List Int) (W tk0 : Int) (v6 v15 v16 v17 : Option V), σ = [some (.ref p), some (.ref d), some (.ref x.c), some (.ref x.k), some (.ref x.s), some (.ref f), v6, some (.ref hl), some (.int W), some (.ref sl), some (.ref bl), some (.int (t : Nat)), some (.int (D.cs.getD t 0)), some (.ref bf), some (.int tk0), v15, v16, v17] ∧ Fr p H1 H' ∧ BoxAt H' p (nb + 870 * u + 18 * t + 2 * j) ∧ H' hl = some (.lst ((heldW D gg t j).map V.int)) ∧ H' bf = some (.lst ((heldV D gg t).map V.int)) ∧ W = csum D (t + 1) - PS gg 0 t ∧ H' sl = some (.lst ((rowW D (PS gg) t j).map V.int)) ∧ H' bl = some (.lst ((rowW D (fun q t => tk D t q) t j).map V.int)) ∧ (∀ q, q ≤ D.ks.length → (gg q).length = if D.ks.length < q + j then t + 1 else t) ∧ (∀ q, q ≤ D.ks.length → Ldl (gg q)) ∧ (∀ pl t', pl ≤ D.ks.length → t' < t → PlAt D gg pl t') ∧ (∀ pl, pl ≤ D.ks.length → D.ks.length < pl + j → PlAt D gg pl t) ∧ tk0 = if j = 0 then 0 else PX gg (D.ks.length + 1 - j) t)
          ⟨g, _, 0, _, _, _, _, rfl, Fb, (B9'.same sb).mono (by omega), by rw [heldW_zero]; exact sb _ _ h9', hb, eW, sab _ _ sl9, sab _ _ bl9, fun q hq => by rw [if_neg (by omega)]; exact len9 q hq, ldl9, done9, fun pl hp lt => absurd lt (by omega), rfl⟩ ?_ ?_⟩
        · clear v6 v11 v12 v13 v14 v15 v16 v17
          rintro j σ Hc hj ⟨gg, W, tk0, v6, v15, v16, v17, rfl, F8, B8, h8, hb8, eW8, sl8, bl8, len8, ldl8, done8, cur8, etk⟩
          obtain ⟨pl, epl, lpl⟩ : ∃ pl : Nat, (D.ks.length : Int) + (j : Int) * -1 = (pl : Int) ∧ pl + j = D.ks.length := ⟨D.ks.length - j, by omega, by omega⟩
          rw [epl]
          have hp : pl ≤ D.ks.length := by omega
          have lenp : (gg pl).length = t := by rw [len8 pl hp, if_neg (by omega)]
          have lent : ∀ q, q ≤ D.ks.length → t ≤ (gg q).length := fun q hq => by rw [len8 q hq]; split <;> omega
          have nn8 : ∀ q, q ≤ D.ks.length → ∀ z ∈ gg q, 0 ≤ z := fun q hq z hz => (ldl8 q hq z hz).1
          have hD8 := hD1.fr hB1 F8
          have hk8 : SqL K Hc x.k (x.as.map V.ref) := by
            have z := hD8.ks
            rw [xk] at z
            exact z
          have cs0 : 0 ≤ D.cs.getD t 0 := (ldl_at N.cs t).1
          have W0 : 0 ≤ W := by
            have := wait_nn done8
            omega
          -- what it may take
          refine ⟨fun σ' H' => ∃ M : Int, σ' = [some (.ref p), some (.ref d), some (.ref x.c), some (.ref x.k), some (.ref x.s), some (.ref f), v6, some (.ref hl), some (.int W), some (.ref sl), some (.ref bl), some (.int (t : Nat)), some (.int (D.cs.getD t 0)), some (.ref bf), some (.int tk0), some (.int (pl : Int)), some (.int M), v17] ∧ H' = Hc ∧ M = mayT D pl t ∧ 0 ≤ M ∧ M ≤ 1000000, ?_, ?_⟩
          rotate_left
          · refine ⟨_, rfl, _, rfl, x.k, _, rfl, .inl hk8, ?_⟩
            rw [List.length_map, hD.len]
            refine ⟨rfl, _, rfl, ?_⟩
            by_cases c : pl = D.ks.length
            · refine ite_bT (decide_eq_true (by rw [c])) ?_
              refine ⟨_, rfl, _, rfl, ix_b (i := t) hD8.ss.1 rfl (ints_get (by rw [O.sl]; exact ht)) ?_⟩
              have := ldl_at N.ss t
              exact ⟨_, rfl, rfl, by unfold mayT; rw [if_pos c], this.1, this.2⟩
            · refine ite_bF (decide_eq_false fun e => c (by injection e with e; omega)) ?_
              obtain ⟨ka, tk', b', gk, hka, hta⟩ := hD8.pot (j := pl) (by omega)
              refine ⟨_, rfl, _, rfl, x.k, _, _, _, rfl, rfl, hk8, at_of rfl gk, ka, _, 1, _, rfl, rfl, hka, at1, _, rfl, ix_b (i := t) hta.1 rfl (ints_get (by rw [kt_len O (by omega)]; exact ht)) ?_⟩
              have := ldl_at (N.ks _ (kt_mem (p := pl) (by omega))).2.2 t
              exact ⟨_, rfl, rfl, by unfold mayT; rw [if_neg c], this.1, this.2⟩
          rintro σ Hd ⟨M0, rfl, eHd, eM0, m00, m06⟩
          obtain rfl := eHd.symm
          -- no more than is there
          obtain ⟨A, hA, eA, A0⟩ : ∃ A : Int, atI ((heldV D gg t).map V.int ++ [V.int W]) ((pl : Int) - 1) = some (.int A) ∧ PS gg pl t + A = (if pl = 0 then csum D (t + 1) else PS gg (pl - 1) t) ∧ 0 ≤ A := by
            by_cases c0 : pl = 0
            · subst c0
              exact ⟨W, by rw [show ((0 : Nat) : Int) - 1 = -1 from rfl]; exact at_last, by rw [if_pos rfl]; omega, W0⟩
            · have := held_nn (p := pl - 1) nn8 (by omega) done8
              rw [show pl - 1 + 1 = pl by omega] at this
              refine ⟨PS gg (pl - 1) t - PS gg pl t, at_of (j := pl - 1) (by omega) ?_, by rw [if_neg c0]; omega, by omega⟩
              rw [List.getElem?_append_left (by rw [List.length_map, heldV_len]; omega), List.getElem?_map, heldV_at (by omega), show pl - 1 + 1 = pl by omega] <;> rfl
          refine ⟨fun σ' H' => ∃ M : Int, σ' = [some (.ref p), some (.ref d), some (.ref x.c), some (.ref x.k), some (.ref x.s), some (.ref f), v6, some (.ref hl), some (.int W), some (.ref sl), some (.ref bl), some (.int (t : Nat)), some (.int (D.cs.getD t 0)), some (.ref bf), some (.int tk0), some (.int (pl : Int)), some (.int M0), some (.int M)] ∧ Same Hc H' ∧ M ≤ A ∧ M ≤ M0 ∧ 0 ≤ M, ?_, ?_⟩
          rotate_left
          · refine ⟨_, rfl, _, rfl, _, rfl, rfl, fun l1 H10 s10 n10 h10 => ?_⟩
            refine ⟨bf, l1, _, _, rfl, rfl, s10 _ _ hb8, h10, by rw [List.length_map, heldV_len, sizeLine_eq]; show _ + 1 ≤ _; omega, fun l2 H11 s11 n11 h11 => ?_⟩
            refine ⟨_, rfl, _, _, rfl, rfl, l2, _, (pl : Int) - 1, _, rfl, rfl, SqL.of h11, hA, _, _, rfl, ?_⟩
            refine ⟨_, rfl, s10.trans s11, ?_, ?_, ?_⟩ <;> split <;> omega
          rintro σ Hd ⟨M, rfl, scd, MA, MM0, M0'⟩
          have F8 : Fr p H1 Hd := F8.trans (.of scd)
          have B8 := B8.same scd
          have h8 := scd _ _ h8
          have hb8 := scd _ _ hb8
          have sl8 := scd _ _ sl8
          have bl8 := scd _ _ bl8
          have hD8 := hD1.fr hB1 F8
          have hk8 : SqL K Hd x.k (x.as.map V.ref) := Same.seq scd hk8
          have ep : ∀ {q : Nat}, q ≤ D.ks.length → q = pl + 1 → PS gg q (t + 1) = PS gg q t + tk0 ∧ 0 ≤ tk0 := fun {q} hq eq => by
            have l1 := len8 q hq
            rw [if_pos (by omega)] at l1
            have e1 := PS_succ (f := gg) (p := q) (t := t) (by omega)
            rw [if_neg (by omega), show D.ks.length + 1 - j = q by omega] at etk
            have := PS_mono (t := t) (nn8 q hq)
            omega
          refine ⟨fun σ' H' => ∃ (M' : Int) (L : List Int), σ' = [some (.ref p), some (.ref d), some (.ref x.c), some (.ref x.k), some (.ref x.s), some (.ref f), v6, some (.ref hl), some (.int W), some (.ref sl), some (.ref bl), some (.int (t : Nat)), some (.int (D.cs.getD t 0)), some (.ref bf), some (.int tk0), some (.int (pl : Int)), some (.int M0), some (.int M')] ∧ 0 ≤ M' ∧ M' ≤ M ∧ Fr p H1 H' ∧ BoxAt H' p (nb + 870 * u + 18 * t + 2 * j) ∧ H' hl = some (.lst (L.map V.int)) ∧ H' bf = some (.lst ((heldV D gg t).map V.int)) ∧ H' sl = some (.lst ((rowW D (PS gg) t j).map V.int)) ∧ H' bl = some (.lst ((rowW D (fun q t => tk D t q) t j).map V.int)) ∧ (pl < D.ks.length → L = (heldW D gg t j).set pl (PS gg pl t - PS gg (pl + 1) (t + 1)) ∧ M' ≤ (kt D pl).1 - (PS gg pl t - PS gg (pl + 1) (t + 1))) ∧ (¬ pl < D.ks.length → L = heldW D gg t j), ?_, ?_⟩
          rotate_left
          · refine ⟨_, rfl, _, rfl, x.k, _, rfl, .inl hk8, ?_⟩
            rw [List.length_map, hD.len]
            refine ⟨_, _, rfl, rfl, _, rfl, ?_⟩
            by_cases c : pl < D.ks.length
            · refine ite_bT (decide_eq_true (by omega)) ?_
              obtain ⟨e1, tk00⟩ := ep (q := pl + 1) (by omega) rfl
              have eh8 : ((heldW D gg t j).map V.int)[pl]? = some (.int (PS gg pl t - PS gg (pl + 1) t)) := by
                rw [List.getElem?_map, heldW_at c, if_neg (by omega)] <;> rfl
              refine ⟨_, rfl, _, rfl, hl, _, (pl : Int), _, rfl, rfl, SqL.of h8, at_of rfl eh8, _, rfl, _, _, rfl, rfl, _, rfl, _, rfl, hl, _, (pl : Int), pl, rfl, rfl, h8, ixN_d (by rw [List.length_map, heldW_len]; exact c), ?_⟩
              have eL : ((heldW D gg t j).map V.int).set pl (.int (PS gg pl t - PS gg (pl + 1) t - tk0)) = ((heldW D gg t j).set pl (PS gg pl t - PS gg (pl + 1) (t + 1))).map V.int := by
                rw [List.map_set, show PS gg pl t - PS gg (pl + 1) t - tk0 = PS gg pl t - PS gg (pl + 1) (t + 1) by omega]
              rw [eL]
              have FU : Fr p H1 (upd Hd hl (.lst (((heldW D gg t j).set pl (PS gg pl t - PS gg (pl + 1) (t + 1))).map V.int))) := F8.put' nhl1
              have BU := B8.upd (o := .lst (((heldW D gg t j).set pl (PS gg pl t - PS gg (pl + 1) (t + 1))).map V.int)) hlp
              have hU : (upd Hd hl (.lst (((heldW D gg t j).set pl (PS gg pl t - PS gg (pl + 1) (t + 1))).map V.int))) hl = some (.lst (((heldW D gg t j).set pl (PS gg pl t - PS gg (pl + 1) (t + 1))).map V.int)) := upd_same
              have bU : (upd Hd hl (.lst (((heldW D gg t j).set pl (PS gg pl t - PS gg (pl + 1) (t + 1))).map V.int))) bf = some (.lst ((heldV D gg t).map V.int)) := by rw [upd_ne bfl]; exact hb8
              have gU : (upd Hd hl (.lst (((heldW D gg t j).set pl (PS gg pl t - PS gg (pl + 1) (t + 1))).map V.int))) sl = some (.lst ((rowW D (PS gg) t j).map V.int)) := by rw [upd_ne hlsl.symm]; exact sl8
              have RU : (upd Hd hl (.lst (((heldW D gg t j).set pl (PS gg pl t - PS gg (pl + 1) (t + 1))).map V.int))) bl = some (.lst ((rowW D (fun q t => tk D t q) t j).map V.int)) := by rw [upd_ne hlbl.symm]; exact bl8
              generalize upd Hd hl (.lst (((heldW D gg t j).set pl (PS gg pl t - PS gg (pl + 1) (t + 1))).map V.int)) = HU at FU BU hU bU gU RU
              have hDU := hD1.fr hB1 FU
              have hkU : SqL K HU x.k (x.as.map V.ref) := by
                have z := hDU.ks
                rw [xk] at z
                exact z
              obtain ⟨ka, tk', b', gk, hka, hta⟩ := hDU.pot (j := pl) c
              have eU : (((heldW D gg t j).set pl (PS gg pl t - PS gg (pl + 1) (t + 1))).map V.int)[pl]? = some (.int (PS gg pl t - PS gg (pl + 1) (t + 1))) := by
                rw [List.getElem?_map, List.getElem?_set_self (by rw [heldW_len]; exact c)] <;> rfl
              refine ⟨_, rfl, _, rfl, _, rfl, x.k, _, _, _, rfl, rfl, hkU, at_of rfl gk, ka, _, 0, _, rfl, rfl, hka, at0, _, rfl, _, rfl, hl, _, (pl : Int), _, rfl, rfl, SqL.of hU, at_of rfl eU, _, _, rfl, rfl, _, _, rfl, ?_⟩
              have r1 := (N.ks _ (kt_mem c)).1
              have hr' := held_room (p := pl) (t := t) c (by omega) done8
              refine ⟨_, _, rfl, ?_, ?_, FU, BU, hU, bU, gU, RU, fun _ => ⟨rfl, ?_⟩, fun z => absurd c z⟩ <;> split <;> omega
            · refine ite_bF (decide_eq_false (by omega)) ?_
              exact ⟨M, heldW D gg t j, rfl, M0', Int.le_refl _, F8, B8, h8, hb8, sl8, bl8, fun z => absurd z c, fun _ => rfl⟩
          rintro σ He ⟨M', L, rfl, M0'', MM, F9, B9, h9, hb9, sl9, bl9, eL, eL'⟩
          -- how many it takes
          refine ⟨_, rfl, _, rfl, _, rfl, _, _, rfl, rfl, p, M' + 1, _, rfl, B9, by omega, by omega, by omega, fun z1 H10 z10 z11 B10 F10 => ?_⟩
          refine ⟨rfl, fun lv H12 s12 n12 h12 => ?_⟩
          have lvp : lv ≠ p := B10.new n12
          refine ⟨_, rfl, p, 2, _, rfl, B10.same s12, by omega, by decide, by decide, fun z2 H11 z20 z21 B11 F11 => ?_⟩
          obtain ⟨val, ev, v0, vM⟩ : ∃ val : Int, atI ([.int M', .int z1] : List V) z2 = some (.int val) ∧ 0 ≤ val ∧ val ≤ M' := by
            have cs : z2 = 0 ∨ z2 = 1 := by omega
            rcases cs with c | c <;> subst c
            · exact ⟨M', rfl, M0'', Int.le_refl _⟩
            · exact ⟨z1, rfl, z10, by omega⟩
          refine ⟨lv, _, z2, _, rfl, rfl, SqL.of (F11 _ _ lvp h12), ev, ?_⟩
          have F912 : Fr p He H11 := F10.trans ((Fr.of s12).trans F11)
          have F12 : Fr p H1 H11 := F9.trans F912
          have h12' := F912 _ _ hlp h9
          have hb12 := F912 _ _ bfp hb9
          have sl12 := F912 _ _ slp sl9
          have bl12 := F912 _ _ blp bl9
          have eApp := heldW_app (D := D) (g := gg) (pl := pl) (t := t) (j := j) (v := val) lpl len8
          refine ⟨fun σ' H' => σ' = [some (.ref p), some (.ref d), some (.ref x.c), some (.ref x.k), some (.ref x.s), some (.ref f), v6, some (.ref hl), some (.int W), some (.ref sl), some (.ref bl), some (.int (t : Nat)), some (.int (D.cs.getD t 0)), some (.ref bf), some (.int val), some (.int (pl : Int)), some (.int M0), some (.int M')] ∧ Fr p H1 H' ∧ BoxAt H' p (nb + 870 * u + 18 * t + 2 * (j + 1)) ∧ H' hl = some (.lst ((heldW D (appF gg pl val) t (j + 1)).map V.int)) ∧ H' bf = some (.lst ((heldV D gg t).map V.int)) ∧ H' sl = some (.lst ((rowW D (PS gg) t j).map V.int)) ∧ H' bl = some (.lst ((rowW D (fun q t => tk D t q) t j).map V.int)), ?_, ?_⟩
          rotate_left
          · have hk12 : SqL K H11 x.k (x.as.map V.ref) := by
              have z := (hD1.fr hB1 F12).ks
              rw [xk] at z
              exact z
            refine ⟨_, rfl, _, rfl, x.k, _, rfl, .inl hk12, ?_⟩
            rw [List.length_map, hD.len]
            refine ⟨_, _, rfl, rfl, _, rfl, ?_⟩
            by_cases c : pl < D.ks.length
            · refine ite_bT (decide_eq_true (by omega)) ?_
              obtain ⟨eL1, _⟩ := eL c
              subst eL1
              have eU : (((heldW D gg t j).set pl (PS gg pl t - PS gg (pl + 1) (t + 1))).map V.int)[pl]? = some (.int (PS gg pl t - PS gg (pl + 1) (t + 1))) := by
                rw [List.getElem?_map, List.getElem?_set_self (by rw [heldW_len]; exact c)] <;> rfl
              refine ⟨_, rfl, _, rfl, hl, _, (pl : Int), _, rfl, rfl, SqL.of h12', at_of rfl eU, _, rfl, _, _, rfl, rfl, _, rfl, _, rfl, hl, _, (pl : Int), pl, rfl, rfl, h12', ixN_d (by rw [List.length_map, List.length_set, heldW_len]; exact c), ?_⟩
              rw [if_pos c] at eApp
              have eS : (((heldW D gg t j).set pl (PS gg pl t - PS gg (pl + 1) (t + 1))).map V.int).set pl (.int (PS gg pl t - PS gg (pl + 1) (t + 1) + val)) = (heldW D (appF gg pl val) t (j + 1)).map V.int := by
                rw [eApp, ← List.map_set, List.set_set, show PS gg pl t - PS gg (pl + 1) (t + 1) + val = PS gg pl t + val - PS gg (pl + 1) (t + 1) by omega]
              rw [eS]
              exact ⟨rfl, F12.put' nhl1, (B11.upd hlp).mono (by omega), upd_same, by rw [upd_ne bfl]; exact hb12, by rw [upd_ne hlsl.symm]; exact sl12, by rw [upd_ne hlbl.symm]; exact bl12⟩
            · refine ite_bF (decide_eq_false (by omega)) ?_
              rw [if_neg c] at eApp
              rw [eL' c, ← eApp] at h12'
              exact ⟨rfl, F12, B11.mono (by omega), h12', hb12, sl12, bl12⟩
          rintro σ HU ⟨rfl, FU, BU, hU, bU, sU, tU⟩
          -- the sums
          have es1 : ((rowW D (PS gg) t j).map V.int)[pl]? = some (.int (PS gg pl t)) := by
            rw [List.getElem?_map, rowW_at hp, if_neg (by omega)] <;> rfl
          refine ⟨_, rfl, _, rfl, sl, _, (pl : Int), _, rfl, rfl, SqL.of sU, at_of rfl es1, _, rfl, _, _, rfl, rfl, _, rfl, _, rfl, sl, _, (pl : Int), pl, rfl, rfl, sU, ixN_d (by rw [List.length_map, rowW_len]; omega), ?_⟩
          have eS1 : ((rowW D (PS gg) t j).map V.int).set pl (.int (PS gg pl t + val)) = (rowW D (PS (appF gg pl val)) t (j + 1)).map V.int := by
            rw [← List.map_set, rowW_set (G := PS (appF gg pl val)) lpl (by rw [PS_new lenp]) fun q hq ne => by rw [PS_ne ne, PS_ne ne]]
          rw [eS1]
          have F13 : Fr p H1 (upd HU sl (.lst ((rowW D (PS (appF gg pl val)) t (j + 1)).map V.int))) := FU.put' nsl1
          have B13 := BU.upd (o := .lst ((rowW D (PS (appF gg pl val)) t (j + 1)).map V.int)) slp
          have s13 : (upd HU sl (.lst ((rowW D (PS (appF gg pl val)) t (j + 1)).map V.int))) sl = some (.lst ((rowW D (PS (appF gg pl val)) t (j + 1)).map V.int)) := upd_same
          have h13 : (upd HU sl (.lst ((rowW D (PS (appF gg pl val)) t (j + 1)).map V.int))) hl = some (.lst ((heldW D (appF gg pl val) t (j + 1)).map V.int)) := by rw [upd_ne hlsl]; exact hU
          have b13 : (upd HU sl (.lst ((rowW D (PS (appF gg pl val)) t (j + 1)).map V.int))) bf = some (.lst ((heldV D gg t).map V.int)) := by rw [upd_ne bfs]; exact bU
          have t13 : (upd HU sl (.lst ((rowW D (PS (appF gg pl val)) t (j + 1)).map V.int))) bl = some (.lst ((rowW D (fun q t => tk D t q) t j).map V.int)) := by rw [upd_ne slbl.symm]; exact tU
          generalize upd HU sl (.lst ((rowW D (PS (appF gg pl val)) t (j + 1)).map V.int)) = H13 at F13 B13 s13 h13 b13 t13
          obtain ⟨r, er⟩ : ∃ r, rs[pl]? = some r := ⟨rs[pl]'(by omega), List.getElem?_eq_getElem _⟩
          obtain ⟨hr1, nr, rf⟩ := rows pl r er
          have rp : r ≠ p := hB.new nr
          have hf13 := F13 _ _ fp hf1
          have hr13 := F13 _ _ rp hr1
          have eb1 : ((rowW D (fun q t => tk D t q) t j).map V.int)[pl]? = some (.int (tk D t pl)) := by
            rw [List.getElem?_map, rowW_at hp, if_neg (by omega)] <;> rfl
          refine ⟨_, rfl, _, rfl, bl, _, (pl : Int), _, rfl, rfl, SqL.of t13, at_of rfl eb1, _, rfl, _, rfl, f, _, (pl : Int), .ref r, rfl, rfl, SqL.of hf13, at_of rfl (show (rs.map V.ref)[pl]? = some (.ref r) by rw [List.getElem?_map, er] <;> rfl), _, rfl, r, _, (t : Int), _, rfl, rfl, SqL.of hr13, at_of (j := t) rfl (show ((rowI D pl).map V.int)[t]? = some (.int (tk D (t + 1) pl - tk D t pl)) by rw [List.getElem?_map, row_get ht] <;> rfl), _, _, rfl, rfl, _, rfl, _, rfl, bl, _, (pl : Int), pl, rfl, rfl, t13, ixN_d (by rw [List.length_map, rowW_len]; omega), ?_⟩
          have eS2 : ((rowW D (fun q t => tk D t q) t j).map V.int).set pl (.int (tk D t pl + (tk D (t + 1) pl - tk D t pl))) = (rowW D (fun q t => tk D t q) t (j + 1)).map V.int := by
            rw [← List.map_set, rowW_set (G := fun q t => tk D t q) lpl (by show _ = tk D (t + 1) pl; omega) fun q hq ne => rfl]
          rw [eS2]
          have F14 : Fr p H1 (upd H13 bl (.lst ((rowW D (fun q t => tk D t q) t (j + 1)).map V.int))) := F13.put' nbl1
          have B14 := B13.upd (o := .lst ((rowW D (fun q t => tk D t q) t (j + 1)).map V.int)) blp
          have t14 : (upd H13 bl (.lst ((rowW D (fun q t => tk D t q) t (j + 1)).map V.int))) bl = some (.lst ((rowW D (fun q t => tk D t q) t (j + 1)).map V.int)) := upd_same
          have h14 : (upd H13 bl (.lst ((rowW D (fun q t => tk D t q) t (j + 1)).map V.int))) hl = some (.lst ((heldW D (appF gg pl val) t (j + 1)).map V.int)) := by rw [upd_ne hlbl]; exact h13
          have b14 : (upd H13 bl (.lst ((rowW D (fun q t => tk D t q) t (j + 1)).map V.int))) bf = some (.lst ((heldV D gg t).map V.int)) := by rw [upd_ne bfb]; exact b13
          have s14 : (upd H13 bl (.lst ((rowW D (fun q t => tk D t q) t (j + 1)).map V.int))) sl = some (.lst ((rowW D (PS (appF gg pl val)) t (j + 1)).map V.int)) := by rw [upd_ne slbl]; exact s13
          generalize upd H13 bl (.lst ((rowW D (fun q t => tk D t q) t (j + 1)).map V.int)) = H14 at F14 B14 s14 h14 b14 t14
          have lenN : ∀ q, q ≤ D.ks.length → (appF gg pl val q).length = if D.ks.length < q + (j + 1) then t + 1 else t := fun q hq => by
            by_cases c : q = pl
            · subst c
              rw [appF_eq, List.length_append, if_pos (by omega), lenp] <;> rfl
            · rw [appF_ne c, len8 q hq]
              by_cases c2 : D.ks.length < q + j
              · rw [if_pos c2, if_pos (by omega)]
              · rw [if_neg c2, if_neg (by omega)]
          have doneN : ∀ pl' t', pl' ≤ D.ks.length → t' < t → PlAt D (appF gg pl val) pl' t' := fun pl' t' hp' lt =>
            (done8 pl' t' hp' lt).app hp' (by have := lent pl' hp'; omega) (fun q hq => by have := lent q hq; omega) fun z => by have := lent (pl' + 1) (by omega); omega
          have curN : ∀ pl', pl' ≤ D.ks.length → D.ks.length < pl' + (j + 1) → PlAt D (appF gg pl val) pl' t := fun pl' hp' lt => by
            by_cases c : pl' = pl
            · subst c
              refine ⟨?_, ?_, fun z => ?_⟩
              · rw [PS_new lenp]
                by_cases c0 : pl' = 0
                · rw [if_pos c0] at eA ⊢
                  omega
                · rw [if_neg c0] at eA ⊢
                  rw [PS_le (lent (pl' - 1) (by omega))]
                  omega
              · rw [PX_new lenp]
                unfold mayT at eM0
                omega
              · rw [PS_new lenp, PS_ne (by omega)]
                have := (eL z).2
                omega
            · exact (cur8 pl' hp' (by omega)).app hp' (by rw [len8 pl' hp', if_pos (by omega)]; omega) lent fun z => by rw [len8 (pl' + 1) (by omega), if_pos (by omega)]; omega
          have le := grown_le (D := D) (g := appF gg pl val) (t := t) (j := j + 1) k1 doneN curN lenN (t + 1) (D.ks.length - pl) pl (by omega) (by rw [if_pos (by omega)]; exact Nat.le_refl _)
          rw [PS_new lenp] at le
          have es2 : ((rowW D (PS (appF gg pl val)) t (j + 1)).map V.int)[pl]? = some (.int (PS gg pl t + val)) := by
            rw [List.getElem?_map, rowW_at hp, if_pos (by omega), PS_new lenp] <;> rfl
          have eb2 : ((rowW D (fun q t => tk D t q) t (j + 1)).map V.int)[pl]? = some (.int (tk D (t + 1) pl)) := by
            rw [List.getElem?_map, rowW_at hp, if_pos (by omega)] <;> rfl
          refine ⟨_, rfl, _, rfl, sl, _, (pl : Int), _, rfl, rfl, SqL.of s14, at_of rfl es2, _, rfl, _, rfl, bl, _, (pl : Int), _, rfl, rfl, SqL.of t14, at_of rfl eb2, _, _, rfl, rfl, _, rfl, ?_⟩
          refine ite_bF (decide_eq_false (by omega)) ?_
          refine ⟨appF gg pl val, W, val, _, _, _, _, rfl, F14, B14, h14, by rw [heldV_app lent]; exact b14, by rw [PS_le (lent 0 (Nat.zero_le _))]; exact eW8, s14, t14, lenN, fun q hq => ?_, doneN, curN, ?_⟩
          · by_cases c : q = pl
            · subst c
              rw [appF_eq]
              intro z hz
              rcases List.mem_append.mp hz with m | m
              · exact ldl8 q hq z m
              · rw [List.mem_singleton.mp m]
                omega
            · rw [appF_ne c]
              exact ldl8 q hq
          · rw [if_neg (Nat.succ_ne_zero _), show D.ks.length + 1 - (j + 1) = pl by omega, PX_new lenp]
        · clear v6 v11 v12 v13 v14 v15 v16 v17
          rintro σ Hc ⟨gg, W, tk0, v6, v15, v16, v17, rfl, F8, B8, h8, hb8, eW8, sl8, bl8, len8, ldl8, done8, cur8, etk⟩
          rw [eN] at h8 len8 cur8 etk B8 sl8 bl8
          rw [if_neg (Nat.succ_ne_zero _), Nat.sub_self] at etk
          refine ⟨_, rfl, _, rfl, _, _, rfl, rfl, ?_⟩
          have l0 := len8 0 (Nat.zero_le _)
          rw [if_pos (by omega)] at l0
          have e0 := PS_succ (f := gg) (p := 0) (t := t) (by omega)
          refine ⟨gg, _, _, _, _, _, _, _, _, _, rfl, F8, B8.mono (by omega), by rw [← heldW_all]; exact h8, by omega, by rw [← rowW_next]; exact sl8, by rw [← rowW_next]; exact bl8, fun q hq => by rw [len8 q hq, if_pos (by omega)], ldl8, fun pl t' hp lt => ?_⟩
          by_cases c : t' < t
          · exact done8 pl t' hp c
          · obtain rfl : t' = t := by omega
            exact cur8 pl hp (by omega)
      · rintro σ H9 ⟨g, wt, v6, v11, v12, v13, v14, v15, v16, v17, rfl, F9, B9, _⟩
        rw [List.length_map] at B9
        exact ⟨_, _, _, _, _, _, _, _, _, _, _, _, rfl, F9, B9.mono (by omega)⟩
    · rintro σ H2 ⟨v6, v7, v8, v9, v10, v11, v12, v13, v14, v15, v16, v17, rfl, F2, B2⟩
      exact q H2 (B2.mono (by omega)) ((Fr.of s1).trans F2)

end
end KR
namespace KR
open PySem PySem.Spec PyProof.Rows L2
section
variable {P : Program} {w : World} {K : PySem.W.Frag} {mg : Str → Option Value} {base : Heap}
theorem small_few {D : Dy} (h8 : D.cs.length * (D.ks.length + 1) ≤ 8) (w1 : ∀ u ∈ D.ss, u ≤ 2) (w2 : ∀ k ∈ D.ks, (∀ u ∈ k.2, u ≤ 2) ∧ k.1 ≤ 6) : Few D 2 :=
  ⟨w1, fun k hk => (w2 k hk).1, Nat.le_trans (Nat.pow_le_pow_right (by decide) h8) (by decide), by decide⟩
theorem wider_ks {D : Dy} {i : Nat} (hi : i ≤ D.ks.length) {k : Int × List Int} (hk : k ∈ (widerD D i).ks) : k ∈ D.ks ∨ ∃ k' ∈ D.ks, k = (k'.1 + 1, k'.2.map (· + 1)) := by
  unfold widerD at hk
  split at hk
  · exact .inl hk
  · rename_i c
    rcases List.mem_or_eq_of_mem_set hk with m | m
    · exact .inl m
    · refine .inr ⟨kt D i, ?_, m⟩
      unfold kt
      rw [List.getD_eq_getElem?_getD, List.getElem?_eq_getElem (by omega)]
      exact List.getElem_mem (by omega)
theorem wider_ss {D : Dy} {i : Nat} {u : Int} (hu : u ∈ (widerD D i).ss) : u ∈ D.ss ∨ ∃ v ∈ D.ss, u = v + 1 := by
  unfold widerD at hu
  split at hu
  · obtain ⟨v, hv, e⟩ := List.mem_map.mp hu
    exact .inr ⟨v, hv, e.symm⟩
  · exact .inl hu
theorem wider_few {D : Dy} {i : Nat} (hi : i ≤ D.ks.length) (h6 : D.cs.length * (D.ks.length + 1) ≤ 6) (w1 : ∀ u ∈ D.ss, u ≤ 2) (w2 : ∀ k ∈ D.ks, (∀ u ∈ k.2, u ≤ 2) ∧ k.1 ≤ 6) : Few (widerD D i) 3 := by
  refine ⟨fun u hu => ?_, fun k hk u hu => ?_, ?_, by decide⟩
  · rcases wider_ss hu with m | ⟨v, m, rfl⟩
    · have := w1 u m
      omega
    · have := w1 v m
      omega
  · rcases wider_ks hi hk with m | ⟨k', m, rfl⟩
    · have := (w2 k m).1 u hu
      omega
    · obtain ⟨v, hv, rfl⟩ := List.mem_map.mp hu
      have := (w2 k' m).1 v hv
      omega
  · rw [wider_cs, wider_kl]
    exact Nat.le_trans (Nat.pow_le_pow_right (by decide) h6) (by decide)
theorem wider_nn {D : Dy} {i : Nat} (hi : i ≤ D.ks.length) (N : DyNn D) (w1 : ∀ u ∈ D.ss, u ≤ 2) (w2 : ∀ k ∈ D.ks, (∀ u ∈ k.2, u ≤ 2) ∧ k.1 ≤ 6) : DyNn (widerD D i) := by
  refine ⟨by rw [wider_cs]; exact N.cs, fun k hk => ?_, fun u hu => ?_⟩
  · rcases wider_ks hi hk with m | ⟨k', m, rfl⟩
    · exact N.ks k m
    · obtain ⟨a, b, c⟩ := N.ks k' m
      refine ⟨by show 1 ≤ k'.1 + 1; omega, by show k'.1 + 1 ≤ 1000000; have := (w2 k' m).2; omega, fun u hu => ?_⟩
      obtain ⟨v, hv, rfl⟩ := List.mem_map.mp hu
      have := (w2 k' m).1 v hv
      have := (c v hv).1
      omega
  · rcases wider_ss hu with m | ⟨v, m, rfl⟩
    · exact N.ss u m
    · have := w1 v m
      have := (N.ss v m).1
      omega
def sp_p_law (K : PySem.W.Frag) (Ps : List Addr) : Sp := fun vs H Q _ => ∃ (a : Addr) (ns : List Int), vs = [.ref a] ∧ SqL K H a (ns.map V.int) ∧ ns.length ≤ 63 ∧ Tbs Ps H ∧ ∀ H', Q (.bl true) H'
theorem ok_p_law (T : All K mg) (B : Tabs T base) : FnOk P w K mg base CX0 7 T.f_p_law T.fd_p_law ["_law_script"] (sp_p_law K T.Ps) := by
  refine T.d_p_law.fn.ok sc_p_law (fun vs H Q E h => ?_) (fun cdv A outer s H vs Q E hr h => ?_)
  · obtain ⟨a, ns, rfl, _⟩ := h
    rfl
  · obtain ⟨a, ns, rfl, hS, hlen, hT, q⟩ := h
    refine ⟨_, (pss_cons (ps_for PassesOwn.never rfl (pi_range1 (by rfl) T.b_range (pa_cons (pe_callB (call_max2 rfl) (by rfl) T.b_max (by decide +kernel) (pa_cons pe_int (pa_cons (pe_callB (call_min2 rfl) (by rfl) T.b_min (by decide +kernel) (pa_cons (pe_callB (lenQ (K := K) rfl) (by rfl) T.b_len PySem.boot_len (pa_cons (pv 0) pa_nil)) (pa_cons pe_int pa_nil))) pa_nil))) pa_nil)) (pg_name (i := 1) sc_p_law.nd rfl (by first | exact Or.inl rfl | exact Or.inr rfl)) (pss_cons (ps_set (i := 2) sc_p_law.nd rfl (by first | exact Or.inl rfl | exact Or.inr rfl) (pe_call (ok_l_box T) (hr.mono (by decide)) (by rfl) T.d_l_box.mg T.d_l_box.fn.kp T.d_l_box.b .nil pass0 (pa_cons (pv 0) (pa_cons (pv 1) pa_nil))))
      (pss_cons (ps_set (i := 3) sc_p_law.nd rfl (by first | exact Or.inl rfl | exact Or.inr rfl) (pe_call (ok_l_small_day T) (hr.mono (by decide)) (by rfl) T.d_l_small_day.mg T.d_l_small_day.fn.kp T.d_l_small_day.b .nil pass0 (pa_cons (pv 2) pa_nil)))
      (pss_cons (ps_if (pt_not (pt_val (pe_call (ok_l_small_right T B) hr (by rfl) T.d_l_small_right.mg T.d_l_small_right.fn.kp T.d_l_small_right.b .nil pass0 (pa_cons (pv 2) (pa_cons (pv 3) pa_nil))))) (pss_one (ps_ret pe_bl)) pss_nil)
      (pss_cons (ps_J (ps_if (pt_cmpR op_lt (pe_callB (lenA (K := K) rfl) (by rfl) T.b_len PySem.boot_len (pa_cons (pe_ix (ixT (K := K) rfl) (pv 3) pe_int (fun _ _ => rfl)) pa_nil)) pe_int (nomark _)) (pss_cons (ps_setLc (i := 4) (own := [("_law_place", 5)]) (g := gName 5) (by rfl) sc_p_law.nd rfl rfl (sw_true rfl rfl rfl (by decide +kernel)) (pi_range1 (by rfl) T.b_range (pa_cons (pe_op op_add (pe_callB (lenA (K := K) rfl) (by rfl) T.b_len PySem.boot_len (pa_cons (pe_ix (ixT (K := K) rfl) (pv 3) pe_int (fun _ _ => rfl)) pa_nil)) pe_int) pa_nil)) (blkOk_by (own := [("_law_place", 5)]) (N := ["_law_script", "_law_k", "_law_box_here", "_law_day_here", "_law_due", "_law_place", "_law_hours", "_law_pots", "_law_great"]) (sc := defScope s_p_law) (by decide +kernel)) (fun _ _ _ _ _ => (pg_name (i := 5) sc_p_law.nd rfl (by first | exact Or.inl rfl | exact Or.inr rfl))) (fun _ _ _ _ _ => (pts_one (pt_val (pe_call (ok_l_binds T) (hr.mono (by decide)) (by rfl) T.d_l_binds.mg T.d_l_binds.fn.kp T.d_l_binds.b .nil pass0 (pa_cons (pv 3) (pa_cons (pv 5) pa_nil)))))) (fun _ _ _ _ _ => (pv 5)))
      (pss_one (ps_if (pt_cmpR (neDK (K := K) rfl hr.units) (pe_call (ok_p_binding_places T) (hr.mono (by decide)) (by rfl) T.d_p_binding_places.mg T.d_p_binding_places.fn.kp T.d_p_binding_places.b .nil pass0 (pa_cons (pv 3) pa_nil)) (pv 4) (nomark _)) (pss_one (ps_ret pe_bl)) pss_nil))) pss_nil))
      (pss_cons (ps_par (i := 6) (j := 7) (by rfl) sc_p_law.nd rfl rfl (by decide) rfl rfl (pa_cons (pe_ix (ixL (K := K) rfl) (pe_lstI (pa_cons pe_int (pa_cons pe_int (pa_cons pe_int pa_nil)))) (pe_call (ok_l_take T) (hr.mono (by decide)) (by rfl) T.d_l_take.mg T.d_l_take.fn.kp T.d_l_take.b .nil pass0 (pa_cons (pv 2) (pa_cons pe_int pa_nil))) (fun _ _ => rfl)) (pa_cons (pe_op op_add pe_int (pe_call (ok_l_take T) (hr.mono (by decide)) (by rfl) T.d_l_take.mg T.d_l_take.fn.kp T.d_l_take.b .nil pass0 (pa_cons (pv 2) (pa_cons pe_int pa_nil)))) pa_nil)) (by rfl))
      (pss_cons (ps_set (i := 8) sc_p_law.nd rfl (by first | exact Or.inl rfl | exact Or.inr rfl) (pe_call (ok_l_day T) (hr.mono (by decide)) (by rfl) T.d_l_day.mg T.d_l_day.fn.kp T.d_l_day.b .nil pass0 (pa_cons (pv 2) (pa_cons (pv 6) (pa_cons (pv 7) (pa_cons (pe_ix (ixL (K := K) rfl) (pe_lstI (pa_cons pe_int (pa_cons pe_int (pa_cons (pe_op op_pow pe_int pe_int) pa_nil)))) (pe_call (ok_l_take T) (hr.mono (by decide)) (by rfl) T.d_l_take.mg T.d_l_take.fn.kp T.d_l_take.b .nil pass0 (pa_cons (pv 2) (pa_cons pe_int pa_nil))) (fun _ _ => rfl)) pa_nil))))))
      (pss_one (ps_if (pt_not (pt_val (pe_call (ok_l_great_right T) (hr.mono (by decide)) (by rfl) T.d_l_great_right.mg T.d_l_great_right.fn.kp T.d_l_great_right.b .nil pass0 (pa_cons (pv 2) (pa_cons (pv 8) pa_nil))))) (pss_one (ps_ret pe_bl)) pss_nil)))))))))
      (pss_one (ps_ret pe_bl))), ?_⟩
    refine ⟨_, rfl, a, _, rfl, .inl hS, _, _, rfl, _, _, rfl, ?_⟩
    rw [List.length_map]
    obtain ⟨m, em, m1⟩ : ∃ m : Nat, (if (if (3 : Int) < (ns.length : Int) then (3 : Int) else (ns.length : Int)) > 2 then (if (3 : Int) < (ns.length : Int) then (3 : Int) else (ns.length : Int)) else 2) = (m : Int) ∧ m ≤ 3 := by
      refine ⟨(if (if (3 : Int) < (ns.length : Int) then (3 : Int) else (ns.length : Int)) > 2 then (if (3 : Int) < (ns.length : Int) then (3 : Int) else (ns.length : Int)) else 2).toNat, ?_, ?_⟩ <;> split <;> split <;> omega
    refine ⟨_, rfl, ?_⟩
    rw [em]
    refine ⟨by omega, by omega, for_range (lo := 0) (n := m) (fun i σ H' => ∃ v1 v2 v3 v4 v5 v6 v7 v8 : Option V, σ = [some (.ref a), v1, v2, v3, v4, v5, v6, v7, v8] ∧ Sm H H')
      ⟨none, none, none, none, none, none, none, none, rfl, .refl⟩ ?_ ?_⟩
    · rintro i σ H0 hi ⟨v1, v2, v3, v4, v5, v6, v7, v8, rfl, s0⟩
      rw [Int.zero_add]
      refine ⟨_, rfl, _, rfl, a, ns, (i : Int), rfl, s0.seq hS, by omega, by omega, fun p H1 s1 n1 B1 => ?_⟩
      refine ⟨_, rfl, p, 0, rfl, B1, by decide, fun d x D H2 hD2 xc xk xs O N h8 h6 w1 w2 B2 F2 => ?_⟩
      have k1 := O.k1
      have k2 := O.k2
      have hh1 := O.h1
      have hh2 := O.h2
      have few := small_few h8 w1 w2
      have hT1 : Tbs T.Ps H1 := (hT.sm s0).same s1
      have hT2 : Tbs T.Ps H2 := hT1.fr B1 F2
      refine ⟨_, rfl, _, rfl, p, d, _, x, D, rfl, B2, by decide, hD2, O, N, ⟨2, few⟩, hT2, fun H3 B3 F3 => ⟨_, rfl, iteF ?_⟩⟩
      have hD3 := hD2.fs B2 F3
      have F13 : Fs p H1 H3 := (Fs.of F2).trans F3
      refine ⟨fun σ' H' => ∃ v4 v5 : Option V, σ' = [some (.ref a), some (.int (i : Int)), some (.ref p), some (.ref d), v4, v5, v6, v7, v8] ∧ Same H3 H', ?_, ?_⟩
      rotate_left
      · refine ⟨_, rfl, d, _, 0, _, rfl, rfl, hD3.at_, at0, _, _, rfl, lenV_b hD3.cs.1, ?_⟩
        rw [List.length_map]
        refine ⟨_, _, rfl, rfl, _, rfl, ?_⟩
        by_cases c : D.cs.length < 4
        · refine ite_bT (decide_eq_true (by omega)) ?_
          refine ⟨_, rfl, d, _, 1, _, rfl, rfl, hD3.at_, at1, _, _, rfl, lenV_b hD3.ks, ?_⟩
          rw [List.length_map, hD2.len]
          refine ⟨_, _, rfl, rfl, _, rfl, by omega, by omega, fun F hF => ?_⟩
          have eM : ((D.ks.length : Int) + 1).toNat = D.ks.length + 1 := by omega
          obtain ⟨op, hp3⟩ := B3.some
          refine lc_range (lo := 0) (n := ((D.ks.length : Int) + 1).toNat) (fun i H' => Same H3 H' ∧ H' F = some (.lst ((((List.range i).filter fun p => decide (mostD D < mostD (widerD D p))).map fun p : Nat => (p : Int)).map V.int)))
            ⟨same_new hF, upd_same⟩ (fun j H4 hj z => ?_) (fun H4 z => ?_)
          · obtain ⟨s4, hF4⟩ := z
            rw [eM] at hj
            rw [Int.zero_add]
            refine ⟨rfl, ?_⟩
            refine ⟨_, rfl, _, rfl, p, d, x, D, j, rfl, hD3.same s4, ⟨op, s4 _ _ hp3⟩, xk, O, N, ⟨2, few⟩, by omega, wider_nn (by omega) N w1 w2, ⟨3, wider_few (by omega) (h6 c) w1 w2⟩, fun H5 s5 => ?_⟩
            refine ⟨_, rfl, ?_⟩
            have fl : ((List.range j).filter fun p => decide (mostD D < mostD (widerD D p))).length ≤ j := by
              have := List.length_filter_le (fun p => decide (mostD D < mostD (widerD D p))) (List.range j)
              rw [List.length_range] at this
              exact this
            by_cases c2 : mostD D < mostD (widerD D j)
            · refine ite_bT (decide_eq_true c2) ?_
              refine ⟨_, rfl, _, s5 _ _ hF4, by rw [List.length_map, List.length_map]; exact small' (by omega), Same.put (s4.trans s5) hF, ?_⟩
              rw [upd_same, List.range_succ, List.filter_append, List.filter_cons, if_pos (decide_eq_true c2), List.map_append, List.map_append] <;> rfl
            · refine ite_bF (decide_eq_false c2) ?_
              refine ⟨s4.trans s5, ?_⟩
              rw [s5 _ _ hF4, List.range_succ, List.filter_append, List.filter_cons, if_neg (by rw [decide_eq_false c2]; exact Bool.false_ne_true), List.filter_nil, List.append_nil]
          · obtain ⟨s4, hF4⟩ := z
            rw [eM] at hF4
            have hF4 : H4 F = some (.lst ((bindI D).map V.int)) := hF4
            refine ⟨_, rfl, p, d, x, D, rfl, hD3.same s4, ⟨_, s4 _ _ hp3⟩, O, fun gg H5 s5 n5 hgg => ?_⟩
            refine ⟨_, rfl, din (bindI D), din (bindI D), din_at hgg, din_at (s5 _ _ hF4), din_shaped _, din_shaped _, ?_⟩
            rw [SeqAt.eqv_refl _ (SeqAt.canLay_of_shaped (din_shaped _))]
            refine ⟨_, rfl, iteF ?_⟩
            exact ⟨_, _, rfl, s4.trans s5⟩
        · refine ite_bF (decide_eq_false (by omega)) ?_
          exact ⟨_, _, rfl, .refl _⟩
      clear v4 v5
      rintro σ H4 ⟨v4, v5, rfl, s4⟩
      have F14 : Fs p H1 H4 := F13.trans (.sm (.of s4))
      have B4 := B3.same s4
      refine ⟨rfl, fun l1 H5 s5 n5 h5 => ?_⟩
      have l1p := B4.new n5
      have B5 := B4.same s5
      refine ⟨_, rfl, p, 3, _, rfl, B5, by omega, by decide, by decide, fun y H6 y0 y1 B6 F6 => ?_⟩
      obtain ⟨hh, eh, hha, hhb⟩ : ∃ hh : Nat, atI ([.int 5, .int 24, .int 48] : List V) y = some (.int (hh : Int)) ∧ 1 ≤ hh ∧ hh ≤ 48 := by
        have cs : y = 0 ∨ y = 1 ∨ y = 2 := by omega
        rcases cs with e | e | e <;> subst e
        · exact ⟨5, rfl, by decide, by decide⟩
        · exact ⟨24, rfl, by decide, by decide⟩
        · exact ⟨48, rfl, by decide, by decide⟩
      refine ⟨l1, _, y, _, rfl, rfl, SqL.of (F6 _ _ l1p h5), eh, ?_⟩
      refine ⟨_, rfl, p, 8, _, rfl, B6, by omega, by decide, by decide, fun z H7 z0 z1 B7 F7 => ?_⟩
      obtain ⟨kn, rfl⟩ : ∃ kn : Nat, z = (kn : Int) := ⟨z.toNat, by omega⟩
      refine ⟨_, _, rfl, rfl, _, _, rfl, ?_⟩
      refine ⟨_, rfl, _, rfl, _, rfl, _, _, rfl, rfl, ⟨by decide, by decide, by decide⟩, rfl, fun l2 H8 s8 n8 h8' => ?_⟩
      have l2p := B7.new n8
      refine ⟨_, rfl, p, 3, _, rfl, B7.same s8, by omega, by decide, by decide, fun y2 H9 y20 y21 B9 F9 => ?_⟩
      obtain ⟨mm, emm, mm0, mm1⟩ : ∃ m : Int, atI ([.int 3, .int 20, .int (10 ^ (6 : Int).toNat)] : List V) y2 = some (.int m) ∧ 1 ≤ m ∧ m ≤ 1000000 := by
        have cs : y2 = 0 ∨ y2 = 1 ∨ y2 = 2 := by omega
        rcases cs with e | e | e <;> subst e
        · exact ⟨3, rfl, by decide, by decide⟩
        · exact ⟨20, rfl, by decide, by decide⟩
        · exact ⟨10 ^ (6 : Int).toNat, rfl, by decide, by decide⟩
      refine ⟨l2, _, y2, _, rfl, rfl, SqL.of (F9 _ _ l2p h8'), emm, p, _, hh, 1 + kn, mm, rfl, B9, by omega, hha, hhb, by omega, by omega, mm0, mm1, fun dg xg Dg Ha hDg Og Ng e1 e2 f1 f2 gc gk gs Ba Fa => ?_⟩
      refine ⟨_, rfl, _, rfl, p, dg, _, xg, Dg, rfl, Ba, by omega, hDg, gc, gk, Og, Ng, fun Hz Bz Fz => ⟨_, rfl, iteF ?_⟩⟩
      refine ⟨_, _, _, _, _, _, _, _, rfl, s0.trans (sm_new_fs s1 n1 (F14.trans ?_))⟩
      exact .of ((Fr.of s5).trans (F6.trans (F7.trans ((Fr.of s8).trans (F9.trans (Fa.trans Fz))))))
    · rintro σ H0 ⟨v1, v2, v3, v4, v5, v6, v7, v8, rfl, s0⟩
      exact q H0

end
end KR
namespace KR
open PySem PySem.Spec PyProof.Rows L2
theorem all_mk {l : PySem.W.OpenLaw} {w : World} {K : PySem.W.Frag} {h : Heap} {mg : Str → Option Value} {fa : Addr} (X : K.In h) (G : h.Ns mainGlobals mg) (hfa : mg "law" = some (.ref fa))
    {od0 an0 : Option Addr} {sl0 : Array (Option Value)} {oc0 kV0 dc0 pm0 cd0 ct0 : Value} {f0 : Addr}
    (a0 : PySem.W.nsIn K mainGlobals "places_in" = some (some (.ref f0))) (l0 : K.lookup f0 = some ⟨oc0, od0, .func (PySem.W.fnOf "places_in" "places_in" (defArgs s_p_places_in) (defBody s_p_places_in) (defScope s_p_places_in) .none kV0 dc0 pm0 an0 cd0 ct0), sl0⟩) (c0 : PySem.W.codeIn K cd0 "places_in" = true) (k0 : PySem.W.keepIn K (.ref f0) = true)
    {od1 an1 : Option Addr} {sl1 : Array (Option Value)} {oc1 kV1 dc1 pm1 cd1 ct1 : Value} {f1 : Addr}
    (a1 : PySem.W.nsIn K mainGlobals "hours_in" = some (some (.ref f1))) (l1 : K.lookup f1 = some ⟨oc1, od1, .func (PySem.W.fnOf "hours_in" "hours_in" (defArgs s_p_hours_in) (defBody s_p_hours_in) (defScope s_p_hours_in) .none kV1 dc1 pm1 an1 cd1 ct1), sl1⟩) (c1 : PySem.W.codeIn K cd1 "hours_in" = true) (k1 : PySem.W.keepIn K (.ref f1) = true)
    {od2 an2 : Option Addr} {sl2 : Array (Option Value)} {oc2 kV2 dc2 pm2 cd2 ct2 : Value} {f2 : Addr}
    (a2 : PySem.W.nsIn K mainGlobals "end_of" = some (some (.ref f2))) (l2 : K.lookup f2 = some ⟨oc2, od2, .func (PySem.W.fnOf "end_of" "end_of" (defArgs s_p_end_of) (defBody s_p_end_of) (defScope s_p_end_of) .none kV2 dc2 pm2 an2 cd2 ct2), sl2⟩) (c2 : PySem.W.codeIn K cd2 "end_of" = true) (k2 : PySem.W.keepIn K (.ref f2) = true)
    {od3 an3 : Option Addr} {sl3 : Array (Option Value)} {oc3 kV3 dc3 pm3 cd3 ct3 : Value} {f3 : Addr}
    (a3 : PySem.W.nsIn K mainGlobals "bounds_at" = some (some (.ref f3))) (l3 : K.lookup f3 = some ⟨oc3, od3, .func (PySem.W.fnOf "bounds_at" "bounds_at" (defArgs s_p_bounds_at) (defBody s_p_bounds_at) (defScope s_p_bounds_at) .none kV3 dc3 pm3 an3 cd3 ct3), sl3⟩) (c3 : PySem.W.codeIn K cd3 "bounds_at" = true) (k3 : PySem.W.keepIn K (.ref f3) = true)
    {od4 an4 : Option Addr} {sl4 : Array (Option Value)} {oc4 kV4 dc4 pm4 cd4 ct4 : Value} {f4 : Addr}
    (a4 : PySem.W.nsIn K mainGlobals "reached" = some (some (.ref f4))) (l4 : K.lookup f4 = some ⟨oc4, od4, .func (PySem.W.fnOf "reached" "reached" (defArgs s_p_reached) (defBody s_p_reached) (defScope s_p_reached) .none kV4 dc4 pm4 an4 cd4 ct4), sl4⟩) (c4 : PySem.W.codeIn K cd4 "reached" = true) (k4 : PySem.W.keepIn K (.ref f4) = true)
    {od5 an5 : Option Addr} {sl5 : Array (Option Value)} {oc5 kV5 dc5 pm5 cd5 ct5 : Value} {f5 : Addr}
    (a5 : PySem.W.nsIn K mainGlobals "most_plan" = some (some (.ref f5))) (l5 : K.lookup f5 = some ⟨oc5, od5, .func (PySem.W.fnOf "most_plan" "most_plan" (defArgs s_p_most_plan) (defBody s_p_most_plan) (defScope s_p_most_plan) .none kV5 dc5 pm5 an5 cd5 ct5), sl5⟩) (c5 : PySem.W.codeIn K cd5 "most_plan" = true) (k5 : PySem.W.keepIn K (.ref f5) = true)
    {od6 an6 : Option Addr} {sl6 : Array (Option Value)} {oc6 kV6 dc6 pm6 cd6 ct6 : Value} {f6 : Addr}
    (a6 : PySem.W.nsIn K mainGlobals "first_hour" = some (some (.ref f6))) (l6 : K.lookup f6 = some ⟨oc6, od6, .func (PySem.W.fnOf "first_hour" "first_hour" (defArgs s_p_first_hour) (defBody s_p_first_hour) (defScope s_p_first_hour) .none kV6 dc6 pm6 an6 cd6 ct6), sl6⟩) (c6 : PySem.W.codeIn K cd6 "first_hour" = true) (k6 : PySem.W.keepIn K (.ref f6) = true)
    {od7 an7 : Option Addr} {sl7 : Array (Option Value)} {oc7 kV7 dc7 pm7 cd7 ct7 : Value} {f7 : Addr}
    (a7 : PySem.W.nsIn K mainGlobals "most_struck" = some (some (.ref f7))) (l7 : K.lookup f7 = some ⟨oc7, od7, .func (PySem.W.fnOf "most_struck" "most_struck" (defArgs s_p_most_struck) (defBody s_p_most_struck) (defScope s_p_most_struck) .none kV7 dc7 pm7 an7 cd7 ct7), sl7⟩) (c7 : PySem.W.codeIn K cd7 "most_struck" = true) (k7 : PySem.W.keepIn K (.ref f7) = true)
    {od8 an8 : Option Addr} {sl8 : Array (Option Value)} {oc8 kV8 dc8 pm8 cd8 ct8 : Value} {f8 : Addr}
    (a8 : PySem.W.nsIn K mainGlobals "binding_places" = some (some (.ref f8))) (l8 : K.lookup f8 = some ⟨oc8, od8, .func (PySem.W.fnOf "binding_places" "binding_places" (defArgs s_p_binding_places) (defBody s_p_binding_places) (defScope s_p_binding_places) .none kV8 dc8 pm8 an8 cd8 ct8), sl8⟩) (c8 : PySem.W.codeIn K cd8 "binding_places" = true) (k8 : PySem.W.keepIn K (.ref f8) = true)
    {od9 an9 : Option Addr} {sl9 : Array (Option Value)} {oc9 kV9 dc9 pm9 cd9 ct9 : Value} {f9 : Addr}
    (a9 : PySem.W.nsIn K mainGlobals "_most_taken" = some (some (.ref f9))) (l9 : K.lookup f9 = some ⟨oc9, od9, .func (PySem.W.fnOf "_most_taken" "_most_taken" (defArgs s_p__most_taken) (defBody s_p__most_taken) (defScope s_p__most_taken) .none kV9 dc9 pm9 an9 cd9 ct9), sl9⟩) (c9 : PySem.W.codeIn K cd9 "_most_taken" = true) (k9 : PySem.W.keepIn K (.ref f9) = true)
    {od10 an10 : Option Addr} {sl10 : Array (Option Value)} {oc10 kV10 dc10 pm10 cd10 ct10 : Value} {f10 : Addr}
    (a10 : PySem.W.nsIn K mainGlobals "_most" = some (some (.ref f10))) (l10 : K.lookup f10 = some ⟨oc10, od10, .func (PySem.W.fnOf "_most" "_most" (defArgs s_p__most) (defBody s_p__most) (defScope s_p__most) .none kV10 dc10 pm10 an10 cd10 ct10), sl10⟩) (c10 : PySem.W.codeIn K cd10 "_most" = true) (k10 : PySem.W.keepIn K (.ref f10) = true)
    {od11 an11 : Option Addr} {sl11 : Array (Option Value)} {oc11 kV11 dc11 pm11 cd11 ct11 : Value} {f11 : Addr}
    (a11 : PySem.W.nsIn K mainGlobals "_tight_bound" = some (some (.ref f11))) (l11 : K.lookup f11 = some ⟨oc11, od11, .func (PySem.W.fnOf "_tight_bound" "_tight_bound" (defArgs s_p__tight_bound) (defBody s_p__tight_bound) (defScope s_p__tight_bound) .none kV11 dc11 pm11 an11 cd11 ct11), sl11⟩) (c11 : PySem.W.codeIn K cd11 "_tight_bound" = true) (k11 : PySem.W.keepIn K (.ref f11) = true)
    {od12 an12 : Option Addr} {sl12 : Array (Option Value)} {oc12 kV12 dc12 pm12 cd12 ct12 : Value} {f12 : Addr}
    (a12 : PySem.W.nsIn K mainGlobals "_widened" = some (some (.ref f12))) (l12 : K.lookup f12 = some ⟨oc12, od12, .func (PySem.W.fnOf "_widened" "_widened" (defArgs s_p__widened) (defBody s_p__widened) (defScope s_p__widened) .none kV12 dc12 pm12 an12 cd12 ct12), sl12⟩) (c12 : PySem.W.codeIn K cd12 "_widened" = true) (k12 : PySem.W.keepIn K (.ref f12) = true)
    {od13 an13 : Option Addr} {sl13 : Array (Option Value)} {oc13 kV13 dc13 pm13 cd13 ct13 : Value} {f13 : Addr}
    (a13 : PySem.W.nsIn K mainGlobals "is_number" = some (some (.ref f13))) (l13 : K.lookup f13 = some ⟨oc13, od13, .func (PySem.W.fnOf "is_number" "is_number" (defArgs s_p_is_number) (defBody s_p_is_number) (defScope s_p_is_number) .none kV13 dc13 pm13 an13 cd13 ct13), sl13⟩) (c13 : PySem.W.codeIn K cd13 "is_number" = true) (k13 : PySem.W.keepIn K (.ref f13) = true)
    {od14 an14 : Option Addr} {sl14 : Array (Option Value)} {oc14 kV14 dc14 pm14 cd14 ct14 : Value} {f14 : Addr}
    (a14 : PySem.W.nsIn K mainGlobals "shows_most" = some (some (.ref f14))) (l14 : K.lookup f14 = some ⟨oc14, od14, .func (PySem.W.fnOf "shows_most" "shows_most" (defArgs s_p_shows_most) (defBody s_p_shows_most) (defScope s_p_shows_most) .none kV14 dc14 pm14 an14 cd14 ct14), sl14⟩) (c14 : PySem.W.codeIn K cd14 "shows_most" = true) (k14 : PySem.W.keepIn K (.ref f14) = true)
    {od15 an15 : Option Addr} {sl15 : Array (Option Value)} {oc15 kV15 dc15 pm15 cd15 ct15 : Value} {f15 : Addr}
    (a15 : PySem.W.nsIn K mainGlobals "_is_bound_of" = some (some (.ref f15))) (l15 : K.lookup f15 = some ⟨oc15, od15, .func (PySem.W.fnOf "_is_bound_of" "_is_bound_of" (defArgs s_p__is_bound_of) (defBody s_p__is_bound_of) (defScope s_p__is_bound_of) .none kV15 dc15 pm15 an15 cd15 ct15), sl15⟩) (c15 : PySem.W.codeIn K cd15 "_is_bound_of" = true) (k15 : PySem.W.keepIn K (.ref f15) = true)
    {od16 an16 : Option Addr} {sl16 : Array (Option Value)} {oc16 kV16 dc16 pm16 ct16 : Value} {f16 C16 P16 : Addr}
    (a16 : PySem.W.nsIn K mainGlobals "shows_plan" = some (some (.ref f16))) (l16 : K.lookup f16 = some ⟨oc16, od16, .func (PySem.W.fnOf "shows_plan" "shows_plan" (defArgs s_p_shows_plan) (defBody s_p_shows_plan) (defScope s_p_shows_plan) .none kV16 dc16 pm16 an16 (.ref C16) ct16), sl16⟩) (c16 : PySem.W.codeIn K (.ref C16) "shows_plan" = true) (k16 : PySem.W.keepIn K (.ref f16) = true)
    {te16 : Value} {td16 : Option Addr} {tv16 : Array Value} {ts16 : Array (Option Value)} (q16 : K.lookup C16 = some ⟨te16, td16, .fields tv16, ts16⟩) (p16 : tv16[11]? = some (.ref P16)) (n16 : K.lookup P16 = none)
    {od17 an17 : Option Addr} {sl17 : Array (Option Value)} {oc17 kV17 dc17 pm17 cd17 ct17 : Value} {f17 : Addr}
    (a17 : PySem.W.nsIn K mainGlobals "_taken_by" = some (some (.ref f17))) (l17 : K.lookup f17 = some ⟨oc17, od17, .func (PySem.W.fnOf "_taken_by" "_taken_by" (defArgs s_p__taken_by) (defBody s_p__taken_by) (defScope s_p__taken_by) .none kV17 dc17 pm17 an17 cd17 ct17), sl17⟩) (c17 : PySem.W.codeIn K cd17 "_taken_by" = true) (k17 : PySem.W.keepIn K (.ref f17) = true)
    {od18 an18 : Option Addr} {sl18 : Array (Option Value)} {oc18 kV18 dc18 pm18 ct18 : Value} {f18 C18 P18 : Addr}
    (a18 : PySem.W.nsIn K mainGlobals "_is_place_of_plan" = some (some (.ref f18))) (l18 : K.lookup f18 = some ⟨oc18, od18, .func (PySem.W.fnOf "_is_place_of_plan" "_is_place_of_plan" (defArgs s_p__is_place_of_plan) (defBody s_p__is_place_of_plan) (defScope s_p__is_place_of_plan) .none kV18 dc18 pm18 an18 (.ref C18) ct18), sl18⟩) (c18 : PySem.W.codeIn K (.ref C18) "_is_place_of_plan" = true) (k18 : PySem.W.keepIn K (.ref f18) = true)
    {te18 : Value} {td18 : Option Addr} {tv18 : Array Value} {ts18 : Array (Option Value)} (q18 : K.lookup C18 = some ⟨te18, td18, .fields tv18, ts18⟩) (p18 : tv18[11]? = some (.ref P18)) (n18 : K.lookup P18 = none)
    {od19 an19 : Option Addr} {sl19 : Array (Option Value)} {oc19 kV19 dc19 pm19 cd19 ct19 : Value} {f19 : Addr}
    (a19 : PySem.W.nsIn K mainGlobals "_law_cell_at" = some (some (.ref f19))) (l19 : K.lookup f19 = some ⟨oc19, od19, .func (PySem.W.fnOf "_law_cell_at" "_law_cell_at" (defArgs s_l_cell_at) (defBody s_l_cell_at) (defScope s_l_cell_at) .none kV19 dc19 pm19 an19 cd19 ct19), sl19⟩) (c19 : PySem.W.codeIn K cd19 "_law_cell_at" = true) (k19 : PySem.W.keepIn K (.ref f19) = true)
    {od20 an20 : Option Addr} {sl20 : Array (Option Value)} {oc20 kV20 dc20 pm20 cd20 ct20 : Value} {f20 : Addr}
    (a20 : PySem.W.nsIn K mainGlobals "_law_box" = some (some (.ref f20))) (l20 : K.lookup f20 = some ⟨oc20, od20, .func (PySem.W.fnOf "_law_box" "_law_box" (defArgs s_l_box) (defBody s_l_box) (defScope s_l_box) .none kV20 dc20 pm20 an20 cd20 ct20), sl20⟩) (c20 : PySem.W.codeIn K cd20 "_law_box" = true) (k20 : PySem.W.keepIn K (.ref f20) = true)
    {od21 an21 : Option Addr} {sl21 : Array (Option Value)} {oc21 kV21 dc21 pm21 cd21 ct21 : Value} {f21 : Addr}
    (a21 : PySem.W.nsIn K mainGlobals "_law_take" = some (some (.ref f21))) (l21 : K.lookup f21 = some ⟨oc21, od21, .func (PySem.W.fnOf "_law_take" "_law_take" (defArgs s_l_take) (defBody s_l_take) (defScope s_l_take) .none kV21 dc21 pm21 an21 cd21 ct21), sl21⟩) (c21 : PySem.W.codeIn K cd21 "_law_take" = true) (k21 : PySem.W.keepIn K (.ref f21) = true)
    {od22 an22 : Option Addr} {sl22 : Array (Option Value)} {oc22 kV22 dc22 pm22 cd22 ct22 : Value} {f22 : Addr}
    (a22 : PySem.W.nsIn K mainGlobals "_law_ladles" = some (some (.ref f22))) (l22 : K.lookup f22 = some ⟨oc22, od22, .func (PySem.W.fnOf "_law_ladles" "_law_ladles" (defArgs s_l_ladles) (defBody s_l_ladles) (defScope s_l_ladles) .none kV22 dc22 pm22 an22 cd22 ct22), sl22⟩) (c22 : PySem.W.codeIn K cd22 "_law_ladles" = true) (k22 : PySem.W.keepIn K (.ref f22) = true)
    {od23 an23 : Option Addr} {sl23 : Array (Option Value)} {oc23 kV23 dc23 pm23 cd23 ct23 : Value} {f23 : Addr}
    (a23 : PySem.W.nsIn K mainGlobals "_law_day" = some (some (.ref f23))) (l23 : K.lookup f23 = some ⟨oc23, od23, .func (PySem.W.fnOf "_law_day" "_law_day" (defArgs s_l_day) (defBody s_l_day) (defScope s_l_day) .none kV23 dc23 pm23 an23 cd23 ct23), sl23⟩) (c23 : PySem.W.codeIn K cd23 "_law_day" = true) (k23 : PySem.W.keepIn K (.ref f23) = true)
    {od24 an24 : Option Addr} {sl24 : Array (Option Value)} {oc24 kV24 dc24 pm24 cd24 ct24 : Value} {f24 : Addr}
    (a24 : PySem.W.nsIn K mainGlobals "_law_all" = some (some (.ref f24))) (l24 : K.lookup f24 = some ⟨oc24, od24, .func (PySem.W.fnOf "_law_all" "_law_all" (defArgs s_l_all) (defBody s_l_all) (defScope s_l_all) .none kV24 dc24 pm24 an24 cd24 ct24), sl24⟩) (c24 : PySem.W.codeIn K cd24 "_law_all" = true) (k24 : PySem.W.keepIn K (.ref f24) = true)
    {od25 an25 : Option Addr} {sl25 : Array (Option Value)} {oc25 kV25 dc25 pm25 cd25 ct25 : Value} {f25 : Addr}
    (a25 : PySem.W.nsIn K mainGlobals "_law_small_day" = some (some (.ref f25))) (l25 : K.lookup f25 = some ⟨oc25, od25, .func (PySem.W.fnOf "_law_small_day" "_law_small_day" (defArgs s_l_small_day) (defBody s_l_small_day) (defScope s_l_small_day) .none kV25 dc25 pm25 an25 cd25 ct25), sl25⟩) (c25 : PySem.W.codeIn K cd25 "_law_small_day" = true) (k25 : PySem.W.keepIn K (.ref f25) = true)
    {od26 an26 : Option Addr} {sl26 : Array (Option Value)} {oc26 kV26 dc26 pm26 cd26 ct26 : Value} {f26 : Addr}
    (a26 : PySem.W.nsIn K mainGlobals "_law_plan_of" = some (some (.ref f26))) (l26 : K.lookup f26 = some ⟨oc26, od26, .func (PySem.W.fnOf "_law_plan_of" "_law_plan_of" (defArgs s_l_plan_of) (defBody s_l_plan_of) (defScope s_l_plan_of) .none kV26 dc26 pm26 an26 cd26 ct26), sl26⟩) (c26 : PySem.W.codeIn K cd26 "_law_plan_of" = true) (k26 : PySem.W.keepIn K (.ref f26) = true)
    {od27 an27 : Option Addr} {sl27 : Array (Option Value)} {oc27 kV27 dc27 pm27 cd27 ct27 : Value} {f27 : Addr}
    (a27 : PySem.W.nsIn K mainGlobals "_law_more" = some (some (.ref f27))) (l27 : K.lookup f27 = some ⟨oc27, od27, .func (PySem.W.fnOf "_law_more" "_law_more" (defArgs s_l_more) (defBody s_l_more) (defScope s_l_more) .none kV27 dc27 pm27 an27 cd27 ct27), sl27⟩) (c27 : PySem.W.codeIn K cd27 "_law_more" = true) (k27 : PySem.W.keepIn K (.ref f27) = true)
    {od28 an28 : Option Addr} {sl28 : Array (Option Value)} {oc28 kV28 dc28 pm28 cd28 ct28 : Value} {f28 : Addr}
    (a28 : PySem.W.nsIn K mainGlobals "_law_small_right" = some (some (.ref f28))) (l28 : K.lookup f28 = some ⟨oc28, od28, .func (PySem.W.fnOf "_law_small_right" "_law_small_right" (defArgs s_l_small_right) (defBody s_l_small_right) (defScope s_l_small_right) .none kV28 dc28 pm28 an28 cd28 ct28), sl28⟩) (c28 : PySem.W.codeIn K cd28 "_law_small_right" = true) (k28 : PySem.W.keepIn K (.ref f28) = true)
    {od29 an29 : Option Addr} {sl29 : Array (Option Value)} {oc29 kV29 dc29 pm29 cd29 ct29 : Value} {f29 : Addr}
    (a29 : PySem.W.nsIn K mainGlobals "_law_binds" = some (some (.ref f29))) (l29 : K.lookup f29 = some ⟨oc29, od29, .func (PySem.W.fnOf "_law_binds" "_law_binds" (defArgs s_l_binds) (defBody s_l_binds) (defScope s_l_binds) .none kV29 dc29 pm29 an29 cd29 ct29), sl29⟩) (c29 : PySem.W.codeIn K cd29 "_law_binds" = true) (k29 : PySem.W.keepIn K (.ref f29) = true)
    {od30 an30 : Option Addr} {sl30 : Array (Option Value)} {oc30 kV30 dc30 pm30 cd30 ct30 : Value} {f30 : Addr}
    (a30 : PySem.W.nsIn K mainGlobals "_law_great_right" = some (some (.ref f30))) (l30 : K.lookup f30 = some ⟨oc30, od30, .func (PySem.W.fnOf "_law_great_right" "_law_great_right" (defArgs s_l_great_right) (defBody s_l_great_right) (defScope s_l_great_right) .none kV30 dc30 pm30 an30 cd30 ct30), sl30⟩) (c30 : PySem.W.codeIn K cd30 "_law_great_right" = true) (k30 : PySem.W.keepIn K (.ref f30) = true)
    {od31 an31 : Option Addr} {sl31 : Array (Option Value)} {oc31 kV31 dc31 pm31 cd31 ct31 : Value} {f31 : Addr}
    (a31 : PySem.W.nsIn K mainGlobals "law" = some (some (.ref f31))) (l31 : K.lookup f31 = some ⟨oc31, od31, .func (PySem.W.fnOf "law" "law" (defArgs s_p_law) (defBody s_p_law) (defScope s_p_law) .none kV31 dc31 pm31 an31 cd31 ct31), sl31⟩) (c31 : PySem.W.codeIn K cd31 "law" = true) (k31 : PySem.W.keepIn K (.ref f31) = true)
    (z_abs : PySem.W.nsIn K mainGlobals "abs" = some none)
    (z_all : PySem.W.nsIn K mainGlobals "all" = some none)
    (z_bool : PySem.W.nsIn K mainGlobals "bool" = some none)
    (z_enumerate : PySem.W.nsIn K mainGlobals "enumerate" = some none)
    (z_int : PySem.W.nsIn K mainGlobals "int" = some none)
    (z_isinstance : PySem.W.nsIn K mainGlobals "isinstance" = some none)
    (z_len : PySem.W.nsIn K mainGlobals "len" = some none)
    (z_list : PySem.W.nsIn K mainGlobals "list" = some none)
    (z_max : PySem.W.nsIn K mainGlobals "max" = some none)
    (z_min : PySem.W.nsIn K mainGlobals "min" = some none)
    (z_range : PySem.W.nsIn K mainGlobals "range" = some none)
    (z_reversed : PySem.W.nsIn K mainGlobals "reversed" = some none)
    (z_str : PySem.W.nsIn K mainGlobals "str" = some none)
    (z_sum : PySem.W.nsIn K mainGlobals "sum" = some none)
    (z_tuple : PySem.W.nsIn K mainGlobals "tuple" = some none)
    (z_zip : PySem.W.nsIn K mainGlobals "zip" = some none)
    {t_AHEAD_OF_ALL : Tok} (z_AHEAD_OF_ALL : PySem.W.nsIn K mainGlobals "AHEAD_OF_ALL" = some (some (.int (-1) t_AHEAD_OF_ALL)))
    : ∃ (fd : FuncData) (cs : List (Addr × Addr)), (∀ p ∈ cs, ∃ y ∈ (["shows_plan", "_is_place_of_plan"] : List Str), PySem.W.tabIn K y = some p) ∧ (∀ p ∈ cs, K.lookup p.2 = none) ∧ (∀ (s : Shared) (v : Value), BindsTo s fd ⟨[v], []⟩ [("_law_script", v)]) ∧ ∀ base : Heap, K.In base → base.Ns mainGlobals mg → (∀ p ∈ cs, GxR.TabB base mg p.1 p.2) → FnG l.prog w K mg base 7 fa fd ["_law_script"] (sp_p_law K (cs.map (·.2))) := by
  have e := hfa.symm.trans (PySem.W.mg_of X G a31)
  cases e
  have F0 := fun_mk (st := s_p_places_in) l0 c0 k0
  have F1 := fun_mk (st := s_p_hours_in) l1 c1 k1
  have F2 := fun_mk (st := s_p_end_of) l2 c2 k2
  have F3 := fun_mk (st := s_p_bounds_at) l3 c3 k3
  have F4 := fun_mk (st := s_p_reached) l4 c4 k4
  have F5 := fun_mk (st := s_p_most_plan) l5 c5 k5
  have F6 := fun_mk (st := s_p_first_hour) l6 c6 k6
  have F7 := fun_mk (st := s_p_most_struck) l7 c7 k7
  have F8 := fun_mk (st := s_p_binding_places) l8 c8 k8
  have F9 := fun_mk (st := s_p__most_taken) l9 c9 k9
  have F10 := fun_mk (st := s_p__most) l10 c10 k10
  have F11 := fun_mk (st := s_p__tight_bound) l11 c11 k11
  have F12 := fun_mk (st := s_p__widened) l12 c12 k12
  have F13 := fun_mk (st := s_p_is_number) l13 c13 k13
  have F14 := fun_mk (st := s_p_shows_most) l14 c14 k14
  have F15 := fun_mk (st := s_p__is_bound_of) l15 c15 k15
  have F16 := fun_mk (st := s_p_shows_plan) l16 c16 k16
  have F17 := fun_mk (st := s_p__taken_by) l17 c17 k17
  have F18 := fun_mk (st := s_p__is_place_of_plan) l18 c18 k18
  have F19 := fun_mk (st := s_l_cell_at) l19 c19 k19
  have F20 := fun_mk (st := s_l_box) l20 c20 k20
  have F21 := fun_mk (st := s_l_take) l21 c21 k21
  have F22 := fun_mk (st := s_l_ladles) l22 c22 k22
  have F23 := fun_mk (st := s_l_day) l23 c23 k23
  have F24 := fun_mk (st := s_l_all) l24 c24 k24
  have F25 := fun_mk (st := s_l_small_day) l25 c25 k25
  have F26 := fun_mk (st := s_l_plan_of) l26 c26 k26
  have F27 := fun_mk (st := s_l_more) l27 c27 k27
  have F28 := fun_mk (st := s_l_small_right) l28 c28 k28
  have F29 := fun_mk (st := s_l_binds) l29 c29 k29
  have F30 := fun_mk (st := s_l_great_right) l30 c30 k30
  have F31 := fun_mk (st := s_p_law) l31 c31 k31
  let T : All K mg := ⟨_, _, ⟨F0, PySem.W.mg_of X G a0, F0.binds (ps := ["day"]) fun _ _ _ _ _ _ us hl => match us, hl with | [_], _ => rfl⟩, _, _, ⟨F1, PySem.W.mg_of X G a1, F1.binds (ps := ["day"]) fun _ _ _ _ _ _ us hl => match us, hl with | [_], _ => rfl⟩, _, _, ⟨F2, PySem.W.mg_of X G a2, F2.binds (ps := ["day"]) fun _ _ _ _ _ _ us hl => match us, hl with | [_], _ => rfl⟩, _, _, ⟨F3, PySem.W.mg_of X G a3, F3.binds (ps := ["day", "place", "hour"]) fun _ _ _ _ _ _ us hl => match us, hl with | [_, _, _], _ => rfl⟩, _, _, ⟨F4, PySem.W.mg_of X G a4, F4.binds (ps := ["taken", "bound"]) fun _ _ _ _ _ _ us hl => match us, hl with | [_, _], _ => rfl⟩, _, _, ⟨F5, PySem.W.mg_of X G a5, F5.binds (ps := ["day"]) fun _ _ _ _ _ _ us hl => match us, hl with | [_], _ => rfl⟩, _, _, ⟨F6, PySem.W.mg_of X G a6, F6.binds (ps := ["day", "many"]) fun _ _ _ _ _ _ us hl => match us, hl with | [_, _], _ => rfl⟩, _, _, ⟨F7, PySem.W.mg_of X G a7, F7.binds (ps := ["day"]) fun _ _ _ _ _ _ us hl => match us, hl with | [_], _ => rfl⟩, _, _, ⟨F8, PySem.W.mg_of X G a8, F8.binds (ps := ["day"]) fun _ _ _ _ _ _ us hl => match us, hl with | [_], _ => rfl⟩, _, _, ⟨F9, PySem.W.mg_of X G a9, F9.binds (ps := ["day"]) fun _ _ _ _ _ _ us hl => match us, hl with | [_], _ => rfl⟩, _, _, ⟨F10, PySem.W.mg_of X G a10, F10.binds (ps := ["day"]) fun _ _ _ _ _ _ us hl => match us, hl with | [_], _ => rfl⟩, _, _, ⟨F11, PySem.W.mg_of X G a11, F11.binds (ps := ["day", "taken", "lead"]) fun _ _ _ _ _ _ us hl => match us, hl with | [_, _, _], _ => rfl⟩, _, _, ⟨F12, PySem.W.mg_of X G a12, F12.binds (ps := ["day", "place"]) fun _ _ _ _ _ _ us hl => match us, hl with | [_, _], _ => rfl⟩, _, _, ⟨F13, PySem.W.mg_of X G a13, F13.binds (ps := ["thing"]) fun _ _ _ _ _ _ us hl => match us, hl with | [_], _ => rfl⟩, _, _, ⟨F14, PySem.W.mg_of X G a14, F14.binds (ps := ["day", "many", "thing"]) fun _ _ _ _ _ _ us hl => match us, hl with | [_, _, _], _ => rfl⟩, _, _, ⟨F15, PySem.W.mg_of X G a15, F15.binds (ps := ["thing", "lead"]) fun _ _ _ _ _ _ us hl => match us, hl with | [_, _], _ => rfl⟩, _, _, ⟨F16, PySem.W.mg_of X G a16, F16.binds (ps := ["day", "thing"]) fun _ _ _ _ _ _ us hl => match us, hl with | [_, _], _ => rfl⟩, _, _, ⟨F17, PySem.W.mg_of X G a17, F17.binds (ps := ["plan"]) fun _ _ _ _ _ _ us hl => match us, hl with | [_], _ => rfl⟩, _, _, ⟨F18, PySem.W.mg_of X G a18, F18.binds (ps := ["thing", "hours"]) fun _ _ _ _ _ _ us hl => match us, hl with | [_, _], _ => rfl⟩, _, _, ⟨F19, PySem.W.mg_of X G a19, F19.binds (ps := ["_law_script", "_law_k"]) fun _ _ _ _ _ _ us hl => match us, hl with | [_, _], _ => rfl⟩, _, _, ⟨F20, PySem.W.mg_of X G a20, F20.binds (ps := ["_law_script", "_law_k"]) fun _ _ _ _ _ _ us hl => match us, hl with | [_, _], _ => rfl⟩, _, _, ⟨F21, PySem.W.mg_of X G a21, F21.binds (ps := ["_law_box_here", "_law_many"]) fun _ _ _ _ _ _ us hl => match us, hl with | [_, _], _ => rfl⟩, _, _, ⟨F22, PySem.W.mg_of X G a22, F22.binds (ps := ["_law_box_here", "_law_hours", "_law_wide"]) fun _ _ _ _ _ _ us hl => match us, hl with | [_, _, _], _ => rfl⟩, _, _, ⟨F23, PySem.W.mg_of X G a23, F23.binds (ps := ["_law_box_here", "_law_hours", "_law_pots", "_law_wide"]) fun _ _ _ _ _ _ us hl => match us, hl with | [_, _, _, _], _ => rfl⟩, _, _, ⟨F24, PySem.W.mg_of X G a24, F24.binds (ps := ["_law_day_here"]) fun _ _ _ _ _ _ us hl => match us, hl with | [_], _ => rfl⟩, _, _, ⟨F25, PySem.W.mg_of X G a25, F25.binds (ps := ["_law_box_here"]) fun _ _ _ _ _ _ us hl => match us, hl with | [_], _ => rfl⟩, _, _, ⟨F26, PySem.W.mg_of X G a26, F26.binds (ps := ["_law_sums"]) fun _ _ _ _ _ _ us hl => match us, hl with | [_], _ => rfl⟩, _, _, ⟨F27, PySem.W.mg_of X G a27, F27.binds (ps := ["_law_day_here", "_law_place"]) fun _ _ _ _ _ _ us hl => match us, hl with | [_, _], _ => rfl⟩, _, _, ⟨F28, PySem.W.mg_of X G a28, F28.binds (ps := ["_law_box_here", "_law_day_here"]) fun _ _ _ _ _ _ us hl => match us, hl with | [_, _], _ => rfl⟩, _, _, ⟨F29, PySem.W.mg_of X G a29, F29.binds (ps := ["_law_day_here", "_law_place"]) fun _ _ _ _ _ _ us hl => match us, hl with | [_, _], _ => rfl⟩, _, _, ⟨F30, PySem.W.mg_of X G a30, F30.binds (ps := ["_law_box_here", "_law_day_here"]) fun _ _ _ _ _ _ us hl => match us, hl with | [_, _], _ => rfl⟩, _, _, ⟨F31, PySem.W.mg_of X G a31, F31.binds (ps := ["_law_script"]) fun _ _ _ _ _ _ us hl => match us, hl with | [_], _ => rfl⟩, PySem.W.mg_none_of X G z_abs, PySem.W.mg_none_of X G z_all, PySem.W.mg_none_of X G z_bool, PySem.W.mg_none_of X G z_enumerate, PySem.W.mg_none_of X G z_int, PySem.W.mg_none_of X G z_isinstance, PySem.W.mg_none_of X G z_len, PySem.W.mg_none_of X G z_list, PySem.W.mg_none_of X G z_max, PySem.W.mg_none_of X G z_min, PySem.W.mg_none_of X G z_range, PySem.W.mg_none_of X G z_reversed, PySem.W.mg_none_of X G z_str, PySem.W.mg_none_of X G z_sum, PySem.W.mg_none_of X G z_tuple, PySem.W.mg_none_of X G z_zip, _, PySem.W.mg_of X G z_AHEAD_OF_ALL, C16, P16, funC_mk (st := s_p_shows_plan) l16 c16, C18, P18, funC_mk (st := s_p__is_place_of_plan) l18 c18⟩
  refine ⟨T.fd_p_law, [(C16, P16), (C18, P18)], ((List.forall_mem_cons (p := fun (p : Addr × Addr) => ∃ y ∈ (["shows_plan", "_is_place_of_plan"] : List Str), PySem.W.tabIn K y = some p)).mpr ⟨⟨"shows_plan", by decide, tabIn_of a16 l16 rfl q16 p16⟩, ((List.forall_mem_cons (p := fun (p : Addr × Addr) => ∃ y ∈ (["shows_plan", "_is_place_of_plan"] : List Str), PySem.W.tabIn K y = some p)).mpr ⟨⟨"_is_place_of_plan", by decide, tabIn_of a18 l18 rfl q18 p18⟩, fun p hp => absurd hp List.not_mem_nil⟩)⟩), ((List.forall_mem_cons (p := fun (p : Addr × Addr) => K.lookup p.2 = none)).mpr ⟨n16, ((List.forall_mem_cons (p := fun (p : Addr × Addr) => K.lookup p.2 = none)).mpr ⟨n18, fun p hp => absurd hp List.not_mem_nil⟩)⟩), fun s v => .of_eq rfl, fun base _ _ B => ?_⟩
  have B : Tabs T base := ⟨B (C16, P16) (by simp), B (C18, P18) (by simp)⟩
  exact FnG.of (ok_p_law T B)
end KR
open PySem PySem.W PyProof.Rows
set_option maxRecDepth 100000 in
set_option maxHeartbeats 0 in
theorem PySem.Challenge.cw_kettlerow_k92_whole_a_day_beside_all_pla_holds : PySem.Challenge.rw_kettlerow_k92_whole_a_day_beside_all_pla.Holds := by
  w_on; o_law; k_head; (case hw => w_witness2)
  k_fill
  refine KR.walk_ofT (l := PySem.Challenge.rw_kettlerow_k92_whole_a_day_beside_all_pla) (n := 63) (k := 7) (x := "_law_script") (sp := fun w Ps => KR.sp_p_law _ Ps) ["shows_plan", "_is_place_of_plan"] rfl (by decide) rfl ⟨rfl, by decide, by decide⟩ (fun w h Y => PySem.W.kIn_of Y) (by decide +kernel) ?F (fun _ _ _ a ns hl hT hS => ⟨a, ns, rfl, hS, hl, hT, fun _ => rfl⟩)
  case F =>
    intro w mg fa h KX G hmg
    refine' KR.all_mk KX G hmg ?a0 ?l0 ?c0 ?k0 ?a1 ?l1 ?c1 ?k1 ?a2 ?l2 ?c2 ?k2 ?a3 ?l3 ?c3 ?k3 ?a4 ?l4 ?c4 ?k4 ?a5 ?l5 ?c5 ?k5 ?a6 ?l6 ?c6 ?k6 ?a7 ?l7 ?c7 ?k7 ?a8 ?l8 ?c8 ?k8 ?a9 ?l9 ?c9 ?k9 ?a10 ?l10 ?c10 ?k10 ?a11 ?l11 ?c11 ?k11 ?a12 ?l12 ?c12 ?k12 ?a13 ?l13 ?c13 ?k13 ?a14 ?l14 ?c14 ?k14 ?a15 ?l15 ?c15 ?k15 ?a16 ?l16 ?c16 ?k16 ?q16 ?p16 ?n16 ?a17 ?l17 ?c17 ?k17 ?a18 ?l18 ?c18 ?k18 ?q18 ?p18 ?n18 ?a19 ?l19 ?c19 ?k19 ?a20 ?l20 ?c20 ?k20 ?a21 ?l21 ?c21 ?k21 ?a22 ?l22 ?c22 ?k22 ?a23 ?l23 ?c23 ?k23 ?a24 ?l24 ?c24 ?k24 ?a25 ?l25 ?c25 ?k25 ?a26 ?l26 ?c26 ?k26 ?a27 ?l27 ?c27 ?k27 ?a28 ?l28 ?c28 ?k28 ?a29 ?l29 ?c29 ?k29 ?a30 ?l30 ?c30 ?k30 ?a31 ?l31 ?c31 ?k31 ?z_abs ?z_all ?z_bool ?z_enumerate ?z_int ?z_isinstance ?z_len ?z_list ?z_max ?z_min ?z_range ?z_reversed ?z_str ?z_sum ?z_tuple ?z_zip ?z_AHEAD_OF_ALL
    (case a0 => k_is)
    (case l0 => k_is)
    (case c0 => k_is)
    (case k0 => k_is)
    (case a1 => k_is)
    (case l1 => k_is)
    (case c1 => k_is)
    (case k1 => k_is)
    (case a2 => k_is)
    (case l2 => k_is)
    (case c2 => k_is)
    (case k2 => k_is)
    (case a3 => k_is)
    (case l3 => k_is)
    (case c3 => k_is)
    (case k3 => k_is)
    (case a4 => k_is)
    (case l4 => k_is)
    (case c4 => k_is)
    (case k4 => k_is)
    (case a5 => k_is)
    (case l5 => k_is)
    (case c5 => k_is)
    (case k5 => k_is)
    (case a6 => k_is)
    (case l6 => k_is)
    (case c6 => k_is)
    (case k6 => k_is)
    (case a7 => k_is)
    (case l7 => k_is)
    (case c7 => k_is)
    (case k7 => k_is)
    (case a8 => k_is)
    (case l8 => k_is)
    (case c8 => k_is)
    (case k8 => k_is)
    (case a9 => k_is)
    (case l9 => k_is)
    (case c9 => k_is)
    (case k9 => k_is)
    (case a10 => k_is)
    (case l10 => k_is)
    (case c10 => k_is)
    (case k10 => k_is)
    (case a11 => k_is)
    (case l11 => k_is)
    (case c11 => k_is)
    (case k11 => k_is)
    (case a12 => k_is)
    (case l12 => k_is)
    (case c12 => k_is)
    (case k12 => k_is)
    (case a13 => k_is)
    (case l13 => k_is)
    (case c13 => k_is)
    (case k13 => k_is)
    (case a14 => k_is)
    (case l14 => k_is)
    (case c14 => k_is)
    (case k14 => k_is)
    (case a15 => k_is)
    (case l15 => k_is)
    (case c15 => k_is)
    (case k15 => k_is)
    (case a16 => k_is)
    (case l16 => k_is)
    (case c16 => k_is)
    (case k16 => k_is)
    (case q16 => k_is)
    (case p16 => first | rfl | (with_unfolding_all rfl))
    (case n16 => first | rfl | (with_unfolding_all rfl))
    (case a17 => k_is)
    (case l17 => k_is)
    (case c17 => k_is)
    (case k17 => k_is)
    (case a18 => k_is)
    (case l18 => k_is)
    (case c18 => k_is)
    (case k18 => k_is)
    (case q18 => k_is)
    (case p18 => first | rfl | (with_unfolding_all rfl))
    (case n18 => first | rfl | (with_unfolding_all rfl))
    (case a19 => k_is)
    (case l19 => k_is)
    (case c19 => k_is)
    (case k19 => k_is)
    (case a20 => k_is)
    (case l20 => k_is)
    (case c20 => k_is)
    (case k20 => k_is)
    (case a21 => k_is)
    (case l21 => k_is)
    (case c21 => k_is)
    (case k21 => k_is)
    (case a22 => k_is)
    (case l22 => k_is)
    (case c22 => k_is)
    (case k22 => k_is)
    (case a23 => k_is)
    (case l23 => k_is)
    (case c23 => k_is)
    (case k23 => k_is)
    (case a24 => k_is)
    (case l24 => k_is)
    (case c24 => k_is)
    (case k24 => k_is)
    (case a25 => k_is)
    (case l25 => k_is)
    (case c25 => k_is)
    (case k25 => k_is)
    (case a26 => k_is)
    (case l26 => k_is)
    (case c26 => k_is)
    (case k26 => k_is)
    (case a27 => k_is)
    (case l27 => k_is)
    (case c27 => k_is)
    (case k27 => k_is)
    (case a28 => k_is)
    (case l28 => k_is)
    (case c28 => k_is)
    (case k28 => k_is)
    (case a29 => k_is)
    (case l29 => k_is)
    (case c29 => k_is)
    (case k29 => k_is)
    (case a30 => k_is)
    (case l30 => k_is)
    (case c30 => k_is)
    (case k30 => k_is)
    (case a31 => k_is)
    (case l31 => k_is)
    (case c31 => k_is)
    (case k31 => k_is)
    (case z_abs => k_is)
    (case z_all => k_is)
    (case z_bool => k_is)
    (case z_enumerate => k_is)
    (case z_int => k_is)
    (case z_isinstance => k_is)
    (case z_len => k_is)
    (case z_list => k_is)
    (case z_max => k_is)
    (case z_min => k_is)
    (case z_range => k_is)
    (case z_reversed => k_is)
    (case z_str => k_is)
    (case z_sum => k_is)
    (case z_tuple => k_is)
    (case z_zip => k_is)
    (case z_AHEAD_OF_ALL => k_is)
#print axioms PySem.Challenge.cw_kettlerow_k92_whole_a_day_beside_all_pla_holds
