import PyProof.Rows.All
import Wide.All
import OpenK.AllK
import Wide.FinOn
import HandS.ForMost
import HandS.Gcd
import HandS.Wide
import HandS.IsInst
import HandS.Zip
import HandS.More
import HandS.Style
import HandS.Rev
import HandS.MapJoin
import HandS.StrMore
import KE.GoesEnum
import KE.GoesMore
import KE.GoesZip
import HandS.Zip
import HandS.Walk
import KE.KNest
import HandS.AnyAll
import HandS.EndTab
import HandS.GenOver
import HandS.Flt
import HandS.Dict
import HandS.TupAny
import HandS.RevRange
import HandS.Conv
import HandS.Small
import HandS.List
import PyProof.Rows.IntBool
import PyProof.CallStr
import PyProof.FitsInt
import PyProof.Rows.ReprOcc
import HandS.TupMul
import PySem.Challenge.RW_kettlerow_k51_kinds_or_not
set_option Elab.async false
set_option linter.all false
set_option maxRecDepth 100000
set_option maxHeartbeats 4000000
/-! ### own rules and words, of no law -/
namespace KR
open PySem PySem.Spec PyProof.Rows L2

/-- * of any two ints whose product is told to fit -/
theorem op_mulX {X : Cx} : OpR X (binaryOp .Mult) (rI IntMulOk fun i j => .int (i * j)) := opI fun _ _ _ _ _ _ _ hc q => mul_int q hc
/-- // by any divisor but 0, to some three thousand figures -/
def DivOk (_ j : Int) : Prop := j ≠ 0 ∧ j.natAbs.log2 < 9000
theorem op_fdivX {X : Cx} : OpR X (binaryOp .FloorDiv) (rI DivOk fun i j => .int (i.fdiv j)) := opI fun _ _ _ _ _ _ _ hc q => floordiv_int hc.1 q (.inl (PyProof.noPylong_of_log2 hc.2))
theorem mulL {i j : Int} (h : i.natAbs < 2 ^ 64) : IntMulOk i j := CMul.ok (.inl ⟨by omega, by omega⟩)
theorem mulR {i j : Int} (h : j.natAbs < 2 ^ 64) : IntMulOk i j := CMul.ok (.inr ⟨by omega, by omega⟩)
theorem mulW {i j : Int} {a b : Nat} (ha : i.natAbs < 2 ^ a) (hb : j.natAbs < 2 ^ b) (h0 : 0 < a) (h1 : 0 < b) (h : a + b ≤ 1000000) : IntMulOk i j := (wide_mul ha hb h0 h1 h).ok
theorem divOk {i j : Int} {b : Nat} (h : j ≠ 0) (hb : j.natAbs < 2 ^ b) (h0 : 0 < b) (h9 : b ≤ 9000) : DivOk i j := ⟨h, Nat.lt_of_lt_of_le (PySem.Flt.log2_lt_of h0 hb) h9⟩
theorem add_lt {i j : Int} {a : Nat} (ha : i.natAbs < 2 ^ a) (hb : j.natAbs < 2 ^ a) : (i + j).natAbs < 2 ^ (a + 1) := by
  rw [Nat.pow_succ]
  omega
theorem sub_lt {i j : Int} {a : Nat} (ha : i.natAbs < 2 ^ a) (hb : j.natAbs < 2 ^ a) : (i - j).natAbs < 2 ^ (a + 1) := by
  rw [Nat.pow_succ]
  omega
theorem lt_up {i : Int} {a b : Nat} (ha : i.natAbs < 2 ^ a) (h : a ≤ b) : i.natAbs < 2 ^ b := Nat.lt_of_lt_of_le ha (Nat.pow_le_pow_right (by decide) h)
theorem b40 {n : Nat} (h : n < 10 ^ 40) : n < 2 ^ 200 := Nat.lt_trans h (by decide)
theorem b41 {n : Nat} (h : n ≤ 10 ^ 41) : n < 2 ^ 200 := Nat.lt_of_le_of_lt h (by decide)
theorem bit_lt {c : Prop} [Decidable c] : (if c then (1 : Int) else 0).natAbs < 2 ^ 64 := by split <;> decide
theorem bit_nn {c : Prop} [Decidable c] : (0 : Int) ≤ (if c then (1 : Int) else 0) := by split <;> decide
theorem bit_or {c : Prop} [Decidable c] : (if c then (1 : Int) else 0) = 0 ∨ (if c then (1 : Int) else 0) = 1 := by split <;> simp
theorem small {n : Nat} (h : n ≤ 100000) : n ≤ sizeLine := Nat.le_trans h (by decide)
theorem small' {n : Nat} (h : n < 100000) : n < sizeLine := Nat.lt_of_lt_of_le h (by decide)

/-! the heap but for one object that is written -/
/-- all that was tracked but p is as it was -/
def Fr (p : Addr) (H H' : Hp) : Prop := ∀ b o, b ≠ p → H b = some o → H' b = some o
theorem Fr.refl {p : Addr} {H : Hp} : Fr p H H := fun _ _ _ h => h
theorem Fr.trans {p : Addr} {H H1 H2 : Hp} (a : Fr p H H1) (b : Fr p H1 H2) : Fr p H H2 := fun c o n h => b c o n (a c o n h)
theorem Fr.of {p : Addr} {H H1 : Hp} (a : Same H H1) : Fr p H H1 := fun c o _ h => a c o h
theorem same_new {H : Hp} {p : Addr} {o : HO} (h : H p = none) : Same H (upd H p o) := fun b x e => by
  rw [upd_ne (ne_of_none e h)]
  exact e
theorem Fr.new {p q : Addr} {H H1 : Hp} {o : HO} (a : Fr p H H1) (h : H1 q = none) : Fr p H (upd H1 q o) := a.trans (.of (same_new h))
theorem Fr.put {p : Addr} {H H1 : Hp} {o : HO} (a : Fr p H H1) : Fr p H (upd H1 p o) := fun c x n h => by
  rw [upd_ne n]
  exact a c x n h
theorem Fr.put' {p q : Addr} {H H1 : Hp} {o : HO} (a : Fr p H H1) (h : H q = none) : Fr p H (upd H1 q o) := fun c x n e => by
  rw [upd_ne (ne_of_none e h)]
  exact a c x n e
/-- what is new there was new ahead of it, if the written one stands -/
theorem Fr.free {p q : Addr} {H H1 : Hp} {o : HO} (a : Fr p H H1) (hp : H1 p = some o) (h : H1 q = none) : H q = none := by
  cases e : H q with
  | none => rfl
  | some u =>
    have n : q ≠ p := fun z => by
      rw [z, hp] at h
      cases h
    rw [a q u n e] at h
    cases h

/-! a reading may be asked for more than is wanted; displays whose new heap is a letter -/
def clA (t : TA) : TA := fun σ H Q => ∃ Q0 : List V → Hp → Prop, (∀ xs H1, Q0 xs H1 → Q xs H1) ∧ t σ H Q0
theorem pa_cl {X : Cx} {es : List Expr} {t : TA} (h : PA X es t) : PA X es (clA t) := ⟨fun pos pins s σ H Q I ⟨Q0, m, q⟩ =>
  thn (h.run pos pins s σ H Q0 I q) fun us s1 ⟨xs, H1, I1, r, z⟩ => ⟨xs, H1, I1, r, m _ _ z⟩⟩
def tTupI (t : TA) : TE := fun σ H Q => t σ H fun xs H1 => Nat.ble xs.length 100000 = true ∧ ∀ p H', Same H1 H' → H1 p = none → H' p = some (.tup xs) → Q (.ref p) H'
def tLstI (t : TA) : TE := fun σ H Q => t σ H fun xs H1 => Nat.ble xs.length 100000 = true ∧ ∀ p H', Same H1 H' → H1 p = none → H' p = some (.lst xs) → Q (.ref p) H'
theorem pe_tupI {X : Cx} {es : List Expr} {k : Nat} {pos : Pos} {t : TA} (h : PA X es t) : PE X (.Tuple es k pos) (tTupI t) := ⟨fun pins s σ H Q I q =>
  (pe_tup (pa_cl h)).run pins s σ H Q I ⟨_, fun _ _ ⟨z, w⟩ => ⟨small (Nat.le_of_ble_eq_true z), fun p hp => w p _ (same_new hp) hp upd_same⟩, q⟩⟩
theorem pe_lstI {X : Cx} {es : List Expr} {pos : Pos} {t : TA} (h : PA X es t) : PE X (.List es pos) (tLstI t) := ⟨fun pins s σ H Q I q =>
  (pe_lst (pa_cl h)).run pins s σ H Q I ⟨_, fun _ _ ⟨z, w⟩ => ⟨small (Nat.le_of_ble_eq_true z), fun p hp => w p _ (same_new hp) hp upd_same⟩, q⟩⟩
/-- ways that join behind a statement: R is what they come to -/
def tJ (t : TS) : TS := fun D σ H => ∃ R : L2.St → Hp → Prop, (∀ σ' H', R σ' H' → D.nx σ' H') ∧ t { D with nx := R } σ H
theorem ps_J {X : Cx} {st : Stmt} {t : TS} (h : PS X st t) : PS X st (tJ t) := ⟨fun pins s σ H D I ⟨R, m, q⟩ => thn (h.run pins s σ H { D with nx := R } I q) fun f s1 z =>
  match f, z with
  | .next, ⟨σ', H', J, r⟩ => ⟨σ', H', J, m _ _ r⟩
  | .ret _, z => z
  | .brk, z => z
  | .cont, z => z⟩
theorem ite_bT {b : Bool} {A B : Prop} (h : b = true) (q : A) : if b = true then A else B := by
  rw [if_pos h]
  exact q
theorem ite_bF {b : Bool} {A B : Prop} (h : b = false) (q : B) : if b = true then A else B := by
  rw [if_neg (by rw [h]; exact Bool.false_ne_true)]
  exact q
theorem ite_iT {i j : Int} {A B : Prop} (h : i = j) (q : A) : if decide (V.int i = V.int j) = true then A else B := by
  rw [if_pos (decide_eq_true (congrArg V.int h))]
  exact q
theorem ite_iF {i j : Int} {A B : Prop} (h : i ≠ j) (q : B) : if decide (V.int i = V.int j) = true then A else B := by
  rw [if_neg (by rw [decide_eq_false fun z => h (V.int.inj z)]; exact Bool.false_ne_true)]
  exact q
theorem ite_nT {i j : Int} {A B : Prop} (h : i ≠ j) (q : A) : if (!decide (V.int i = V.int j)) = true then A else B := by
  rw [if_pos (by rw [decide_eq_false fun z => h (V.int.inj z)] <;> rfl)]
  exact q
theorem ite_nF {i j : Int} {A B : Prop} (h : i = j) (q : B) : if (!decide (V.int i = V.int j)) = true then A else B := by
  rw [if_neg (by rw [decide_eq_true (congrArg V.int h)]; exact Bool.false_ne_true)]
  exact q
/-- the law's box of draws: n is more than have been mixed -/
def BoxAt (H : Hp) (p : Addr) (n : Nat) : Prop := ∃ a b c : Int, H p = some (.lst [.int a, .int b, .int c]) ∧ 0 ≤ a ∧ 0 ≤ b ∧ b < 2 ^ 62 ∧ 0 ≤ c ∧ c ≤ (n : Int)
theorem BoxAt.mono {H : Hp} {p : Addr} {n m : Nat} (h : BoxAt H p n) (le : n ≤ m) : BoxAt H p m := by
  obtain ⟨a, b, c, h1, h2, h3, h4, h5, h6⟩ := h
  exact ⟨a, b, c, h1, h2, h3, h4, h5, by omega⟩
theorem BoxAt.same {H H' : Hp} {p : Addr} {n : Nat} (h : BoxAt H p n) (s : Same H H') : BoxAt H' p n := by
  obtain ⟨a, b, c, h1, h2⟩ := h
  exact ⟨a, b, c, s _ _ h1, h2⟩
theorem BoxAt.ne {H : Hp} {p q : Addr} {n : Nat} {xs : List V} (h : BoxAt H p n) (t : H q = some (.tup xs)) : q ≠ p := by
  obtain ⟨a, b, c, h1, _⟩ := h
  exact ne_of t h1 (by intro z; cases z)
theorem BoxAt.some {H : Hp} {p : Addr} {n : Nat} (h : BoxAt H p n) : ∃ o, H p = some o := by
  obtain ⟨a, b, c, h1, _⟩ := h
  exact ⟨_, h1⟩
/-- a tuple stays -/
theorem Fr.tup {p q : Addr} {H H1 : Hp} {n : Nat} {xs : List V} (a : Fr p H H1) (hb : BoxAt H p n) (t : H q = some (.tup xs)) : H1 q = some (.tup xs) := a q _ (hb.ne t) t
/-- a pair of ints -/
def PrAt (H : Hp) (q : Addr) (t b : Int) : Prop := H q = some (.tup [.int t, .int b])
theorem at0 {x : V} {xs : List V} : atI (x :: xs) 0 = some x := atI_nat (j := 0) rfl
theorem at1 {x y : V} {xs : List V} : atI (x :: y :: xs) 1 = some y := atI_nat (j := 1) rfl
theorem at2 {x y z : V} {xs : List V} : atI (x :: y :: z :: xs) 2 = some z := atI_nat (j := 2) rfl

/-! fractions -/
/-- the law's own lowest terms -/
def low (t b : Int) : Int × Int := (t / (Nat.gcd t.natAbs b.natAbs : Nat) * (if b < 0 then -1 else 1), (b.natAbs : Int) / (Nat.gcd t.natAbs b.natAbs : Nat))
structure IsLow (t b : Int) : Prop where
  pos : 0 < b
  cop : Nat.gcd t.natAbs b.natAbs = 1
theorem dvd_mul {a b : Int} (h : a ∣ b) : a * (b / a) = b := Int.mul_ediv_cancel' h
theorem low_facts (t b : Int) (hb : b ≠ 0) : IsLow (low t b).1 (low t b).2 ∧ t * (low t b).2 = (low t b).1 * b := by
  have hg : 0 < Nat.gcd t.natAbs b.natAbs := Nat.gcd_pos_of_pos_right _ (by omega)
  generalize e : Nat.gcd t.natAbs b.natAbs = g at hg
  have d1 : g ∣ t.natAbs := e ▸ Nat.gcd_dvd_left _ _
  have d2 : g ∣ b.natAbs := e ▸ Nat.gcd_dvd_right _ _
  obtain ⟨x, hx⟩ := d1
  obtain ⟨y, hy⟩ := d2
  have hc : Nat.gcd x y = 1 := by
    rw [hx, hy, Nat.gcd_mul_left] at e
    exact Nat.eq_of_mul_eq_mul_left hg (by rw [e, Nat.mul_one])
  have hy0 : 0 < y := by
    rcases Nat.eq_zero_or_pos y with z | z
    · rw [z, Nat.mul_zero] at hy
      omega
    · exact z
  have h2 : (low t b).2 = (y : Int) := by
    show (b.natAbs : Int) / (Nat.gcd t.natAbs b.natAbs : Nat) = (y : Int)
    rw [e, hy, Int.natCast_mul]
    exact Int.mul_ediv_cancel_left _ (by omega)
  have ht : t = (g : Int) * x ∨ t = -((g : Int) * x) := by
    have q : (t.natAbs : Int) = (g : Int) * x := by rw [hx, Int.natCast_mul]
    omega
  have hbb : (b.natAbs : Int) = (g : Int) * y := by rw [hy, Int.natCast_mul]
  have h1 : (low t b).1 = (t / (g : Int)) * (if b < 0 then -1 else 1) := by
    show t / (Nat.gcd t.natAbs b.natAbs : Nat) * (if b < 0 then -1 else 1) = _
    rw [e]
  have h3 : t / (g : Int) = x ∨ t / (g : Int) = -(x : Int) := by
    rcases ht with q | q
    · left
      rw [q]
      exact Int.mul_ediv_cancel_left _ (by omega)
    · right
      rw [q, ← Int.mul_neg]
      exact Int.mul_ediv_cancel_left _ (by omega)
  have h4 : (g : Int) * (t / (g : Int)) = t := dvd_mul (by
    rcases ht with q | q
    · exact ⟨x, q⟩
    · exact ⟨-x, by rw [q, Int.mul_neg]⟩)
  refine ⟨⟨by rw [h2]; omega, ?_⟩, ?_⟩
  · rw [h2, h1]
    have q : ((t / (g : Int)) * (if b < 0 then -1 else 1)).natAbs = x := by
      split <;> rcases h3 with z | z <;> rw [z] <;> omega
    rw [q]
    exact hc
  · rw [h2, h1]
    by_cases c : b < 0
    · rw [if_pos c]
      have q : b = -((g : Int) * y) := by omega
      grind
    · rw [if_neg c]
      have q : b = (g : Int) * y := by omega
      grind
theorem low_pos (t b : Int) (hb : b ≠ 0) : 0 < (low t b).2 := (low_facts t b hb).1.pos
/-- two fractions in lowest terms that are alike across are one -/
theorem isLow_uniq {x y u v : Int} (h : IsLow x y) (k : IsLow u v) (e : x * v = u * y) : x = u ∧ y = v := by
  have h1 := h.pos
  have k1 := k.pos
  have e1 : x.natAbs * v.natAbs = u.natAbs * y.natAbs := by rw [← Int.natAbs_mul, ← Int.natAbs_mul, e]
  have d1 : y.natAbs ∣ v.natAbs := (Nat.Coprime.symm h.cop).dvd_of_dvd_mul_left (by rw [e1]; exact Nat.dvd_mul_left _ _)
  have d2 : v.natAbs ∣ y.natAbs := (Nat.Coprime.symm k.cop).dvd_of_dvd_mul_left (by rw [← e1]; exact Nat.dvd_mul_left _ _)
  have e2 : y.natAbs = v.natAbs := Nat.dvd_antisymm d1 d2
  have e3 : y = v := by omega
  subst e3
  exact ⟨Int.eq_of_mul_eq_mul_right (by omega) e, rfl⟩
theorem low_eq {t b x y : Int} (hb : b ≠ 0) (h : IsLow x y) (e : t * y = x * b) : low t b = (x, y) := by
  obtain ⟨h1, h2⟩ := low_facts t b hb
  have q : (low t b).1 * y = x * (low t b).2 := by
    have z : b * ((low t b).1 * y) = b * (x * (low t b).2) := by grind
    exact Int.eq_of_mul_eq_mul_left hb z
  obtain ⟨a1, a2⟩ := isLow_uniq h1 h q
  exact Prod.ext a1 a2
theorem low_id {t b : Int} (h : IsLow t b) : low t b = (t, b) := low_eq (by have := h.pos; omega) h rfl
theorem low_le (t b : Int) : (low t b).1.natAbs ≤ t.natAbs ∧ (low t b).2.natAbs ≤ b.natAbs := by
  generalize e : Nat.gcd t.natAbs b.natAbs = g
  have h1 : (low t b).1 = (t / (g : Int)) * (if b < 0 then -1 else 1) := by
    show t / (Nat.gcd t.natAbs b.natAbs : Nat) * (if b < 0 then -1 else 1) = _
    rw [e]
  have h2 : (low t b).2 = (b.natAbs : Int) / (g : Int) := by
    show (b.natAbs : Int) / (Nat.gcd t.natAbs b.natAbs : Nat) = _
    rw [e]
  have d1 : (g : Int) ∣ t := e ▸ Int.ofNat_dvd_left.mpr (Nat.gcd_dvd_left _ _)
  constructor
  · rw [h1]
    have q : (t / (g : Int) * (if b < 0 then -1 else 1)).natAbs = (t / (g : Int)).natAbs := by
      split <;> omega
    rw [q]
    obtain ⟨z, rfl⟩ := d1
    by_cases c : (g : Int) = 0
    · rw [c, Int.zero_mul, Int.zero_ediv]
      omega
    · rw [Int.mul_ediv_cancel_left _ c, Int.natAbs_mul]
      exact Nat.le_mul_of_pos_left _ (by omega)
  · rw [h2, ← Int.natCast_ediv, Int.natAbs_natCast]
    exact Nat.div_le_self _ _
theorem low_lt {t b : Int} {n : Nat} (h1 : t.natAbs < 2 ^ n) (h2 : b.natAbs < 2 ^ n) : (low t b).1.natAbs < 2 ^ n ∧ (low t b).2.natAbs < 2 ^ n :=
  ⟨Nat.lt_of_le_of_lt (low_le t b).1 h1, Nat.lt_of_le_of_lt (low_le t b).2 h2⟩
/-- a fraction in lowest terms, of fewer than sixty figures -/
structure FrAt (H : Hp) (x : Addr) (a b : Int) : Prop where
  at_ : H x = some (.tup [.int a, .int b])
  low : IsLow a b
  ta : a.natAbs < 2 ^ 200
  tb : b.natAbs < 2 ^ 200
theorem FrAt.same {H H' : Hp} {x : Addr} {a b : Int} (h : FrAt H x a b) (s : Same H H') : FrAt H' x a b := ⟨s _ _ h.at_, h.low, h.ta, h.tb⟩
theorem FrAt.fr {H H' : Hp} {x p : Addr} {a b : Int} {n : Nat} (h : FrAt H x a b) (B : BoxAt H p n) (f : Fr p H H') : FrAt H' x a b := ⟨f.tup B h.at_, h.low, h.ta, h.tb⟩
/-- a new pair of two numbers' lowest terms -/
def sp_low : Sp := fun vs H Q _ => ∃ t b : Int, vs = [.int t, .int b] ∧ b ≠ 0 ∧ t.natAbs < 2 ^ 2000 ∧ b.natAbs < 2 ^ 2000 ∧ ∀ p H', Same H H' → H p = none → H' p = some (.tup [.int (low t b).1, .int (low t b).2]) → Q (.ref p) H'
/-- two pairs in, low of what f and g say of them out -/
def sp_two (K : PySem.W.Frag) (f g : Int → Int → Int → Int → Int) : Sp := fun vs H Q _ => ∃ (x y : Addr) (a b c d : Int), vs = [.ref x, .ref y] ∧ SqT K H x [.int a, .int b] ∧ SqT K H y [.int c, .int d] ∧ g a b c d ≠ 0 ∧ a.natAbs < 2 ^ 900 ∧ b.natAbs < 2 ^ 900 ∧ c.natAbs < 2 ^ 900 ∧ d.natAbs < 2 ^ 900 ∧
  ∀ p H', Same H H' → H p = none → H' p = some (.tup [.int (low (f a b c d) (g a b c d)).1, .int (low (f a b c d) (g a b c d)).2]) → Q (.ref p) H'
/-- by a divisor turned about -/
theorem fdiv_neg {t g : Int} (h : g ∣ t) : t.fdiv (-g) = t / g * -1 := by
  obtain ⟨z, rfl⟩ := h
  by_cases c : g = 0
  · subst c
    simp
  · rw [Int.mul_ediv_cancel_left _ c, show g * z = (-g) * (-z) by grind, Int.mul_fdiv_cancel_left _ (by omega)]
    omega

/-! data of the law's own making, n deep -/
theorem Same.put {H0 H : Hp} {D : Addr} {o : HO} (s : Same H0 H) (h : H0 D = none) : Same H0 (upd H D o) := fun b u e => by
  rw [upd_ne (ne_of_none e h)]
  exact s b u e
inductive Dt (H : Hp) : Nat → V → PyData → Prop
  | non (n : Nat) : Dt H (n + 1) .non .none
  | bl (n : Nat) (b : Bool) : Dt H (n + 1) (.bl b) (.bool b)
  | int (n : Nat) (i : Int) : Dt H (n + 1) (.int i) (.int i)
  | str (n : Nat) (x : Str) (ok : PyData.canLay0 (.str x) = true) : Dt H (n + 1) (.str x) (.str x)
  | lst {n : Nat} {a : Addr} {xs : List V} {ds : List PyData} : H a = some (.lst xs) → xs.length = ds.length → xs.length ≤ 100000 → (∀ (i : Nat) (x : V) (d : PyData), xs[i]? = some x → ds[i]? = some d → Dt H n x d) → Dt H (n + 1) (.ref a) (.list ds)
  | tup {n : Nat} {a : Addr} {xs : List V} {ds : List PyData} : H a = some (.tup xs) → xs.length = ds.length → xs.length ≤ 100000 → (∀ (i : Nat) (x : V) (d : PyData), xs[i]? = some x → ds[i]? = some d → Dt H n x d) → Dt H (n + 1) (.ref a) (.tuple ds)
theorem Dt.same {H H' : Hp} (s : Same H H') : ∀ {n : Nat} {v : V} {d : PyData}, Dt H n v d → Dt H' n v d := by
  intro n v d h
  induction h with
  | non n => exact .non n
  | bl n b => exact .bl n b
  | int n i => exact .int n i
  | str n x ok => exact .str n x ok
  | lst h1 h2 h3 _ ih => exact .lst (s _ _ h1) h2 h3 ih
  | tup h1 h2 h3 _ ih => exact .tup (s _ _ h1) h2 h3 ih
theorem Dt.up {H : Hp} {n m : Nat} {v : V} {d : PyData} (h : Dt H n v d) : n ≤ m → Dt H m v d := by
  intro le
  induction h generalizing m with
  | non n => obtain ⟨k, rfl⟩ : ∃ k, m = k + 1 := ⟨m - 1, by omega⟩; exact .non k
  | bl n b => obtain ⟨k, rfl⟩ : ∃ k, m = k + 1 := ⟨m - 1, by omega⟩; exact .bl k b
  | int n i => obtain ⟨k, rfl⟩ : ∃ k, m = k + 1 := ⟨m - 1, by omega⟩; exact .int k i
  | str n x ok => obtain ⟨k, rfl⟩ : ∃ k, m = k + 1 := ⟨m - 1, by omega⟩; exact .str k x ok
  | lst h1 h2 h3 _ ih => obtain ⟨k, rfl⟩ : ∃ k, m = k + 1 := ⟨m - 1, by omega⟩; exact .lst h1 h2 h3 fun i x d a b => ih i x d a b (by omega)
  | tup h1 h2 h3 _ ih => obtain ⟨k, rfl⟩ : ∃ k, m = k + 1 := ⟨m - 1, by omega⟩; exact .tup h1 h2 h3 fun i x d a b => ih i x d a b (by omega)
theorem Dt.tup2 {H : Hp} {n : Nat} {a : Addr} {x y : V} {d e : PyData} (h : H a = some (.tup [x, y])) (h1 : Dt H n x d) (h2 : Dt H n y e) : Dt H (n + 1) (.ref a) (.tuple [d, e]) :=
  .tup h rfl (by show 2 ≤ 100000; decide) fun i u v hu hv => match i, hu, hv with
    | 0, hu, hv => by cases hu; cases hv; exact h1
    | 1, hu, hv => by cases hu; cases hv; exact h2
    | i + 2, hu, _ => by simp at hu
theorem Dt.pair {H : Hp} {a : Addr} {t b : Int} (h : H a = some (.tup [.int t, .int b])) : Dt H 2 (.ref a) (.tuple [.int t, .int b]) := .tup2 h (.int 0 t) (.int 0 b)
theorem Dt.lst2 {H : Hp} {n : Nat} {a : Addr} {x y : V} {d e : PyData} (h : H a = some (.lst [x, y])) (h1 : Dt H n x d) (h2 : Dt H n y e) : Dt H (n + 1) (.ref a) (.list [d, e]) :=
  .lst h rfl (by show 2 ≤ 100000; decide) fun i u v hu hv => match i, hu, hv with
    | 0, hu, hv => by cases hu; cases hv; exact h1
    | 1, hu, hv => by cases hu; cases hv; exact h2
    | i + 2, hu, _ => by simp at hu
theorem Dt.lst3 {H : Hp} {n : Nat} {a : Addr} {x y z : V} {d e f : PyData} (h : H a = some (.lst [x, y, z])) (h1 : Dt H n x d) (h2 : Dt H n y e) (h3 : Dt H n z f) : Dt H (n + 1) (.ref a) (.list [d, e, f]) :=
  .lst h rfl (by show 3 ≤ 100000; decide) fun i u v hu hv => match i, hu, hv with
    | 0, hu, hv => by cases hu; cases hv; exact h1
    | 1, hu, hv => by cases hu; cases hv; exact h2
    | 2, hu, hv => by cases hu; cases hv; exact h3
    | i + 3, hu, _ => by simp at hu
/-- a comprehension over pairs: J hands out a new tuple of px i and py i at each of n turns, while St stands -/
theorem lc_pair {J : It} {n : Nat} {St : Hp → Prop} {px py : Nat → V} (hgo : ∀ i H, i < n → St H → J.go i H) (hst : ∀ H, St H → J.stop n H)
    (hy : ∀ i H v H', i < n → St H → J.yld i H v H' → ∃ T, v = .ref T ∧ H T = none ∧ H' = upd H T (.tup [px i, py i]))
    {g : TG} {tt : TT} {te : TE} {vs : List Nat} {σ : L2.St} {H1 : Hp} {D : Addr} {Qd : Hp → Prop} (Pv : Nat → Hp → Prop) (h0 : Pv 0 (upd H1 D (.lst []))) (hq : ∀ i H, i ≤ n → Pv i H → St H)
    (hs : ∀ i T H, i < n → Pv i H → H T = none → g (.ref T) (wipe σ vs) (upd H T (.tup [px i, py i])) fun σ2 H2 => wipe σ2 vs = wipe σ vs ∧ tt σ2 H2 fun b H3 =>
      if b = true then te σ2 H3 fun y H4 => ∃ acc, H4 D = some (.lst acc) ∧ acc.length < sizeLine ∧ Pv (i + 1) (upd H4 D (.lst (acc ++ [y]))) else Pv (i + 1) H3) (hd : ∀ H, Pv n H → Qd H) :
    ∃ W : Nat → Nat → Hp → Prop, (∃ m, W 0 m (upd H1 D (.lst []))) ∧ ∀ i m H, W i m H →
      (J.stop i H ∧ Qd H) ∨ (J.go i H ∧ ∃ Nx : Hp → Prop, (∀ H', Nx H' → ∃ m', m' < m ∧ W (i + 1) m' H') ∧ ∀ x H', J.yld i H x H' → g x (wipe σ vs) H' fun σ2 H2 => wipe σ2 vs = wipe σ vs ∧ tt σ2 H2 fun b H3 =>
        if b = true then te σ2 H3 fun y H4 => ∃ acc, H4 D = some (.lst acc) ∧ acc.length < sizeLine ∧ Nx (upd H4 D (.lst (acc ++ [y]))) else Nx H3) := by
  refine ⟨fun i m H => i + m = n ∧ Pv i H, ⟨n, by omega, h0⟩, fun i m H w => ?_⟩
  obtain ⟨e, p⟩ := w
  have q := hq i H (by omega) p
  rcases Nat.lt_or_ge i n with lt | ge
  · refine Or.inr ⟨hgo i H lt q, Pv (i + 1), fun H' p' => ⟨m - 1, by omega, by omega, p'⟩, fun x H' y => ?_⟩
    obtain ⟨T, rfl, nT, rfl⟩ := hy i H x H' lt q y
    exact hs i T H lt p nT
  · obtain rfl : i = n := by omega
    exact Or.inl ⟨hst H q, hd H p⟩
theorem zipL_go {K : PySem.W.Frag} {a b : Addr} {xs ys : List V} {n : Nat} (h1 : xs.length = n) (h2 : ys.length = n) {i : Nat} {H : Hp} (lt : i < n) (q : SqL K H a xs ∧ SqL K H b ys) : (Itz K a b).go i H :=
  ⟨xs, ys, _, _, q.1, q.2, List.getElem?_eq_getElem (by omega), List.getElem?_eq_getElem (by omega)⟩
theorem zipL_stop {K : PySem.W.Frag} {a b : Addr} {xs ys : List V} {n : Nat} (h1 : xs.length = n) {H : Hp} (q : SqL K H a xs ∧ SqL K H b ys) : (Itz K a b).stop n H := ⟨xs, ys, q.1, q.2, .inl (by omega)⟩
theorem zipL_yld {K : PySem.W.Frag} {a b : Addr} {xs ys : List V} {n : Nat} (h1 : xs.length = n) (h2 : ys.length = n) {i : Nat} {H H' : Hp} {v : V} (lt : i < n) (q : SqL K H a xs ∧ SqL K H b ys) (y : (Itz K a b).yld i H v H') :
    ∃ T, v = .ref T ∧ H T = none ∧ H' = upd H T (.tup [xs.getD i .non, ys.getD i .non]) := by
  obtain ⟨T, x, y, rfl, nT, rfl, f1, f2⟩ := y
  refine ⟨T, rfl, nT, ?_⟩
  rw [List.getD_eq_getElem?_getD, List.getD_eq_getElem?_getD, f1 _ q.1, f2 _ q.2] <;> rfl
theorem zipT_go {K : PySem.W.Frag} {a b : Addr} {xs ys : List V} {n : Nat} (h1 : xs.length = n) (h2 : ys.length = n) {i : Nat} {H : Hp} (lt : i < n) (q : SqT K H a xs ∧ SqT K H b ys) : (RZ.ItzT K a b).go i H :=
  ⟨xs, ys, _, _, q.1, q.2, List.getElem?_eq_getElem (by omega), List.getElem?_eq_getElem (by omega)⟩
theorem zipT_stop {K : PySem.W.Frag} {a b : Addr} {xs ys : List V} {n : Nat} (h1 : xs.length = n) {H : Hp} (q : SqT K H a xs ∧ SqT K H b ys) : (RZ.ItzT K a b).stop n H := ⟨xs, ys, q.1, q.2, .inl (by omega)⟩
theorem zipT_yld {K : PySem.W.Frag} {a b : Addr} {xs ys : List V} {n : Nat} (h1 : xs.length = n) (h2 : ys.length = n) {i : Nat} {H H' : Hp} {v : V} (lt : i < n) (q : SqT K H a xs ∧ SqT K H b ys) (y : (RZ.ItzT K a b).yld i H v H') :
    ∃ T, v = .ref T ∧ H T = none ∧ H' = upd H T (.tup [xs.getD i .non, ys.getD i .non]) := by
  obtain ⟨T, x, y, rfl, nT, rfl, f1, f2⟩ := y
  refine ⟨T, rfl, nT, ?_⟩
  rw [List.getD_eq_getElem?_getD, List.getD_eq_getElem?_getD, f1 _ q.1, f2 _ q.2] <;> rfl
theorem getD_of {xs : List V} {i : Nat} (h : i < xs.length) : xs[i]? = some (xs.getD i .non) := by
  rw [List.getD_eq_getElem?_getD, List.getElem?_eq_getElem h] <;> rfl
theorem yesT {σ : L2.St} {H : Hp} {A B : Hp → Prop} (h : A H) : tYes σ H fun b H3 => if b = true then A H3 else B H3 := iteT (A := A H) (B := B H) h
/-- True so often -/
theorem all_true (n : Nat) : (List.replicate n true).map V.bl = List.replicate n (V.bl true) ∧ (List.replicate n true).all id = true := by
  refine ⟨List.map_replicate, ?_⟩
  induction n with
  | zero => rfl
  | succ n ih => rw [List.replicate_succ, List.all_cons, ih] <;> rfl

/-- a def of the text, where it stands and how it is called -/
structure Def (K : PySem.W.Frag) (mg : Str → Option Value) (name : Str) (st : Stmt) (f : Addr) (fd : FuncData) (ps : List Str) : Prop where
  fn : Fun K name name st f fd
  mg : mg name = some (.ref f)
  b : Binds K fd ps []
/-! rules whose written part is a letter -/
section
variable {X : Cx} {K : PySem.W.Frag}
theorem ixL (h : X.K = K) : IxR X (rIxL K) := h ▸ ix_list
theorem ixT (h : X.K = K) : IxR X (rIxT K) := h ▸ ix_tup
theorem ixQ (h : X.K = K) : IxR X (rIx K) := h ▸ ix_seq
def rLenQ (K : PySem.W.Frag) : List V → Hp → VK → Prop := fun xs H Q => ∃ p ys, xs = [.ref p] ∧ (SqL K H p ys ∨ SqT K H p ys) ∧ Q (.int (ys.length : Nat)) H
theorem lenQ (h : X.K = K) : CallR X (.builtin "len") (rLenQ K) := h ▸ call_len_seq
def rLenA (K : PySem.W.Frag) : List V → Hp → VK → Prop := fun xs H Q => ∃ x n, xs = [x] ∧ LenV K x H n ∧ Q (.int (n : Nat)) H
theorem lenA (h : X.K = K) : CallR X (.builtin "len") (rLenA K) := h ▸ call_len
theorem isiK (h : X.K = K) : CallR X (.builtin "isinstance") (rIsi K) := h ▸ call_isi
theorem isiTK (h : X.K = K) : CallR X (.builtin "isinstance") (rIsiT K) := h ▸ call_isiT
theorem allK (h : X.K = K) (hc : X.calm = true) : CallR X (.builtin "all") (rAll K) := h ▸ cr_all hc
theorem anyK (h : X.K = K) (hc : X.calm = true) : CallR X (.builtin "any") (rAny K) := h ▸ cr_any hc
theorem sumK (h : X.K = K) (hc : X.calm = true) : CallR X (.builtin "sum") (rSum K) := h ▸ cr_sum hc
theorem eqDK (h : X.K = K) (hu : X.A.units + 64 < cLine) : OpR X (compareOp .Eq) (rEqD K) := h ▸ op_eqD hu
theorem neDK (h : X.K = K) (hu : X.A.units + 64 < cLine) : OpR X (compareOp .NotEq) (rNeD K) := h ▸ op_neD hu
theorem inQ (h : X.K = K) : OpR X (compareOp .In) (rIn K false) := h ▸ op_in_seq
theorem notInQ (h : X.K = K) : OpR X (compareOp .NotIn) (rIn K true) := h ▸ op_notIn_seq
theorem pi_listK {tg l : Expr} {tl : TE} (h : X.K = K) (hl : PE X l tl) : PI X tg l (iList K tl) := h ▸ pi_list hl
theorem pi_tupK {tg l : Expr} {tl : TE} (h : X.K = K) (hl : PE X l tl) : PI X tg l (iTup K tl) := h ▸ pi_tup hl
theorem pi_zipK {e e2 : Expr} {ta : TA} {p pos tpos : Pos} {elts : List Expr} {kk : Nat} (h : X.K = K) (hg : Gl X "zip") (hm : X.mg "zip" = none) (ha : PA X [e, e2] ta)
    (hs : starEach [e, e2] X.env = (false, eval e X.env) :: starEach [e2] X.env := by rfl) (hpl : (backTo pos (starEach [e2] X.env)).any (·.1) = false := by rfl) :
    PI X (.Tuple elts kk tpos) (.Call (.Name "zip" p) [e, e2] [] pos) (RZ.iZipA K ta) := h ▸ RZ.pi_zipA hg hm ha hs hpl
theorem pi_enumK {e : Expr} {ta : TA} {p pos tpos : Pos} {elts : List Expr} {kk : Nat} (h : X.K = K) (hg : Gl X "enumerate") (hm : X.mg "enumerate" = none) (ha : PA X [e] ta) (hs : starEach [e] X.env = [(false, eval e X.env)] := by rfl) :
    PI X (.Tuple elts kk tpos) (.Call (.Name "enumerate" p) [e] [] pos) (iEnum K ta) := h ▸ pi_enum hg hm ha hs
theorem pg_tupK {es : List Expr} {k : Nat} {pos : Pos} {t : TGs} {n : Nat} (h : X.K = K) (hc : X.calm = true) (ht : PGs X es t) (hn : (assignEach es X.env).length = n := by rfl) (hst : (assignEach es X.env).findIdx? (·.1) = none := by rfl) :
    PG X (.Tuple es k pos) (gTup K n t) := h ▸ pg_tup hc ht hn hst
/-- a new slice, a new list of what a thing holds -/
def rSlLI (K : PySem.W.Frag) : V → Option Int → Option Int → Hp → VK → Prop := fun x lo hi H Q => ∃ a xs, x = .ref a ∧ SqL K H a xs ∧ ∀ p H', Same H H' → H p = none → H' p = some (.lst (cutV xs lo hi)) → Q (.ref p) H'
theorem slL (h : X.K = K) : SlR X (rSlLI K) := fun pins s σ H x v vl vu lo hi sl Q I rx hs pl pu ⟨a, xs, e, q, k⟩ =>
  sl_list pins s σ H x v vl vu lo hi sl Q I rx hs pl pu ⟨a, xs, e, h ▸ q, fun p hp => k p _ (same_new hp) hp upd_same⟩
def rListI (K : PySem.W.Frag) : List V → Hp → VK → Prop := fun xs H Q => ∃ p ys, xs = [.ref p] ∧ (SqL K H p ys ∨ SqT K H p ys) ∧ ∀ l H', Same H H' → H l = none → H' l = some (.lst ys) → Q (.ref l) H'
theorem listI (h : X.K = K) : CallR X (.type "list") (rListI K) := fun pins s σ H xs us Q I r ⟨p, ys, e, q, k⟩ =>
  call_list_of pins s σ H xs us Q I r ⟨p, ys, e, h ▸ q, fun l hl => k l _ (same_new hl) hl upd_same⟩
end
/-! lists of fractions: addresses, tops, bottoms -/
abbrev Fq := Addr × Int × Int
def refs (l : List Fq) : List V := l.map fun z => V.ref z.1
def dat (z : Fq) : PyData := .tuple [.int z.2.1, .int z.2.2]
structure FqAt (H : Hp) (n : Nat) (z : Fq) : Prop where
  at_ : H z.1 = some (.tup [.int z.2.1, .int z.2.2])
  low : IsLow z.2.1 z.2.2
  ta : z.2.1.natAbs ≤ 10 ^ 41 + n
  tb : z.2.2.natAbs ≤ 10 ^ 41 + n
def FrL (H : Hp) (n : Nat) (l : List Fq) : Prop := ∀ z ∈ l, FqAt H n z
theorem FqAt.fr {H H' : Hp} {p : Addr} {n m k : Nat} {z : Fq} (h : FqAt H n z) (B : BoxAt H p m) (f : Fr p H H') (le : n ≤ k) : FqAt H' k z := ⟨f.tup B h.at_, h.low, by have := h.ta; omega, by have := h.tb; omega⟩
theorem FqAt.same {H H' : Hp} {n : Nat} {z : Fq} (h : FqAt H n z) (s : Same H H') : FqAt H' n z := ⟨s _ _ h.at_, h.low, h.ta, h.tb⟩
theorem FrL.fr {H H' : Hp} {p : Addr} {n m k : Nat} {l : List Fq} (h : FrL H n l) (B : BoxAt H p m) (f : Fr p H H') (le : n ≤ k) : FrL H' k l := fun z hz => (h z hz).fr B f le
theorem FrL.same {H H' : Hp} {n : Nat} {l : List Fq} (h : FrL H n l) (s : Same H H') : FrL H' n l := fun z hz => (h z hz).same s
theorem FqAt.wide {H : Hp} {n : Nat} {z : Fq} (h : FqAt H n z) (le : n ≤ 1000) : z.2.1.natAbs < 2 ^ 200 ∧ z.2.2.natAbs < 2 ^ 200 := by
  have h1 := h.ta
  have h2 := h.tb
  have e : 10 ^ 41 + 1000 < 2 ^ 200 := by decide
  omega
theorem refs_len (l : List Fq) : (refs l).length = l.length := List.length_map _
theorem refs_get {l : List Fq} {i : Nat} {z : Fq} (h : l[i]? = some z) : (refs l)[i]? = some (.ref z.1) := by
  unfold refs
  rw [List.getElem?_map, h] <;> rfl
theorem refs_of {l : List Fq} {i : Nat} {x : V} (h : (refs l)[i]? = some x) : ∃ z, l[i]? = some z ∧ x = .ref z.1 := by
  unfold refs at h
  rw [List.getElem?_map] at h
  cases e : l[i]? with
  | none =>
    rw [e] at h
    cases h
  | some z =>
    rw [e] at h
    exact ⟨z, rfl, (Option.some.inj h).symm⟩
theorem dp_pair {K : PySem.W.Frag} {H : Hp} {a : Addr} {t b : Int} (h : H a = some (.tup [.int t, .int b])) : Dp K H (.ref a) (.tuple [.int t, .int b]) := .tup (SqT.of h) (.cons (.int _) (.cons (.int _) .nil))
theorem FrL.dps {K : PySem.W.Frag} {H : Hp} {n : Nat} : ∀ {l : List Fq}, FrL H n l → DpAll K H (refs l) (l.map dat)
  | [], _ => .nil
  | z :: r, h => .cons (dp_pair (h z List.mem_cons_self).at_) (FrL.dps fun y hy => h y (List.mem_cons_of_mem _ hy))
theorem dats_lay (l : List Fq) : PyData.canLayAll0 (l.map dat) = true ∧ PyData.depthAll (l.map dat) ≤ 1 := by
  induction l with
  | nil => exact ⟨rfl, by decide⟩
  | cons z r ih =>
    refine ⟨?_, ?_⟩
    · show (PyData.canLay0 (dat z) && PyData.canLayAll0 (r.map dat)) = true
      rw [ih.1]
      rfl
    · show max (PyData.depth (dat z)) (PyData.depthAll (r.map dat)) ≤ 1
      have e : PyData.depth (dat z) = 1 := rfl
      omega
theorem dats_shaped (l : List Fq) : SeqAt.shaped (.list (l.map dat)) = true := by
  obtain ⟨h1, h2⟩ := dats_lay l
  show (PyData.canLayAll0 (l.map dat) && decide (PyData.depthAll (l.map dat) + 1 ≤ 64)) = true
  rw [h1, decide_eq_true (by omega)] <;> rfl
theorem dats_nil (l : List Fq) : PyData.eqv (.list (l.map dat)) (.list []) = l.isEmpty := by
  cases l <;> rfl
theorem eqv_pair {a b c d : Int} : PyData.eqv (.tuple [.int a, .int b]) (.tuple [.int c, .int d]) = decide (a = c ∧ b = d) := by
  show ((a == c) && ((b == d) && true)) = decide (a = c ∧ b = d)
  rw [Bool.and_true, Bool.decide_and]
  rfl
/-! data of any make beside the box p -/
inductive Da (p : Addr) (H : Hp) : Nat → V → PyData → Prop
  | non (n : Nat) : Da p H (n + 1) .non .none
  | bl (n : Nat) (b : Bool) : Da p H (n + 1) (.bl b) (.bool b)
  | int (n : Nat) (i : Int) : Da p H (n + 1) (.int i) (.int i)
  | str (n : Nat) (x : Str) : Da p H (n + 1) (.str x) (.str x)
  | lst {n : Nat} {a : Addr} {xs : List V} {ds : List PyData} : a ≠ p → H a = some (.lst xs) → xs.length = ds.length → xs.length ≤ 100000 → (∀ (i : Nat) (x : V) (d : PyData), xs[i]? = some x → ds[i]? = some d → Da p H n x d) → Da p H (n + 1) (.ref a) (.list ds)
  | tup {n : Nat} {a : Addr} {xs : List V} {ds : List PyData} : a ≠ p → H a = some (.tup xs) → xs.length = ds.length → xs.length ≤ 100000 → (∀ (i : Nat) (x : V) (d : PyData), xs[i]? = some x → ds[i]? = some d → Da p H n x d) → Da p H (n + 1) (.ref a) (.tuple ds)
theorem Da.fr {p : Addr} {H H' : Hp} (s : Fr p H H') : ∀ {n : Nat} {v : V} {d : PyData}, Da p H n v d → Da p H' n v d := by
  intro n v d h
  induction h with
  | non n => exact .non n
  | bl n b => exact .bl n b
  | int n i => exact .int n i
  | str n x => exact .str n x
  | lst h0 h1 h2 h3 _ ih => exact .lst h0 (s _ _ h0 h1) h2 h3 ih
  | tup h0 h1 h2 h3 _ ih => exact .tup h0 (s _ _ h0 h1) h2 h3 ih
theorem Da.up {p : Addr} {H : Hp} {n m : Nat} {v : V} {d : PyData} (h : Da p H n v d) : n ≤ m → Da p H m v d := by
  intro le
  induction h generalizing m with
  | non n => obtain ⟨k, rfl⟩ : ∃ k, m = k + 1 := ⟨m - 1, by omega⟩; exact .non k
  | bl n b => obtain ⟨k, rfl⟩ : ∃ k, m = k + 1 := ⟨m - 1, by omega⟩; exact .bl k b
  | int n i => obtain ⟨k, rfl⟩ : ∃ k, m = k + 1 := ⟨m - 1, by omega⟩; exact .int k i
  | str n x => obtain ⟨k, rfl⟩ : ∃ k, m = k + 1 := ⟨m - 1, by omega⟩; exact .str k x
  | lst h0 h1 h2 h3 _ ih => obtain ⟨k, rfl⟩ : ∃ k, m = k + 1 := ⟨m - 1, by omega⟩; exact .lst h0 h1 h2 h3 fun i x d a b => ih i x d a b (by omega)
  | tup h0 h1 h2 h3 _ ih => obtain ⟨k, rfl⟩ : ∃ k, m = k + 1 := ⟨m - 1, by omega⟩; exact .tup h0 h1 h2 h3 fun i x d a b => ih i x d a b (by omega)
/-- each of a row is such data -/
def AllDa (p : Addr) (H : Hp) (n : Nat) (xs : List V) : Prop := ∀ x ∈ xs, ∃ d, Da p H n x d
theorem AllDa.fr {p : Addr} {H H' : Hp} {n : Nat} {xs : List V} (h : AllDa p H n xs) (s : Fr p H H') : AllDa p H' n xs := fun x hx => (h x hx).elim fun d q => ⟨d, q.fr s⟩
theorem AllDa.up {p : Addr} {H : Hp} {n m : Nat} {xs : List V} (h : AllDa p H n xs) (le : n ≤ m) : AllDa p H m xs := fun x hx => (h x hx).elim fun d q => ⟨d, q.up le⟩
theorem AllDa.nil {p : Addr} {H : Hp} {n : Nat} : AllDa p H n [] := fun x hx => absurd hx List.not_mem_nil
theorem AllDa.cons {p : Addr} {H : Hp} {n : Nat} {x : V} {xs : List V} (h : ∃ d, Da p H n x d) (t : AllDa p H n xs) : AllDa p H n (x :: xs) := fun y hy => by
  rcases List.mem_cons.mp hy with e | e
  · rw [e]
    exact h
  · exact t y e
theorem AllDa.append {p : Addr} {H : Hp} {n : Nat} {xs ys : List V} (h : AllDa p H n xs) (t : AllDa p H n ys) : AllDa p H n (xs ++ ys) := fun y hy => by
  rcases List.mem_append.mp hy with e | e
  · exact h y e
  · exact t y e
/-- what the datas of a row are -/
theorem AllDa.pick {p : Addr} {H : Hp} {n : Nat} : ∀ {xs : List V}, AllDa p H n xs → ∃ ds : List PyData, xs.length = ds.length ∧ ∀ (i : Nat) (x : V) (d : PyData), xs[i]? = some x → ds[i]? = some d → Da p H n x d
  | [], _ => ⟨[], rfl, fun i x d h => by simp at h⟩
  | x :: xs, h => by
    obtain ⟨d, q⟩ := h x List.mem_cons_self
    obtain ⟨ds, e, r⟩ := AllDa.pick (xs := xs) fun y hy => h y (List.mem_cons_of_mem _ hy)
    refine ⟨d :: ds, by rw [List.length_cons, List.length_cons, e], fun i y c h1 h2 => ?_⟩
    match i, h1, h2 with
    | 0, h1, h2 => cases h1; cases h2; exact q
    | i + 1, h1, h2 => exact r i y c h1 h2
theorem AllDa.tup {p : Addr} {H : Hp} {n : Nat} {xs : List V} {a : Addr} (h : AllDa p H n xs) (ne : a ≠ p) (e : H a = some (.tup xs)) (z : Nat.ble xs.length 100000 = true := by rfl) : ∃ d, Da p H (n + 1) (.ref a) d := by
  obtain ⟨ds, l, r⟩ := h.pick
  exact ⟨_, .tup ne e l (Nat.le_of_ble_eq_true z) r⟩
theorem AllDa.lst {p : Addr} {H : Hp} {n : Nat} {xs : List V} {a : Addr} (h : AllDa p H n xs) (ne : a ≠ p) (e : H a = some (.lst xs)) (z : Nat.ble xs.length 100000 = true := by rfl) : ∃ d, Da p H (n + 1) (.ref a) d := by
  obtain ⟨ds, l, r⟩ := h.pick
  exact ⟨_, .lst ne e l (Nat.le_of_ble_eq_true z) r⟩
theorem daI {p : Addr} {H : Hp} {n : Nat} (i : Int) : ∃ d, Da p H (n + 1) (.int i) d := ⟨_, .int n i⟩
theorem daB {p : Addr} {H : Hp} {n : Nat} (b : Bool) : ∃ d, Da p H (n + 1) (.bl b) d := ⟨_, .bl n b⟩
theorem daS {p : Addr} {H : Hp} {n : Nat} (x : Str) : ∃ d, Da p H (n + 1) (.str x) d := ⟨_, .str n x⟩
theorem daN {p : Addr} {H : Hp} {n : Nat} : ∃ d, Da p H (n + 1) .non d := ⟨_, .non n⟩
theorem AllDa.one {p : Addr} {H : Hp} {n m : Nat} {x : V} (h : ∃ d, Da p H n x d) (le : n ≤ m) : AllDa p H m [x] := .cons (h.elim fun d q => ⟨d, q.up le⟩) .nil
theorem AllDa.two {p : Addr} {H : Hp} {n : Nat} {x y : V} (h : ∃ d, Da p H n x d) (k : ∃ d, Da p H n y d) : AllDa p H n [x, y] := .cons h (.cons k .nil)
theorem da_fr {p : Addr} {H H' : Hp} {n : Nat} {v : V} (h : ∃ d, Da p H n v d) (s : Fr p H H') : ∃ d, Da p H' n v d := h.elim fun d q => ⟨d, q.fr s⟩
theorem da_up {p : Addr} {H : Hp} {n m : Nat} {v : V} (h : ∃ d, Da p H n v d) (le : n ≤ m) : ∃ d, Da p H m v d := h.elim fun d q => ⟨d, q.up le⟩
theorem BoxAt.new {H : Hp} {p a : Addr} {n : Nat} (h : BoxAt H p n) (e : H a = none) : a ≠ p := by
  obtain ⟨o, ho⟩ := h.some
  exact (ne_of_none ho e).symm
/-- an item at a place that is there -/
theorem at_some {xs : List V} {z : Int} (h0 : 0 ≤ z) (h1 : z < (xs.length : Int)) : ∃ v, atI xs z = some v ∧ v ∈ xs := by
  have g : xs[z.toNat]? = some xs[z.toNat] := List.getElem?_eq_getElem (by omega)
  exact ⟨_, at_of (j := z.toNat) (by omega) g, List.getElem_mem _⟩
/-- which kinds of built-in classes a data is of -/
def isTupD : PyData → Bool
  | .tuple _ => true
  | _ => false
def isIntD : PyData → Bool
  | .int _ => true
  | .bool _ => true
  | _ => false
def isBoolD : PyData → Bool
  | .bool _ => true
  | _ => false
def isListD : PyData → Bool
  | .list _ => true
  | _ => false
def isStrD : PyData → Bool
  | .str _ => true
  | _ => false
structure Kinds (K : PySem.W.Frag) (H : Hp) (v : V) (d : PyData) (t : String) : Prop where
  ty : TyX K H v (.type t)
  tup : kitB t "tuple" = some (isTupD d)
  lst : kitB t "list" = some (isListD d)
  int : kitB t "int" = some (isIntD d)
  bool : kitB t "bool" = some (isBoolD d)
  str : kitB t "str" = some (isStrD d)
theorem Da.kinds {K : PySem.W.Frag} {p : Addr} {H : Hp} {n : Nat} {v : V} {d : PyData} (h : Da p H n v d) : ∃ t, Kinds K H v d t := by
  cases h with
  | non => exact ⟨"NoneType", .base .non, by decide +kernel, by decide +kernel, by decide +kernel, by decide +kernel, by decide +kernel⟩
  | bl _ b => exact ⟨"bool", .base (.bl b), by show _ = some false; decide +kernel, by show _ = some false; decide +kernel, by show _ = some true; decide +kernel, by show _ = some true; decide +kernel, by show _ = some false; decide +kernel⟩
  | int _ i => exact ⟨"int", .base (.int i), by show _ = some false; decide +kernel, by show _ = some false; decide +kernel, by show _ = some true; decide +kernel, by show _ = some false; decide +kernel, by show _ = some false; decide +kernel⟩
  | str _ x => exact ⟨"str", .base (.str x), by show _ = some false; decide +kernel, by show _ = some false; decide +kernel, by show _ = some false; decide +kernel, by show _ = some false; decide +kernel, by show _ = some true; decide +kernel⟩
  | lst _ a1 => exact ⟨"list", .base (.lst a1), by show _ = some false; decide +kernel, by show _ = some true; decide +kernel, by show _ = some false; decide +kernel, by show _ = some false; decide +kernel, by show _ = some false; decide +kernel⟩
  | tup _ a1 => exact ⟨"tuple", .base (.tup a1), by show _ = some true; decide +kernel, by show _ = some false; decide +kernel, by show _ = some false; decide +kernel, by show _ = some false; decide +kernel, by show _ = some false; decide +kernel⟩
/-- repr of a truth -/
theorem cr_reprB {X : Cx} : CallR X (.builtin "repr") (fun xs H Q => ∃ b : Bool, xs = [.bl b] ∧ Q (.str (if b = true then "True" else "False")) H) := by
  intro pins s σ H xs us Q I r h
  obtain ⟨b, rfl, q⟩ := h
  cases r with
  | cons r1 r2 =>
    cases r2
    cases r1
    exact PySem.P.repr_of_bool ⟨.str _, H, I.tok _, ⟨_, rfl⟩, q⟩
/-- xs + ys, a new list -/
def rCatI : R2 := fun x y H Q => ∃ l b xs zs, x = .ref l ∧ y = .ref b ∧ H l = some (.lst xs) ∧ H b = some (.lst zs) ∧ xs.length + zs.length ≤ sizeLine ∧ ∀ p H', Same H H' → H p = none → H' p = some (.lst (xs ++ zs)) → Q (.ref p) H'
theorem op_catI {X : Cx} : OpR X (binaryOp .Add) rCatI := fun pins s σ H x y v u Q I rx ry ⟨l, b, xs, zs, e1, e2, h1, h2, z, k⟩ =>
  op_cat pins s σ H x y v u Q I rx ry ⟨l, b, xs, zs, e1, e2, h1, h2, z, fun p hp => k p _ (same_new hp) hp upd_same⟩
/-- a number; a fraction -/
def isNumD (d : PyData) : Bool := isIntD d && !isBoolD d
def isFracD : PyData → Bool
  | .tuple [.int t, .int b] => decide (0 < b) && decide (Nat.gcd t.natAbs b.natAbs = 1)
  | _ => false
theorem frac_no {d e : PyData} (h : isNumD d = false ∨ isNumD e = false) : isFracD (.tuple [d, e]) = false := by
  cases d <;> cases e <;> first | rfl | (rcases h with h | h <;> cases h)
theorem frac_len {ds : List PyData} (h : ds.length ≠ 2) : isFracD (.tuple ds) = false := by
  match ds, h with
  | [], _ => rfl
  | [d], _ => cases d <;> rfl
  | [_, _], h => exact absurd rfl h
  | d :: e :: _ :: _, _ => cases d <;> cases e <;> rfl
theorem num_int {p : Addr} {H : Hp} {n : Nat} {v : V} {d : PyData} (h : Da p H n v d) (k : isNumD d = true) : ∃ i, d = .int i ∧ v = .int i := by
  cases h with
  | int _ i => exact ⟨i, rfl, rfl⟩
  | non => cases k
  | bl => cases k
  | str => cases k
  | lst => cases k
  | tup => cases k
/-- rows of truths as data -/
theorem dps_bools {K : PySem.W.Frag} {H : Hp} : ∀ bs : List Bool, DpAll K H (bs.map V.bl) (bs.map PyData.bool)
  | [] => .nil
  | b :: r => .cons (.bl b) (dps_bools r)
theorem bools_shaped (bs : List Bool) : SeqAt.shaped (.list (bs.map PyData.bool)) = true := by
  have h : PyData.canLayAll0 (bs.map PyData.bool) = true ∧ PyData.depthAll (bs.map PyData.bool) = 0 := by
    induction bs with
    | nil => exact ⟨rfl, rfl⟩
    | cons b r ih =>
      refine ⟨?_, ?_⟩
      · show (PyData.canLay0 (.bool b) && PyData.canLayAll0 (r.map PyData.bool)) = true
        rw [ih.1] <;> rfl
      · show max (PyData.depth (.bool b)) (PyData.depthAll (r.map PyData.bool)) = 0
        rw [ih.2] <;> rfl
  show (PyData.canLayAll0 (bs.map PyData.bool) && decide (PyData.depthAll (bs.map PyData.bool) + 1 ≤ 64)) = true
  rw [h.1, h.2] <;> rfl
theorem take_one {α : Type} {l : List α} {i : Nat} {x : α} (h : l[i]? = some x) : l.take (i + 1) = l.take i ++ [x] := by
  rw [List.take_add_one, h] <;> rfl
end KR
/-! ### texts -/
namespace KR
open PySem PySem.Spec PyProof.Rows L2
theorem strs_of : ∀ {ys : List Str} {us : List Value}, Vals (ys.map V.str) us → StrsAre us ys
  | [], _, .nil => .nil
  | y :: r, _, .cons h t => by
    obtain ⟨k, rfl⟩ := h
    exact .cons y k (strs_of t)
section
variable {X : Cx} {K : PySem.W.Frag}
/-- sep.join(it), it a list walked from its end -/
theorem join_rev {prog : Program} {w : World} {A : Around} {E : Value → Shared → Prop} {s : Shared} {x : Str} {t : Tok} {it l : Addr} {items : Array Value} {ys : List Str} {Q : Value → Shared → Prop} (hh : A.handled = none)
    (hit : s.heap.IsRevIter it l ((items.size : Int) - 1)) (hl : s.heap.IsList l items) (hne : l ≠ it) (hn : items.size ≤ sizeLine)
    (hP : ∀ acc : Array Value, ItemsOf (fun i v => items[items.size - 1 - i]? = some v) acc items.size → StrsAre acc.toList ys) (hok : (ys.map (·.length)).sum + ys.length * x.length ≤ 16777216)
    (hq : ∀ (h' : Heap) (t' k : Nat), (∀ b o, b ≠ it → s.heap.get? b = some o → h'.get? b = some o) → Q (.str (Txt.join x ys) t') { s with heap := h', toks := k }) :
    wpAny (model prog w) A (call (.builtin "str.join") [.str x t, .ref it]) Q E s := by
  apply wpAny_call
  refine codeAny_call_builtin F.slot_str_join.plain F.entry_str_join (F.slot_str_join.check _ _ _ _ _ _ _ _ (typeIs_str _ _ _) (F.args_str_join_2 _ _) ?_)
  rw [join_tree_other]
  refine wpAny_bind (wpAny_typeOf hit.typeIs ?_)
  show wpAny _ A.in1 ((pyIter (.ref it)).tryCatch _ >>= fun j => collect j >>= fun vs => joinTail x vs) _ _ s
  refine wpAny_bind (wpAny_tryCatch (wpAny_pyIter_revIter hit (wpAny_bind (RT.collect_rev (A := A.in1) hh hit hl hne hn fun h' tk acc hk hacc => ?_))))
  obtain ⟨ps, e1, e2⟩ := strsAre_values (hP acc hacc)
  subst e2
  rw [e1]
  have fits := joinOk_of hok
  unfold JoinOk at fits
  rw [Bool.not_eq_true'] at fits
  have g : Gives (joinTail x (strValues ps)) (joinMade x ps) := by
    have g0 := gives_joinTail x ps fits
    rcases ps with _ | ⟨a, _ | ⟨b, r⟩⟩ <;> exact g0
  exact g prog w A (wants Q E) { s with heap := h', toks := tk } (post_join ps ⟨joinFit_length fits, fun t' k => hq h' t' k hk⟩)
/-- sep.join(reversed(xs)), xs a list of texts -/
def tJoinRev (K : PySem.W.Frag) (to te : TE) : TE := fun σ H Q => to σ H fun x H1 => (∃ a, x = .str a) ∧ te σ H1 fun v H2 => ∃ (a : Str) (q : Addr) (ys : List Str), x = .str a ∧ v = .ref q ∧ SqL K H2 q (ys.map V.str) ∧ (ys.map (·.length)).sum + ys.length * a.length ≤ 16777216 ∧ Q (.str (Txt.join a ys.reverse)) H2
theorem sum_rev (l : List Nat) : l.reverse.sum = l.sum := by
  induction l with
  | nil => rfl
  | cons a r ih =>
    rw [List.reverse_cons, List.sum_append, ih, List.sum_cons, List.sum_cons, List.sum_nil]
    omega
theorem pe_joinRev {o e : Expr} {to te : TE} {apos pos p pos2 : Pos} (hK : X.K = K) (hc : X.calm = true) (hg : Gl X "reversed") (hm : X.mg "reversed" = none) (ho : PE X o to) (he : PE X e te)
    (hs1 : starEach [.Call (.Name "reversed" p) [e] [] pos2] X.env = [(false, eval (.Call (.Name "reversed" p) [e] [] pos2) X.env)] := by rfl) (hs : starEach [e] X.env = (false, eval e X.env) :: starEach [] X.env := by rfl)
    (hbase : attributeBase o "join" X.env (eval o X.env) = eval o X.env := by rfl) (hline : (apos.endLine == pos.line) = true := by rfl) :
    PE X (.Call (.Attribute o "join" apos) [.Call (.Name "reversed" p) [e] [] pos2] [] pos) (tJoinRev K to te) := by
  subst hK
  constructor
  intro pins s σ H Q I want
  refine PySem.Call_method1 hbase hs1 hline (thn (ho.run pins s σ H _ I want) ?_)
  rintro v s1 ⟨x, H1, I1, r1, ⟨a, rfl⟩, q1⟩
  obtain ⟨t, rfl⟩ : ∃ t, v = Value.str a t := r1
  refine ⟨"str", "str.join", F.plainAttrs_str, F.slot_str_join, F.type_str_join, typeIs_str _ _ _, nofun, Calls.callWith_builtin rfl (Calls.evalArgs_plain (Calls.spliced_cons ?_))⟩
  refine Call_ (ld_blt I1 hg hm PyProof.Rows.boot_reversed (PyProof.Rows.callWith_type1 (args_cons (thn (he.run pins s1 σ H1 _ I1 q1) ?_) hs) hs rfl))
  rintro u s2 ⟨y, H2, I2, r2, a', q, ys, ea, rfl, hq, hz, k⟩
  cases ea
  cases r2
  obtain ⟨its, rv, pl, hsz⟩ := I2.list hq
  refine args_nil (call_reversed_list pl.isList (Calls.spliced_nil ?_))
  have old : ∀ b o, s2.heap.get? b = some o → (s2.heap.push (revObj q ((its.toArray.size : Int) - 1))).get? b = some o := fun b o g => Heap.get?_push_of_some _ g
  obtain ⟨oq, hoq, _⟩ := id pl.isList
  have neq : q ≠ s2.heap.objs.size := Nat.ne_of_lt (Heap.lt_size hoq)
  have len : its.toArray.size ≤ sizeLine := by rw [List.size_toArray, ← rv.length]; exact hsz
  refine join_rev (s := { s2 with heap := s2.heap.push (revObj q ((its.toArray.size : Int) - 1)) }) (ys := ys.reverse) (I2.ok.hd hc) ⟨_, Heap.get?_push_size _ rfl, rfl, rfl⟩ (pl.isList.push _) neq len (fun acc hacc => strs_of ?_) ?_ fun h' t' k' keep => ?_
  · rw [List.map_reverse]
    exact RT.vals_rev rv hacc
  · rw [List.map_reverse, sum_rev, List.length_reverse]
    exact hz
  · exact ⟨.str _, H2, I2.kept (t' := k') (fun b o g => keep b o (Nat.ne_of_lt (Heap.lt_size g)) (old b o g)), ⟨t', rfl⟩, k⟩
end
/-! texts as rows of codes -/
abbrev S (l : List Nat) : Str := ⟨l.toArray⟩
theorem tl_S (l : List Nat) : TL.tl (S l) = l := rfl
theorem S_tl (x : Str) : S (TL.tl x) = x := TL.mk_tl x
theorem S_len (l : List Nat) : (S l).length = l.length := by rw [TL.len_tl]
theorem S_app (l m : List Nat) : S l ++ S m = S (l ++ m) := TL.ext_tl (by rw [TL.tl_append])
theorem S_inj {l m : List Nat} (h : S l = S m) : l = m := congrArg TL.tl h
theorem lit_minus : ("-" : Str) = S [45] := by decide +kernel
theorem lit_stroke : ("/" : Str) = S [47] := by decide +kernel
theorem lit_one : ("1" : Str) = S [49] := by decide +kernel
theorem lit_zero : ("0" : Str) = S [48] := by decide +kernel
theorem lit_none : ("" : Str) = S [] := by decide +kernel
theorem lit_empty : Str.empty = S [] := by decide +kernel
theorem lit_digits : ("0123456789" : Str) = S [48, 49, 50, 51, 52, 53, 54, 55, 56, 57] := by decide +kernel
theorem num_S (n : Nat) : Str.ofString (toString ((n : Nat) : Int)) = S (TL.numL n) := TL.ext_tl (TL.tl_num n)
theorem numL_cut (n : Nat) : TL.numL n = (if n / 10 = 0 then [] else TL.numL (n / 10)) ++ [48 + n % 10] := by
  by_cases h : n < 10
  · rw [TL.numL_lt h, if_pos (by omega), show n % 10 = n by omega] <;> rfl
  · rw [TL.numL_step (by omega), if_neg (by omega)]
theorem dig_at {k : Int} (h0 : 0 ≤ k) (h1 : k < 10) : atI ("0123456789" : Str).cps.toList k = some (48 + k.toNat) := by
  rw [lit_digits]
  have ks : k = 0 ∨ k = 1 ∨ k = 2 ∨ k = 3 ∨ k = 4 ∨ k = 5 ∨ k = 6 ∨ k = 7 ∨ k = 8 ∨ k = 9 := by omega
  rcases ks with e | e | e | e | e | e | e | e | e | e <;> subst e <;> rfl
theorem lit_len : ("0123456789" : Str).length ≤ sizeLine := by decide +kernel
/-- text times a number from 0 -/
theorem op_mul_str {X : Cx} : OpR X (binaryOp .Mult) (fun x y H Q => ∃ (a : Str) (n : Nat), x = .str a ∧ y = .int (n : Int) ∧ a.length * n ≤ 100000 ∧ n ≤ 100000 ∧ Q (.str (Txt.mul a n)) H) := by
  intro pins s σ H x y v u Q I rx ry h
  obtain ⟨a, n, rfl, rfl, hz, hn, q⟩ := h
  obtain ⟨t, rfl⟩ := rx
  obtain ⟨t', rfl⟩ := ry
  refine SB.mul ⟨?_, fun h1 h2 => ?_, fun h1 h2 => ?_⟩ fun t2 k => ⟨.str _, H, I.tok _, ⟨_, rfl⟩, q⟩
  · rw [decide_eq_false (by omega), decide_eq_false (by omega)] <;> rfl
  · have n1 : (1 : Int) ≤ (n : Int) := by omega
    intro bad
    have b2 : ((2 ^ 63 - 1 : Int)) / (n : Int) ≥ (2 ^ 63 - 1 : Int) / 100000 := by
      refine Int.le_ediv_of_mul_le (by omega) ?_
      have e : (2 ^ 63 - 1 : Int) / 100000 * (n : Int) ≤ (2 ^ 63 - 1 : Int) / 100000 * 100000 := Int.mul_le_mul_of_nonneg_left (by omega) (by decide)
      exact Int.le_trans e (by decide)
    have a9 : a.length ≤ 100000 := by
      have : a.length * 1 ≤ a.length * n := Nat.mul_le_mul_left _ (by omega)
      omega
    have e3 : (2 ^ 63 - 1 : Int) / 100000 = 92233720368547 := by decide
    omega
  · rw [Int.toNat_natCast]
    exact decide_eq_false (by have := small hz; omega)
theorem mul_zero (a : Str) : Txt.mul a ((0 : Nat) : Int) = S [] := by
  unfold Txt.mul
  rw [if_pos (by decide), lit_empty]
theorem mul_one (a : Str) : Txt.mul a ((1 : Nat) : Int) = a := by
  unfold Txt.mul
  rw [if_neg (by decide), if_pos (by rfl)]
/-- a minus ahead, cut off -/
theorem sub_minus (l : List Nat) : Builtin.Str.subAt (S l) (S [45]) 0 = (l.head? == some 45) := by
  unfold Builtin.Str.subAt
  rcases l with _ | ⟨c, r⟩
  · rfl
  · have e : ((S (c :: r)).cps.extract 0 (0 + (S [45]).length)) = #[c] := by
      apply Array.toList_inj.mp
      rw [Array.toList_extract]
      rfl
    rw [e]
    show (#[c] == #[45]) = (some c == some 45)
    by_cases h : c = 45
    · subst h
      rfl
    · have e2 : (some c == some 45) = false := by
        rw [beq_eq_false_iff_ne]
        exact fun z => h (Option.some.inj z)
      rw [e2, beq_eq_false_iff_ne]
      intro z
      exact h (by have := congrArg (fun a => a[0]?) z; simpa using this)
theorem prefix_minus (l : List Nat) : Txt.removeprefix (S l) (S [45]) = S (if l.head? = some 45 then l.tail else l) := by
  unfold Txt.removeprefix
  rw [sub_minus]
  by_cases h : l.head? = some 45
  · rw [if_pos h, if_pos (by rw [h] <;> rfl)]
    rcases l with _ | ⟨c, r⟩
    · cases h
    · show (if ((S (c :: r)).length - (S [45]).length == (S (c :: r)).length) = true then S (c :: r) else Builtin.Str.strSub (S (c :: r)) (S [45]).length (S (c :: r)).length) = S r
      have e1 : (S (c :: r)).length = r.length + 1 := by rw [S_len] <;> rfl
      have e2 : (S [45]).length = 1 := rfl
      rw [if_neg (by rw [e1, e2, beq_iff_eq]; omega)]
      apply TL.ext_tl
      show ((S (c :: r)).cps.extract (S [45]).length (S (c :: r)).length).toList = r
      rw [Array.toList_extract, e1, e2]
      show List.take (r.length + 1 - 1) (List.drop 1 (c :: r)) = r
      rw [Nat.add_sub_cancel]
      exact List.take_length
  · rw [if_neg h, if_neg (by rw [beq_iff_eq]; exact h)]
    rfl
theorem starts_minus (l : List Nat) : Txt.startswith (S l) (S [45]) = (l.head? == some 45) := by
  unfold Txt.startswith
  rw [sub_minus]
  rcases l with _ | ⟨c, r⟩
  · rfl
  · rw [decide_eq_true (show 0 + (S [45]).length ≤ (S (c :: r)).length by rw [S_len, S_len]; show 0 + 1 ≤ r.length + 1; omega), Bool.true_and]
/-- one to so many figures -/
def figs (l : List Nat) : Bool := !l.isEmpty && l.all fun c => decide (48 ≤ c) && decide (c ≤ 57)
theorem ascii_S (l : List Nat) : Txt.isascii (S l) = l.all (· < 128) := by
  unfold Txt.isascii
  rw [← Array.all_toList]
theorem dig_code : ∀ c, c < 128 → Unicode.isDigit c = (decide (48 ≤ c) && decide (c ≤ 57)) := by decide +kernel
theorem digit_S {l : List Nat} (h : l.all (· < 128) = true) : Txt.isdigit (S l) = figs l := by
  unfold Txt.isdigit figs
  rw [← Array.all_toList, S_len]
  have e1 : decide (l.length > 0) = !l.isEmpty := by
    cases l <;> rfl
  have e2 : l.all Unicode.isDigit = l.all fun c => decide (48 ≤ c) && decide (c ≤ 57) := by
    rw [List.all_eq_true] at h
    clear e1
    induction l with
    | nil => rfl
    | cons c r ih =>
      rw [List.all_cons, List.all_cons, ih fun x hx => h x (List.mem_cons_of_mem _ hx), dig_code c (of_decide_eq_true (h c List.mem_cons_self))]
  rw [e1]
  exact congrArg _ e2
theorem figs_ascii {l : List Nat} (h : figs l = true) : l.all (· < 128) = true := by
  unfold figs at h
  rw [Bool.and_eq_true] at h
  have h3 := List.all_eq_true.mp h.2
  rw [List.all_eq_true]
  intro c hc
  have := h3 c hc
  rw [Bool.and_eq_true] at this
  have h2 := of_decide_eq_true this.2
  exact decide_eq_true (by omega)
theorem figs_num (n : Nat) : figs (TL.numL n) = true := by
  unfold figs
  rw [Bool.and_eq_true]
  refine ⟨?_, ?_⟩
  · have := TL.numL_ne n
    cases e : TL.numL n with
    | nil => exact absurd e this
    | cons _ _ => rfl
  · rw [List.all_eq_true]
    intro c hc
    have := TL.numL_digits n c hc
    rw [decide_eq_true this.1, decide_eq_true this.2] <;> rfl
theorem figs_int {l : List Nat} (h : figs l = true) (z : l.length ≤ 600) : PySem.intText? (S l) = some ((NumText.digitsVal l : Nat) : Int) := by
  unfold figs at h
  rw [Bool.and_eq_true] at h
  have d : NumText.AllDigits l := fun c hc => by
    have := List.all_eq_true.mp h.2 c hc
    rw [Bool.and_eq_true] at this
    exact ⟨of_decide_eq_true this.1, of_decide_eq_true this.2⟩
  have ne : l ≠ [] := by
    intro e
    rw [e] at h
    exact Bool.noConfusion h.1
  exact PySem.intText_digits (x := S l) d ne (by rw [S_len]; omega)
/-- a fraction's text -/
def fracL (t b : Int) : List Nat := (if t < 0 then [45] else []) ++ (TL.numL t.natAbs ++ (if b = 1 then [] else 47 :: TL.numL b.natAbs))
/-- ahead of the first stroke, whether there is one, behind it -/
def cutL : List Nat → List Nat × Bool × List Nat
  | [] => ([], false, [])
  | c :: r => if c = 47 then ([], true, r) else (c :: (cutL r).1, (cutL r).2)
theorem cut_app {a b : List Nat} (h : 47 ∉ a) : cutL (a ++ 47 :: b) = (a, true, b) := by
  induction a with
  | nil => rfl
  | cons c r ih =>
    have hc : c ≠ 47 := fun e => h (by rw [e]; exact List.mem_cons_self)
    have ih' := ih fun m => h (List.mem_cons_of_mem _ m)
    show (if c = 47 then _ else (c :: (cutL (r ++ 47 :: b)).1, (cutL (r ++ 47 :: b)).2)) = _
    rw [if_neg hc, ih']
theorem cut_none {a : List Nat} (h : 47 ∉ a) : cutL a = (a, false, []) := by
  induction a with
  | nil => rfl
  | cons c r ih =>
    have hc : c ≠ 47 := fun e => h (by rw [e]; exact List.mem_cons_self)
    have ih' := ih fun m => h (List.mem_cons_of_mem _ m)
    show (if c = 47 then _ else (c :: (cutL r).1, (cutL r).2)) = _
    rw [if_neg hc, ih']
/-- either no stroke, or the first one -/
theorem cut_ways (l : List Nat) : (47 ∉ l ∧ cutL l = (l, false, [])) ∨ ∃ a b, l = a ++ 47 :: b ∧ 47 ∉ a ∧ cutL l = (a, true, b) := by
  by_cases h : 47 ∈ l
  · obtain ⟨a, b, e, n⟩ := List.eq_append_cons_of_mem h
    exact .inr ⟨a, b, e, n, by rw [e]; exact cut_app n⟩
  · exact .inl ⟨h, cut_none h⟩
end KR
/-! ### defs that ask repr: no repr is under way around them -/
namespace KR
open PySem PySem.Spec PyProof.Rows L2
section
variable {P : Program} {w : World} {K : PySem.W.Frag} {mg : Str → Option Value} {base : Heap}
structure FnG (P : Program) (w : World) (K : PySem.W.Frag) (mg : Str → Option Value) (base : Heap) (k : Nat) (f : Addr) (fd : FuncData) (ps : List Str) (sp : Sp) : Prop where
  many : ∀ vs H Q E, sp vs H Q E → vs.length = ps.length
  does : ∀ (A : Around) (outer : List Env) (s : Shared) (H : Hp) (args : Args) (us : List Value) (vs : List V) (Q : VK) (E : XK), Room k A → A.guards = some [] → Env0 P w K mg base A outer s H → BindsTo s fd args (ps.zip us) → Vals vs us →
    sp vs H Q E → codeAny (model P w) A (.call (.ref f) args) (CR CX0 outer P w H s Q E) s
/-- the end of a def's body is the end of its call -/
theorem body_end {N : List Str} {qual : Str} {sc : Scope} {f : Addr} {cdv : Value} {A : Around} {outer : List Env} {s s' : Shared} {H : Hp} {Q : VK} {E : XK} {fl : Flow}
    (h : SP (cxOf CX0 P w K mg base N qual sc f cdv A outer s H E) [] { nx := fun _ H' => Q .non H', rt := Q } fl s') : CR CX0 outer P w H s Q E (.ok (.ret (match fl with | .ret u => u | _ => .none))) s' ∧ (∀ u, fl = .ret u ∨ fl = .next ∨ fl = .brk ∨ fl = .cont → True) ∧ fl ≠ .brk ∧ fl ≠ .cont := by
  cases fl <;> simp only [SP] at h
  case next => obtain ⟨_, H', J, q⟩ := h; exact ⟨⟨V.non, H', J.os, J.bare, J.base, J.hok, rfl, q⟩, fun _ _ => trivial, nofun, nofun⟩
  case ret u => obtain ⟨v, _, H', J, rv, q⟩ := h; exact ⟨⟨v, H', J.os, J.bare, J.base, J.hok, rv, q⟩, fun _ _ => trivial, nofun, nofun⟩
  case brk => exact absurd h.choose_spec.choose_spec.2 id
  case cont => exact absurd h.choose_spec.choose_spec.2 id
theorem okG {x qual : Str} {st : Stmt} {f : Addr} {fd : FuncData} {N ps : List Str} {k : Nat} {sp : Sp} (F : Fun K x qual st f fd) (S : FnScope N ps (defScope st)) (many : ∀ vs H Q E, sp vs H Q E → vs.length = ps.length)
    (body : ∀ (cdv : Value) (A : Around) (outer : List Env) (s : Shared) (H : Hp) (vs : List V) (Q : VK) (E : XK), Room k (A.deeper (envOfC qual (defScope st) s.heap.objs.size f cdv)) → A.guards = some [] → sp vs H Q E →
      ∃ t, PSs (cxOf CX0 P w K mg base N qual (defScope st) f cdv A outer s H E).nox (defBody st) t ∧ t { nx := fun _ H' => Q .non H', rt := Q } (start N vs) H) : FnG P w K mg base (k + 1) f fd ps sp := by
  obtain ⟨_, _, _, _, _, _, cdv, _, _, rfl, lk, hcd⟩ := F.ex
  refine ⟨many, ?_⟩
  intro A outer s H args us vs Q E hr hg e0 hb rv hsp
  obtain ⟨t, ht, hq⟩ := body cdv A outer s H vs Q E (hr.deeper _) hg hsp
  have inK : K.In s.heap := e0.mod.kin.keeps fun b o q => (e0.bs b o q).1
  apply codeAny_call_function hr.depth (inK _ _ lk) rfl S.co S.gen rfl (PySem.W.codeRec_of inK hcd)
  refine hb _ _ _ _ (wpAny_newFunctionEnv_cells S.kind ?_ ?_)
  · rintro ⟨n, v⟩ hy
    exact (S.par n (List.of_mem_zip hy).1).imp id fun q => ⟨q, PySem.W.cellsFrom_some _ _ _ (Or.inl q)⟩
  · rintro env rfl s1 made
    refine ⟨(e0.mod.nolimit.keeps fun b o q => (e0.bs b o q).1).keeps made.toInCall.keep, codeAny_func ?_⟩
    have I := inv_start (CX := CX0) (E := E) S hr.hd e0 (many _ _ _ _ hsp) rv made
    refine wpAny_mono (ht.nox.run [] s1 (start N vs) H _ I hq) (fun fl s' hs => ?_) fun _ _ z => z
    obtain ⟨r, _, n1, n2⟩ := body_end hs
    cases fl with
    | next => exact r
    | ret u => exact r
    | brk => exact absurd rfl n1
    | cont => exact absurd rfl n2
end
section
variable {X : Cx} {k : Nat} {f : Addr} {fd : FuncData} {ps : List Str} {sp : Sp} {ds : List Value} {dvs : List V} {E : XK} {x : Str} {p pos : Pos} {e : Expr} {es : List Expr} {t : TA}
/-- a call of such a def, where no repr is under way -/
theorem pe_callG (F : FnG X.prog X.w X.K X.mg X.base k f fd ps sp) (room : Room k X.A) (calm : X.A.guards = some []) (glob : Gl X x) (at_ : X.mg x = some (.ref f)) (keep : PySem.W.keepIn X.K (.ref f) = true) (binds : Binds X.K fd ps ds) (dflt : Vals dvs ds) (pass : Passes CX0 X E)
    (args : PA X (e :: es) t) (nd : (x == ("__debug__" : Str)) = false := by decide) (he : starEach (e :: es) X.env = (false, eval e X.env) :: starEach es X.env := by rfl) (hpl : (backTo pos (starEach es X.env)).any (·.1) = false := by rfl) :
    PE X (.Call (.Name x p) (e :: es) [] pos) (tCall sp dvs E t) := by
  constructor
  intro pins s σ H Q I want
  refine wpAny_Call_Name_kw (ld_glob I glob at_ (PySem.W.callWith_K (h₀ := X.base) I.ok.mod.kin keep (thn (args.run pos pins s σ H _ I want) ?_) he hpl) nd)
  rintro us s1 ⟨vs, H1, I1, r, q⟩
  have many := F.many _ _ _ _ q
  have both : Vals (vs ++ dvs) (us ++ ds) := r.append dflt
  refine ⟨I1.kIn, wpAny_call (codeAny_mono (F.does X.A X.stack s1 H1 ⟨us, []⟩ _ _ Q E room calm I1.env0 (binds s1 us I1.kIn (both.length ▸ many)) both q) ?_)⟩
  intro r s' post
  match r, post with
  | .error e, post => exact pass pins σ H1 s1 e s' I1 post
  | .ok (.ret u), post => exact I1.after post
  | .ok .next, post => exact post.elim
  | .ok .brk, post => exact post.elim
  | .ok .cont, post => exact post.elim
end
/-- a def that asks no repr is one -/
theorem FnG.of {P : Program} {w : World} {K : PySem.W.Frag} {mg : Str → Option Value} {base : Heap} {k : Nat} {f : Addr} {fd : FuncData} {ps : List Str} {sp : Sp} (F : FnOk P w K mg base CX0 k f fd ps sp) : FnG P w K mg base k f fd ps sp :=
  ⟨F.len, fun A outer s H args us vs Q E hr _ => F.run A outer s H args us vs Q E hr⟩
/-- repr of data that is no text -/
def rReprD (K : PySem.W.Frag) : List V → Hp → VK → Prop := fun xs H Q => ∃ (a : Addr) (d : PyData), xs = [.ref a] ∧ Dp K H (.ref a) d ∧ d.showable = true ∧ d.hasDict = false ∧ d.depth ≤ 60 ∧ d.shown.length ≤ sizeLine ∧ Q (.str d.shown) H
theorem cr_reprD {X : Cx} (hg : X.A.guards = some []) (hu : X.A.units + 64 < cLine) : CallR X (.builtin "repr") (rReprD X.K) := by
  intro pins s σ H xs us Q I r h
  obtain ⟨a, d, rfl, dp, sh, nd, dd, sz, q⟩ := h
  cases r with
  | cons r1 r2 =>
    cases r2
    cases r1
    obtain ⟨as, rd⟩ := Dp.reads I d _ _ dp rfl
    exact repr_of_reads' rd sh (PyData.noDict_hsm nd) hg (by omega) (fun _ _ e => e) (fun h' u tk hk => ⟨.str _, H, I.kept (fun b o e => hk b o e), ⟨_, rfl⟩, q⟩) sz
theorem cr_reprDK {X : Cx} {K : PySem.W.Frag} (h : X.K = K) (hg : X.A.guards = some []) (hu : X.A.units + 64 < cLine) : CallR X (.builtin "repr") (rReprD K) := h ▸ cr_reprD hg hu
section
variable {P : Program} {w : World} {K : PySem.W.Frag} {mg mb : Str → Option Value} {k : Nat} {fa a : Addr} {fd : FuncData} {x : Str} {sp : Sp} {s₁ : Shared} {vs : List Value} {ns : List Int}
/-- what is tracked when the law is called: the script, unless the module itself made it -/
def scr (K : PySem.W.Frag) (a : Addr) (ob : Obj) (ns : List Int) : Hp := fun b => if b = a ∧ K.lookup a = none then some (.frz ob (.lst (ns.map V.int))) else none
theorem scr_some {ob : Obj} {b : Addr} {u : HO} (h : scr K a ob ns b = some u) : b = a ∧ K.lookup a = none ∧ u = .frz ob (.lst (ns.map V.int)) := by
  unfold scr at h
  split at h
  · rename_i c
    exact ⟨c.1, c.2, (Option.some.inj h).symm⟩
  · cases h
theorem call_law (inK : K.In s₁.heap) (gl : s₁.heap.Ns mainGlobals mg) (bl : s₁.heap.Ns builtinsNs mb) (boot : ∀ x : Str, x ≠ "__name__" → mb x = bootBuiltins x) (lim : s₁.heap.NoLimit) (quiet : s₁.gens = #[])
    (there : s₁.heap.get? a = some { cls := .type "list", data := .seq vs.toArray }) (areInts : IntsAre vs ns) (len : ns.length ≤ sizeLine) (room : Room k callerA)
    (F : ∀ base : Heap, K.In base → base.Ns mainGlobals mg → FnG P w K mg base k fa fd [x] sp) (binds : ∀ (s : Shared) (u : Value), BindsTo s fd ⟨[u], []⟩ [(x, u)])
    (asked : ∀ H : Hp, Only H → SqL K H a (ns.map V.int) → sp [.ref a] H (fun v _ => v = .bl true) fun _ _ _ => False) :
    codeAny (model P w) callerA (.call (.ref fa) ⟨[.ref a], []⟩) (fun r s' => r = .ok (.ret (.bool true)) ∧ OldK s₁.heap s'.heap ∧ s'.os = s₁.os ∧ AllBare s'.gens) s₁ := by
  let ob : Obj := { cls := .type "list", data := .seq vs.toArray }
  let H := scr K a ob ns
  have at_ : ∀ {b u}, H b = some u → b = a ∧ K.lookup a = none ∧ u = .frz ob (.lst (ns.map V.int)) := scr_some
  have no : ∀ b o, s₁.heap.get? b = some o → (∀ q, o ≠ { cls := .type "list", data := .seq q }) → H b = none := fun b o e d => by
    cases c : H b with
    | none => rfl
    | some u =>
      obtain ⟨rfl, _⟩ := at_ c
      exact absurd (Option.some.inj (e.symm.trans there)) (d _)
  have keepNs : ∀ {b : Addr} {m : Str → Option Value}, s₁.heap.Ns b m → (hidT s₁.heap H).Ns b m := fun {b m} ⟨o, es, ep, e, d, r⟩ =>
    ⟨o, es, ep, hidT_get e (no b o e fun q z => by rw [z] at d; cases d), d, r⟩
  have keepK : K.In (hidT s₁.heap H) := fun b o e => hidT_get (inK b o e) (by
    cases c : H b with
    | none => rfl
    | some u =>
      obtain ⟨rfl, n, _⟩ := at_ c
      rw [n] at e
      cases e)
  have rel := vals_ints areInts
  have holds : HOk P w H s₁.heap := fun b u c => by
    obtain ⟨rfl, _, rfl⟩ := at_ c
    exact ⟨there, by rw [List.length_map]; exact len, vs, _, rel, there⟩
  have only : Only H := fun b => by
    cases c : H b with
    | none => exact Or.inl rfl
    | some u => exact Or.inr ⟨ob, _, by rw [(at_ c).2.2]⟩
  have script : SqL K H a (ns.map V.int) := by
    cases c : K.lookup a with
    | none => exact Or.inl (Or.inr ⟨ob, if_pos ⟨rfl, c⟩⟩)
    | some o =>
      have e := Option.some.inj ((inK a o c).symm.trans there)
      subst e
      exact Or.inr ⟨_, vs.toArray, _, c, rfl, rfl, rfl, by rw [List.size_toArray, areInts.length]; exact len, by simpa using rel⟩
  have modul : Mod K mg (hidT s₁.heap H) := ⟨keepK, keepNs gl, ⟨mb, keepNs bl, boot⟩, lim.elim fun mc z => ⟨mc, keepNs z.1, z.2⟩⟩
  have start0 : Env0 P w K mg (hidT s₁.heap H) callerA [] s₁ H := ⟨rfl, modul, fun b o e => of_hidT e, Nat.le_of_eq (hidT_size _ _), trivial, fun b hb => (List.not_mem_nil hb).elim, holds, .of_eq quiet⟩
  refine codeAny_mono ((F _ keepK (keepNs gl)).does callerA [] s₁ H _ [.ref a] [.ref a] _ _ room rfl start0 (binds s₁ (.ref a)) (.cons rfl .nil) (asked H only script)) ?_
  intro r s' post
  match r, post with
  | .error e, post => exact False.elim post
  | .ok .next, post => exact post.elim
  | .ok .brk, post => exact post.elim
  | .ok .cont, post => exact post.elim
  | .ok (.ret u), ⟨v, H', os, bare, un, held, rv, e⟩ =>
    cases (show v = V.bl true from e)
    cases (show u = Value.bool true from rv)
    refine ⟨rfl, OldK.of_keep fun b o g => ?_, os, bare⟩
    cases c : H b with
    | none => exact un.keep b o g c (fun z => (List.not_mem_nil z).elim) (fun z => (List.not_mem_nil z).elim)
    | some u =>
      obtain ⟨rfl, _, rfl⟩ := at_ c
      rw [Option.some.inj (g.symm.trans there)]
      exact (held b _ (un.frzs b ob _ c)).1
end
/-- the goal that is left of a law whose defs ask repr -/
theorem walk_ofG {l : PySem.W.OpenLaw} {n k : Nat} {q : Program} {loose : List Str} {XP : (Str → Option Value) → Heap → Prop} {YP : World → Heap → Prop} {d : DefRec} {K : Params → PySem.W.Frag} {sp : World → Sp} {x : Str}
    (most : l.most = some n) (n9 : n ≤ sizeLine) (nodf : d.params.defaults = []) (room : Room k callerA) (inK : ∀ (w : World) (h : Heap), YP w h → (K w.params).In h)
    (F : ∀ (w : World) (mg : Str → Option Value) (fa : Addr) (h : Heap), (K w.params).In h → h.Ns mainGlobals mg → mg d.name = some (.ref fa) →
      ∃ fd : FuncData, (∀ (s : Shared) (u : Value), BindsTo s fd ⟨[u], []⟩ [(x, u)]) ∧ ∀ base : Heap, (K w.params).In base → base.Ns mainGlobals mg → FnG l.prog w (K w.params) mg base k fa fd [x] (sp w))
    (asked : ∀ (w : World) (H : Hp) (a : Addr) (ns : List Int), ns.length ≤ n → Only H → SqL (K w.params) H a (ns.map V.int) → sp w [.ref a] H (fun v _ => v = .bl true) fun _ _ _ => False) :
    PySem.W.WalkO q loose XP YP l.row.toRowW d [] (fun f vs => PySem.call f vs) :=
  Att.attach_call most nodf fun w s₀ s₁ mg mb fa o pm cd doc a vs ns G Y ho hd hcd hmg hobj hints hlen hg => by
    obtain ⟨fd, b, f⟩ := F w mg fa _ (inK w _ Y) G.T.g hmg
    exact call_law (inK w _ Y) G.T.g G.T.b G.T.builtins G.T.nolimit hg hobj hints (Nat.le_trans hlen n9) room f b fun H only sc => asked w H a ns hlen only sc
end KR
/-! ### all(test for x in ..): the generator expression's own frame, its test read like a def's body -/
namespace KR
open PySem PySem.Spec PyProof.Rows L2
/-- the frame's scope: one name of its own, nothing captured -/
structure GnS (scope : Scope) (x : Str) : Prop where
  kind : scope.kind = .function
  co : scope.isCoroutine = false
  cell : ∀ y ∈ scope.names, y.2 ≠ .cell
  free : ∀ y ∈ scope.names, y.2 ≠ .free
  dot : scope.names.lookup (".0" : Str) = some NameKind.local
  loc : scope.names.lookup x = some .local
/-- the frame's environment, its around -/
abbrev gEnv (X : Cx) (scope : Scope) (C : Addr) (code : Value) : Env := genEnv scope [] C code builtinsNs X.env
abbrev gAr (X : Cx) (ge : Expr) (it : Addr) (env : Env) : Around := X.A.in1.in1.over (.compLoop ge 0 (.ref it) .none env) []
/-- the frame's context: it began at s, H; fp: what is walked -/
abbrev gCx (X : Cx) (ge : Expr) (it : Addr) (x : Str) (s : Shared) (H : Hp) (env : Env) (fp : List Addr) : Cx :=
  { prog := X.prog, w := X.w, K := X.K, mg := X.mg, base := X.base, A := gAr X ge it env, N := [x], s_0 := s, H_0 := H, env := env, outer := X.stack, stack := env :: X.stack, ex := fp, fn := fun _ => false, calm := true, pn := [], xe := fun _ _ => False }
section
variable {X : Cx} {pins : List (Addr × Obj)} {σ : L2.St} {H : Hp} {s : Shared}
theorem inv_gens {g' : Array GenState} (I : Inv X pins σ H s) (hg : AllBare g') : Inv X pins σ H { s with gens := g' } :=
  I.call (h' := s.heap) (g' := g') (t' := s.toks) (d' := s.drawn) (ch := []) Un.refl I.hok hg fun b z => absurd z List.not_mem_nil
theorem bare_set {a : Array GenState} {g : Nat} {x : GenState} (h : AllBare a) (hx : x.bare = true) : AllBare (a.setIfInBounds g x) := fun y hy => by
  rcases Array.mem_or_eq_of_mem_setIfInBounds hy with z | z
  · exact h y z
  · rw [z]
    exact hx
theorem inv_setGen {g : Nat} {x : GenState} (I : Inv X pins σ H s) (hx : x.bare = true) : Inv X pins σ H (s.setGen g x) := inv_gens I (bare_set I.bare hx)
theorem room_gen {k : Nat} (r : Room (k + 1) X.A) {elt : Expr} {cs : List Comprehension} {sc : Scope} {p : Pos} {it : Addr} {env : Env} : Room k (gAr X (.GeneratorExp elt cs sc p) it env) := by
  obtain ⟨h1, h2, h3⟩ := r
  refine ⟨h1, ?_, ?_⟩
  · show X.A.depth + 0 + 1 + 3 * k + 5 < recursionLimit
    omega
  · show X.A.units + 1 + 1 + 0 + 3 + 16 * k + 200 < cLine
    omega
theorem gen_ok {elt : Expr} {cs : List Comprehension} {sc : Scope} {gp : Pos} {it : Addr} {x : Str} {scope : Scope} {code : Value} {fp : List Addr} (I : Inv X pins σ H s) (S : GnS scope x) (hh : X.A.handled = none) (hfp : ∀ b ∈ fp, FpOk X pins H b ∧ b < s.heap.objs.size) :
    (gCx X (.GeneratorExp elt cs sc gp) it x s H (gEnv X scope s.heap.objs.size code) fp).Ok := by
  have kd : ∀ y k, scope.names.lookup y = some k → k ≠ .cell ∧ k ≠ .free := fun y k e => ⟨S.cell _ (PySem.mem_of_lookup e), S.free _ (PySem.mem_of_lookup e)⟩
  exact {
    mod := I.ok.mod, kind := S.kind, glob := I.ok.glob, blt := rfl, above := Nat.le_refl _
    inj := fun y z c e _ => (by cases e)
    has := fun y h => (by
      rcases h with h | h
      · exact absurd rfl (kd y _ h).1
      · exact absurd rfl (kd y _ h).2)
    cab := fun y c z _ => (by cases z)
    hd := fun _ => hh
    frames := (by
      show pushEnvs [gEnv X scope s.heap.objs.size code] (pushEnvs [] X.A.frames) = _
      rw [I.ok.frames] <;> rfl)
    stk := .inr ⟨rfl, rfl⟩
    exf := fun b hb => ⟨Nat.ne_of_lt (hfp b hb).2, fun y c e => (by cases e)⟩
    bs := I.bs, bsz := Nat.le_trans I.ok.bsz I.sz
    noex := fun b o e hb => (by
      obtain ⟨_, _, _, old | old, _⟩ := (hfp b hb).1
      · exact I.ok.noex b o e old
      · have z := Heap.lt_size e
        have z2 := I.ok.bsz
        exact Nat.lt_irrefl b (Nat.lt_of_lt_of_le z (Nat.le_trans z2 old)))
    exfs := fun b hb hf => (by
      obtain ⟨⟨_, n1, n2, _⟩, _⟩ := hfp b hb
      rcases List.mem_cons.mp (I.stkSub b hf) with e | e
      · exact n1 e
      · exact n2 e)
    funs := I.stack, frf := I.stkFree }
/-- the frame as it begins: its space at C, its generator behind it -/
theorem gen_inv {elt : Expr} {cs : List Comprehension} {sc : Scope} {gp : Pos} {it : Addr} {x : Str} {scope : Scope} {code : Value} {fp : List Addr} {h' : Heap} {G : Obj} {g' : Array GenState} {tk : Nat} {m : Str → Option Value} (I : Inv X pins σ H s) (S : GnS scope x) (hh : X.A.handled = none)
    (hfp : ∀ b ∈ fp, FpOk X pins H b ∧ b < s.heap.objs.size) (hn : h'.Ns s.heap.objs.size m) (hsz : h'.objs.size = s.heap.objs.size + 1) (kp : ∀ b o, s.heap.get? b = some o → h'.get? b = some o) (hg : AllBare g') (hG : ∀ v, G.data ≠ .cell v) (hF : G.isFreed = false) :
    Inv (gCx X (.GeneratorExp elt cs sc gp) it x s H (gEnv X scope s.heap.objs.size code) fp) [(h'.objs.size, G)] [none] H { s with heap := h'.push G, gens := g', toks := tk } := by
  have kp2 : ∀ b o, s.heap.get? b = some o → (h'.push G).get? b = some o := fun b o e => Heap.get?_push_of_some _ (kp b o e)
  have gt : s.heap.objs.size ≤ h'.objs.size := by omega
  exact {
    ok := gen_ok I S hh hfp, os := rfl, bare := hg, base := Un.kept kp2
    loc := ⟨m, hn.push _, fun i y v _ e _ => (by
      match i, e with
      | 0, e => cases e
      | j + 1, e => cases e)⟩
    cell := fun y c e => (by cases e)
    free := I.hok.fresh (Nat.le_refl _)
    freeC := fun y c e => (by cases e)
    pin := fun p hp => (by
      obtain rfl := List.mem_singleton.mp (show p ∈ [(h'.objs.size, G)] from hp)
      refine ⟨Heap.get?_push_size _ hF, I.hok.fresh gt, fun z => ?_, fun z => ?_, hG⟩
      · have z2 : h'.objs.size = s.heap.objs.size := z
        omega
      · rcases List.mem_cons.mp (I.stkSub _ z) with e | e
        · have z2 := I.lt
          rw [← e] at z2
          have z3 : h'.objs.size < s.heap.objs.size := z2
          omega
        · exact I.nofs gt e)
    hok := I.hok.kept kp2, len := rfl }
end
/-- what is so between two steps of the generator, i things taken -/
def GSt (Y : Cx) (pn : List (Addr × Obj)) (tn : Nat → Heap → Prop) (fp : List Addr) (W : Nat → Hp → Prop) (i : Nat) (s : Shared) : Prop :=
  ∃ H', Inv Y pn [none] H' s ∧ tn i s.heap ∧ (∀ b ∈ fp, H' b = none) ∧ W i H'
/-- how it ends, how it hands out -/
def gFin (Y : Cx) (pn : List (Addr × Obj)) (Q : VK) (b : Bool) (s : Shared) : Prop := ∃ H', Inv Y pn [none] H' s ∧ Q (.bl b) H'
abbrev gEnd (Y : Cx) (pn : List (Addr × Obj)) (Q : VK) : GenEnd := fun _ _ r s1 => r = .ok .next ∧ gFin Y pn Q true s1
def gPro (Y : Cx) (pn : List (Addr × Obj)) (tn : Nat → Heap → Prop) (fp : List Addr) (W : Nat → Hp → Prop) (Q : VK) : Protocol := fun _ _ v s kap =>
  ∃ b : Bool, v = .bool b ∧ (b = true → ∃ i, GSt Y pn tn fp W i s ∧ ∀ s', GSt Y pn tn fp W i s' → kap (.send .none) s') ∧ (b = false → gFin Y pn Q false s)
/-- one turn's reading -/
def GTurn (J : It) (te : TE) (n : Nat) (W : Nat → Hp → Prop) (Q : VK) : Prop := ∀ i H2, W i H2 →
  (J.stop i H2 ∧ Q (.bl true) H2) ∨ (J.go i H2 ∧ i < n ∧ ∀ x H3, J.yld i H2 x H3 → te [some x] H3 fun u H4 => ∃ b, u = .bl b ∧ if b = true then W (i + 1) H4 else Q (.bl false) H4)
section
variable {X : Cx} {elt iter : Expr} {x : Str} {px gp : Pos} {sc : Scope} {it C : Addr} {s₁ : Shared} {H₁ : Hp} {code : Value} {fp : List Addr} {pn : List (Addr × Obj)} {tn : Nat → Heap → Prop} {J : It} {te : TE} {n : Nat} {W : Nat → Hp → Prop} {Q : VK}
theorem gen_seg {Y : Cx} {env : Env} (hY : Y = gCx X (.GeneratorExp elt [⟨.Name x px, iter, [], 0⟩] sc gp) it x s₁ H₁ env fp) (hco : env.scope.isCoroutine = false) (T : Turn X.prog X.w X.K (.Name x px) J fp it tn)
    (pg : PG Y (.Name x px) (gName 0)) (pe : PE Y elt te) (turn : GTurn J te n W Q) (hpn : ∀ b ∈ fp, ∀ p ∈ pn, p.1 ≠ b) :
    ∀ (m i : Nat) (s s₀ : Shared), n - i = m → GSt Y pn tn fp W i s → Seg (model X.prog X.w) X.A.in1.in1 (gEnd Y pn Q) (gPro Y pn tn fp W Q) m s₀
      (.compLoop (.GeneratorExp elt [⟨.Name x px, iter, [], 0⟩] sc gp) 0 (.ref it) .none env) ((model X.prog X.w).den (.compLoop (.GeneratorExp elt [⟨.Name x px, iter, [], 0⟩] sc gp) 0 (.ref it) .none env)) [] s := by
  have hA : Y.A = X.A.in1.in1.over (.compLoop (.GeneratorExp elt [⟨.Name x px, iter, [], 0⟩] sc gp) 0 (.ref it) .none env) [] := by rw [hY]
  have hP : Y.prog = X.prog := by rw [hY]
  have hW : Y.w = X.w := by rw [hY]
  have hK : Y.K = X.K := by rw [hY]
  have hC : Y.calm = true := by rw [hY]
  have hE : Y.env = env := by rw [hY]
  have hX : Y.ex = fp := by rw [hY]
  have hN : Y.pn = [] := by rw [hY]
  have hxe : Y.xe = fun _ _ => False := by rw [hY]
  have stat : ∀ {σ' : L2.St} {H' : Hp} {s' : Shared}, Inv Y pn σ' H' s' → (∀ b ∈ fp, H' b = none) → ∀ b ∈ fp, FpOk Y pn H' b := fun {σ' H' s'} I' hn b hb => by
    have hb2 : b ∈ Y.ex := by rw [hX]; exact hb
    refine ⟨hn b hb, (I'.ok.exf b hb2).1, I'.ok.exfs b hb2, .inl hb2, fun y c e => (I'.ok.exf b hb2).2 y c e, fun p hp => ?_⟩
    rw [hN] at hp
    exact hpn b hb p hp
  have runG := fun pins s σ H v u Q => pg.run pins s σ H v u Q
  have runE := fun pins s σ H Q => pe.run pins s σ H Q
  rw [hA, hP, hW, hE, hxe] at runG runE
  intro m
  induction m with
  | zero =>
    rintro i s s₀ hm ⟨H, I, st, nf, w⟩
    show Seg _ _ _ _ _ s₀ _ ((compTurn _ 0 (.ref it) .none env).onRaise (leaving env)) [] s
    rw [compTurn_gen, Sem.onRaise_eq_wrap]
    refine seg_bind_wrap (wpAny_standAt ?_)
    rcases turn i H w with ⟨stop, q⟩ | ⟨_, lt, _⟩
    · have td := T.done Y hP hW hK hC i pn s _ H (fun _ _ => False) I (stat I nf) st stop
      rw [hA] at td
      refine seg_bind_wrap (thnF td fun r s2 ⟨e, I2⟩ => ?_)
      rw [e]
      exact seg_end (.ok .next) ⟨rfl, H, I2, q⟩
    · exact absurd lt (by omega)
  | succ m ih =>
    rintro i s s₀ hm ⟨H, I, st, nf, w⟩
    show Seg _ _ _ _ _ s₀ _ ((compTurn _ 0 (.ref it) .none env).onRaise (leaving env)) [] s
    rw [compTurn_gen, Sem.onRaise_eq_wrap]
    refine seg_bind_wrap (wpAny_standAt ?_)
    rcases turn i H w with ⟨stop, q⟩ | ⟨go, lt, step⟩
    · have td := T.done Y hP hW hK hC i pn s _ H (fun _ _ => False) I (stat I nf) st stop
      rw [hA] at td
      refine seg_bind_wrap (thnF td fun r s2 ⟨e, I2⟩ => ?_)
      rw [e]
      exact seg_end (.ok .next) ⟨rfl, H, I2, q⟩
    · have ti := T.item Y hP hW hK hC i pn s _ H (fun _ _ => False) I (stat I nf) st go
      rw [hA] at ti
      refine seg_bind_wrap (thnF ti fun r s2 ⟨u, e, h2⟩ => ?_)
      rw [e]
      refine seg_bind_wrap (thnF h2 fun _ s3 ⟨y, H3, I3, r3, y3, st3, n3⟩ => ?_)
      have I3' := I3.pinned (stat I3 n3) (T.obj _ _ st3)
      refine seg_bind_wrap (thnF (runG _ s3 _ H3 y u _ I3' r3 (show gName 0 y [none] H3 (fun σ' H' => σ' = [some y] ∧ H' = H3) from ⟨rfl, rfl⟩)) fun _ s4 ⟨σ4, H4, I4, e4, e5⟩ => ?_)
      subst e4 e5
      refine seg_bind_wrap (wpAny_tests_nil ?_)
      simp only [if_true]
      have yo : ∀ v, yieldOut env v = yieldValue v := fun v => by
        unfold yieldOut
        rw [hco] <;> rfl
      simp only [yo]
      rw [Sem.bind_eq_wrap', Sem.bind_eq_wrap', Sem.wrap_wrap, Sem.wrap_wrap]
      refine seg_wrap (thnF (runE _ s4 _ _ _ I4 (step y _ y3)) fun v s5 ⟨yv, H5, I5, r5, b, e5, q5⟩ => ?_)
      subst e5
      obtain rfl : v = Value.bool b := r5
      have pin' : ∀ b ∈ fp, ∀ o, s3.heap.get? b = some o → s5.heap.get? b = some o ∧ H5 b = none := fun b hb o e =>
        let z := I5.pin (b, o) (List.mem_append_right _ (List.mem_append_right _ (mem_pinsAt hb e)))
        ⟨z.1, z.2.1⟩
      have I6 : Inv Y pn [none] H5 s5 := I5.unpinned.weak rfl fun j v e => by
        match j, e with
        | 0, e => cases e
        | j + 1, e => cases e
      have done : W (i + 1) H5 → GSt Y pn tn fp W (i + 1) s5 := fun w5 => ⟨H5, I6, T.keep _ _ _ st3 fun b hb o e => (pin' b hb o e).1, fun b hb => (by
        obtain ⟨o, e, _⟩ := T.obj _ _ st3 b hb
        exact (pin' b hb o e).2), w5⟩
      refine seg_at (seg_yield rfl rfl rfl ⟨b, rfl, fun hb => ?_, fun hb => ?_⟩)
      · rw [if_pos hb] at q5
        exact ⟨i + 1, done q5, fun s' hj => seg_again rfl (ih (i + 1) s' s' (by omega) hj)⟩
      · rw [if_neg (by rw [hb]; exact Bool.false_ne_true)] at q5
        exact ⟨H5, I6, q5⟩
/-- the generator at a, its number g: what it does next -/
def GAt (M : Model) (A : Around) (Y : Cx) (pn : List (Addr × Obj)) (tn : Nat → Heap → Prop) (fp : List Addr) (W : Nat → Hp → Prop) (Q : VK) (g m : Nat) (s : Shared) : Prop :=
  ∃ i gs, GSt Y pn tn fp W i s ∧ s.gens[g]? = some gs ∧ ∀ s', GSt Y pn tn fp W i s' → gs.Goes M A (gEnd Y pn Q) (gPro Y pn tn fp W Q) m (.send .none) s'
theorem gst_set {Y : Cx} {i g : Nat} {s : Shared} {y : GenState} (h : GSt Y pn tn fp W i s) (hy : y.bare = true) : GSt Y pn tn fp W i (s.setGen g y) := by
  obtain ⟨H', I, r⟩ := h
  exact ⟨H', inv_setGen I hy, r⟩
theorem fin_set {Y : Cx} {g : Nat} {s : Shared} {y : GenState} {b : Bool} (h : gFin Y pn Q b s) (hy : y.bare = true) : gFin Y pn Q b (s.setGen g y) := by
  obtain ⟨H', I, r⟩ := h
  exact ⟨H', inv_setGen I hy, r⟩
theorem fin_kept {Y : Cx} {s : Shared} {b : Bool} {h' : Heap} (h : gFin Y pn Q b s) (k : ∀ b o, s.heap.get? b = some o → h'.get? b = some o) : gFin Y pn Q b { s with heap := h' } := by
  obtain ⟨H', I, r⟩ := h
  exact ⟨H', I.kept (t' := s.toks) k, r⟩
theorem set_at {s : Shared} {g : Nat} {y : GenState} (h : g + 1 ≤ (s.setGen g y).gens.size) : (s.setGen g y).gens[g]? = some y := by
  have z : g < s.gens.size := by
    have e : (s.setGen g y).gens.size = s.gens.size := Array.size_setIfInBounds
    omega
  show (s.gens.setIfInBounds g y)[g]? = some y
  rw [Array.getElem?_setIfInBounds, if_pos rfl, if_pos z]
theorem all_run {Y : Cx} {a : Addr} {g : Nat} {G : Obj} {R : Result → Shared → Prop} (hp : (a, G) ∈ pn) (hG : ∀ h : Heap, h.get? a = some G → h.IsGen a g) (hh : X.A.handled = none) (hd : X.A.depth + 2 < recursionLimit)
    (hR : ∀ b s', gFin Y pn Q b s' → R (.ok (.ret (.bool b))) s') :
    ∀ (m : Nat) (s : Shared), GAt (model X.prog X.w) X.A.in1.in1 Y pn tn fp W Q g m s → codeAny (model X.prog X.w) X.A (.builtin "all.loop" ⟨[.ref a], []⟩) R s := by
  have turn : ∀ (m : Nat) (s : Shared), GAt (model X.prog X.w) X.A.in1.in1 Y pn tn fp W Q g m s →
      (∀ s', (∃ k, m = k + 1 ∧ GAt (model X.prog X.w) X.A.in1.in1 Y pn tn fp W Q g k s') → codeAny (model X.prog X.w) X.A (.builtin "all.loop" ⟨[.ref a], []⟩) R s') → codeAny (model X.prog X.w) X.A (.builtin "all.loop" ⟨[.ref a], []⟩) R s := by
    rintro m s ⟨i, gs, st, hgs, goes⟩ next
    obtain ⟨H, I, _⟩ := id st
    have gen : s.heap.IsGen a g := hG _ (I.pin (a, G) (List.mem_append_right _ hp)).1
    have hgl : g + 1 ≤ s.gens.size := (Array.getElem?_eq_some_iff.mp hgs).1
    refine codeAny_builtin (F.entry_all_loop) ?_
    rw [Around.under_plainId (F.plain_all_loop) _]
    show wpAny (model X.prog X.w) X.A.in1 (pyNext (.ref a) >>= _) _ _ s
    refine wpAny_bind (GenW.wpAny_gsz (n := g + 1) hgl (wpAny_pyNext_genexpQ (n := m) (P := fun _ _ s1 => gFin Y pn Q true s1) (Y := gPro Y pn tn fp W Q) hh I.nolimit (by show X.A.depth < recursionLimit; omega) gen hgs (goes _ (gst_set st rfl)) (fun v s1 gs' hb hv => ?_) (fun s1 hf h' hk => ?_)))
    · intro hgl2
      obtain ⟨b, rfl, yes, no⟩ := hv
      refine wpAny_bind (wpAny_holding (wpAny_truthy_bool ?_))
      refine wpAny_bind (wpAny_letGo ?_)
      cases b with
      | true =>
        obtain ⟨i2, st2, kap⟩ := yes rfl
        simp only [if_true]
        cases m with
        | zero => exact (kap s1 st2).elim
        | succ k => exact wpAny_pure ⟨plainId_quiet (F.plain_all_loop) _, next _ ⟨k, rfl, i2, gs', gst_set st2 hb, set_at hgl2, fun s' h => kap s' h⟩⟩
      | false =>
        simp only [Bool.false_eq_true, if_false]
        exact wpAny_bind (wpAny_rule (wpAny_pure (hR false _ (fin_set (no rfl) hb))))
    · intro _
      refine wpAny_bind (wpAny_rule (wpAny_pure ?_))
      exact hR true _ (fin_kept (fin_set hf rfl) hk)
  intro m
  induction m with
  | zero => exact fun s h => turn 0 s h fun s' ⟨k, e, _⟩ => (by cases e)
  | succ m ih => exact fun s h => turn (m + 1) s h fun s' ⟨k, e, z⟩ => ih s' (by cases e; exact z)
end
/-- .. in the def: the table of the def's code may have grown ahead of it -/
def tAllG (P : Addr) (wi : TI) (te : TE) : TE := fun σ H Q => wi σ H fun J H1 => GxR.TabG H1 P ∧ ∃ (n : Nat) (W : Nat → Hp → Prop), (∀ H2, GxR.Tabbed P H1 H2 → W 0 H2) ∧ GTurn J te n W Q
theorem gen_den {X : Cx} {elt iter : Expr} {x : Str} {px gp : Pos} {sc : Scope} {it : Addr} {env : Env} {fp : List Addr} {pn : List (Addr × Obj)} {tn : Nat → Heap → Prop} {W : Nat → Hp → Prop} {Q : VK} {Y : Cx} {J : It} {n : Nat} (T : Turn X.prog X.w X.K (.Name x px) J fp it tn)
    (loop : ∀ (s s₀ : Shared), GSt Y pn tn fp W 0 s → Seg (model X.prog X.w) X.A.in1.in1 (gEnd Y pn Q) (gPro Y pn tn fp W Q) n s₀ (.compLoop (.GeneratorExp elt [⟨.Name x px, iter, [], 0⟩] sc gp) 0 (.ref it) .none env)
      ((model X.prog X.w).den (.compLoop (.GeneratorExp elt [⟨.Name x px, iter, [], 0⟩] sc gp) 0 (.ref it) .none env)) [] s) (s s₀ : Shared) (st : GSt Y pn tn fp W 0 s) :
    Seg (model X.prog X.w) X.A.in1.in1 (gEnd Y pn Q) (gPro Y pn tn fp W Q) n s₀ (.compStart (.GeneratorExp elt [⟨.Name x px, iter, [], 0⟩] sc gp) 0 (.ref it) .none env)
      ((model X.prog X.w).den (.compStart (.GeneratorExp elt [⟨.Name x px, iter, [], 0⟩] sc gp) 0 (.ref it) .none env)) [] s := by
  have go := loop s s₀ st
  obtain ⟨H', I, st0, _⟩ := id st
  show Seg _ _ _ _ _ s₀ _ ((compStart _ 0 (.ref it) .none env).onRaise (leaving env)) [] s
  unfold compStart
  rw [Sem.onRaise_eq_wrap]
  show Seg _ _ _ _ _ s₀ _ ((ask >>= _).wrap _ _ _ _) [] s
  refine seg_bind_wrap (wpAny_askSetting ?_)
  split
  · exact seg_again rfl go
  · refine seg_bind_wrap (wpAny_rule ?_)
    show Seg _ _ _ _ _ s₀ _ ((standAt iter.pos >>= _).wrap _ _ _ _) [] s
    refine seg_bind_wrap (wpAny_standAt (seg_bind_wrap ?_))
    exact T.self _ 0 s _ _ st0 (seg_again rfl go)
theorem no_clo {cells : List (Str × Addr)} : ∀ (l : List (Str × NameKind)), (∀ y ∈ l, y.2 ≠ .free) → cloFrom cells l [] = []
  | [], _ => rfl
  | (n, k) :: r, h => by
    have z := no_clo (cells := cells) r fun y hy => h y (List.mem_cons_of_mem _ hy)
    have hk : k ≠ .free := h (n, k) List.mem_cons_self
    unfold cloFrom
    cases k <;> first | exact z | exact absurd rfl hk
theorem pe_allG {X : Cx} {c P : Addr} {elt iter : Expr} {x : Str} {px p pos gp : Pos} {scope : Scope} {wi : TI} {te : TE} {k : Nat}
    (hr : Room k X.A) (hg : Gl X "all") (hm : X.mg "all" = none) (hb : bootBuiltins "all" = some (.builtin "all")) (TB : GxR.TabB X.base X.mg c P) (hcode : X.env.code = .ref c) (S : GnS scope x) (hi : PI X (.Name x px) iter wi)
    (hel : ∀ (it C : Addr) (s : Shared) (H : Hp) (code : Value) (fp : List Addr), PE (gCx X (.GeneratorExp elt [⟨.Name x px, iter, [], 0⟩] scope gp) it x s H (gEnv X scope C code) fp) elt te)
    (hs : ∀ v, genFold iter X.env v = pure v)
    (he : starEach [.GeneratorExp elt [⟨.Name x px, iter, [], 0⟩] scope gp] X.env = (false, eval (.GeneratorExp elt [⟨.Name x px, iter, [], 0⟩] scope gp) X.env) :: starEach [] X.env := by rfl) :
    PE X (.Call (.Name "all" p) [.GeneratorExp elt [⟨.Name x px, iter, [], 0⟩] scope gp] [] pos) (tAllG P wi te) := by
  have dep := hr.dp
  refine ⟨fun pins s σ H Q I h => ?_⟩
  refine wpAny_Call_Name_kw (ld_blt I hg hm hb ?_)
  refine PyProof.Rows.callWith_builtin1 ?_ he (by rfl)
  rw [he]
  refine Calls.spliced_cons (wpAny_GeneratorExp_make (cl := []) S.co ?_ S.cell S.dot S.kind (by omega) ?_ hs)
  · rw [closure_ok (fun y hy e => absurd e (S.free y hy)), no_clo _ S.free]
  refine thn (hi.run pins s σ H _ I h) fun xv s1 hx => thn hx fun itv s2 ⟨it, fp, tn, J, H2, e, I2, T, st2, f2, TG, n, W, w0, turn⟩ => ⟨I2.nolimit, ?_⟩
  subst e
  obtain ⟨ps, hP, ht⟩ := TG
  have hPs : s2.heap.get? P = some { cls := .none, data := .fields ps } := I2.hok P _ hP
  have cd : PySem.W.CodeHd s2.heap c P := TB.code.keeps I2.bk
  have fpP : ∀ b ∈ fp, b ≠ P := fun b hb z => by
    have q := (f2 b hb).1
    rw [z, hP] at q
    cases q
  have cont : ∀ (code : Value) (h3 : Heap) (tk : Nat) (ps' : Array Value), Heap.ExtBut P s2.heap h3 → s2.heap.objs.size ≤ h3.objs.size → h3.get? P = some { cls := .none, data := .fields ps' } → (∃ more, ps' = ps ++ more) → TriplesOk ps'.toList →
      wpAny (model X.prog X.w) X.A (builtinsFor X.env.globals X.env.builtins) (fun bi s₄ => ∀ h', h'.Ns s₄.heap.objs.size (fun y => if y = ".0" then some (.ref it) else none) →
        Heap.SameBut s₄.heap.objs.size (s₄.heap.push { cls := .type "frame", data := .dict #[] }) h' → wpAny (model X.prog X.w) X.A (spliced (backTo pos (starEach [] X.env))) (fun us s' => wpAny (model X.prog X.w) X.A (call (.builtin "all") (.ref h'.objs.size :: us)) (EP X pins σ Q) X.xe s') X.xe
          { s₄ with gens := s₄.gens.push (.fresh (.compStart (.GeneratorExp elt [⟨.Name x px, iter, [], 0⟩] scope gp) 0 (.ref it) .none (genEnv scope [] s₄.heap.objs.size code bi X.env))), toks := s₄.toks + 1 + 1 + 1,
                    heap := h'.push { cls := .type "generator", data := .fields #[.int s₄.gens.size 0, .str "<genexpr>" (s₄.toks + 1), .str (X.env.qual ++ "<genexpr>") (s₄.toks + 1 + 1)] } }) X.xe { s2 with heap := h3, toks := tk } := by
    intro code h3 tk ps' hx hsz hP3 hmore ht3
    obtain ⟨bm, ob, e1, e2, e3, e4, e5, e6, e7, e8⟩ := TB.bm
    have keep3 : ∀ b u, b ≠ P → s2.heap.get? b = some u → h3.get? b = some u := fun b u hb e => hx b u hb e
    refine wpAny_builtinsFor (m := X.mg) (by rw [I2.ok.glob]; exact (I2.mod.glob.keeps I2.bk).extBut hx TB.gP) e1 e2 (keep3 _ _ e4 (I2.bk _ _ e5)) e6 e7 e8 ?_
    obtain ⟨more, em⟩ := hmore
    have I4 := GxR.inv_tab (more := more) (h' := h3) (g' := s2.gens) (d' := s2.drawn) (t' := tk) I2 hP (fun b u hb e => keep3 b u hb e) (by rw [← em]; exact hP3) I2.bare
    generalize hs4 : ({ s2 with heap := h3, toks := tk } : Shared) = s4 at I4 ⊢
    have h4 : s4.heap = h3 := by rw [← hs4]
    have tabbed : GxR.Tabbed P H2 (upd H2 P (.tbl (ps ++ more))) := ⟨⟨_, upd_same, by rw [← em]; exact ht3⟩, fun b hb => upd_ne hb⟩
    generalize upd H2 P (.tbl (ps ++ more)) = H4 at I4 tabbed
    have lt4 : ∀ b ∈ fp, b < s4.heap.objs.size := fun b hb => by
      obtain ⟨o, e, _⟩ := T.obj _ _ st2 b hb
      have z := Heap.lt_size e
      rw [h4]
      exact Nat.lt_of_lt_of_le z hsz
    have f4 : ∀ b ∈ fp, FpOk X pins H4 b ∧ b < s4.heap.objs.size := fun b hb => ⟨⟨(tabbed.2 b (fpP b hb)).trans (f2 b hb).1, (f2 b hb).2⟩, lt4 b hb⟩
    intro h' hn' hs'
    have sz' : h'.objs.size = s4.heap.objs.size + 1 := by rw [hs'.1, Heap.size_push]
    have kp : ∀ b o, s4.heap.get? b = some o → h'.get? b = some o := fun b o e => hs'.extBut b o (Nat.ne_of_lt (Heap.lt_size e)) (Heap.get?_push_of_some _ e)
    generalize hG : ({ cls := .type "generator", data := .fields #[.int s4.gens.size 0, .str "<genexpr>" (s4.toks + 1), .str (X.env.qual ++ "<genexpr>") (s4.toks + 1 + 1)] } : Obj) = G
    have IG := gen_inv (elt := elt) (cs := [⟨.Name x px, iter, [], 0⟩]) (sc := scope) (gp := gp) (it := it) (code := code) (G := G) (g' := s4.gens.push (.fresh (.compStart (.GeneratorExp elt [⟨.Name x px, iter, [], 0⟩] scope gp) 0 (.ref it) .none (gEnv X scope s4.heap.objs.size code)))) (tk := s4.toks + 1 + 1 + 1)
      I4 S hr.hd f4 hn' sz' kp (I4.bare.push rfl) (fun v z => by rw [← hG] at z; cases z) (by rw [← hG] <;> rfl)
    have st5 : tn 0 (h'.push G) := T.keep _ _ _ st2 fun b hb o e => Heap.get?_push_of_some _ (kp b o (by rw [h4]; exact keep3 b o (fpP b hb) e))
    refine Calls.spliced_nil ?_
    have isG : ∀ hp : Heap, hp.get? h'.objs.size = some G → hp.IsGen h'.objs.size s4.gens.size := fun hp e => ⟨G, _, _, e, by rw [← hG], by rw [← hG], by rw [← hG]⟩
    have hpn : ∀ b ∈ fp, ∀ p ∈ [(h'.objs.size, G)], p.1 ≠ b := fun b hb p hp z => by
      obtain rfl := List.mem_singleton.mp hp
      have q : b < s4.heap.objs.size := lt4 b hb
      have z2 : h'.objs.size = b := z
      rw [← z2, sz'] at q
      exact Nat.lt_irrefl _ (Nat.lt_of_succ_lt q)
    have loop := gen_seg (elt := elt) (iter := iter) (px := px) (gp := gp) (sc := scope) (Q := Q) (tn := tn) (n := n) rfl S.co T (pg_name (X := gCx X (.GeneratorExp elt [⟨.Name x px, iter, [], 0⟩] scope gp) it x s4 H4 (gEnv X scope s4.heap.objs.size code) fp) (List.nodup_cons.mpr ⟨List.not_mem_nil, List.nodup_nil⟩) rfl (.inl S.loc) (.inr S.loc))
      (hel it s4.heap.objs.size s4 H4 code fp) turn hpn
    refine call_function_tree (F.kind_all) (F.plain_all) (F.entry_all) (F.args_all1 _) ?_
    unfold Builtin.«all»
    refine wpAny_bind (m := oneArg "all" _) (wpAny_pure ?_)
    refine wpAny_bind (wpAny_pyIter_gen (isG _ (IG.pin (h'.objs.size, G) (List.mem_singleton.mpr rfl)).1) ?_)
    refine wpAny_pure ⟨plainId_quiet (F.plain_all_loop) _, all_run (pn := [(h'.objs.size, G)]) (tn := tn) (fp := fp) (W := W) (Q := Q) (List.mem_singleton.mpr rfl) isG hr.hd (by omega) (fun b s' hf => ?_) n _ ⟨0, _, ⟨H4, IG, st5, fun b hb => (f4 b hb).1.1, w0 H4 tabbed⟩, Array.getElem?_push_size .., fun s' hst => ⟨rfl, gen_den T (fun s s₀ q => loop n 0 s s₀ (Nat.sub_zero n) q) s' s' hst⟩⟩⟩
    obtain ⟨H', IY, q⟩ := hf
    have J := I4.call' (ch := fp) IY.os IY.base IY.hok IY.bare fun b hb => ⟨(f4 b hb).1.2.2.2.1, (f4 b hb).1.2.1, (f4 b hb).1.2.2.2.2.1, (f4 b hb).1.2.2.2.2.2⟩
    exact ⟨.bl b, H', J, rfl, q⟩
  cases hf : codeAmong gp ps.toList with
  | none =>
    refine wpAny_genexprCodeX hcode (cd.code hPs ht) (cd.tab hPs) hf fun c' h' tk hx hge hlt hco' _ htab' _ => ?_
    obtain ⟨o1, vs, f1, tf, fl, tg, inF, tx, tt, op, _, _, _, _, _, _, _, _, _, htr, _⟩ := hco'
    exact cont _ h' tk _ hx (Nat.le_trans hge (Nat.le_of_lt hlt)) htab'.2 ⟨_, rfl⟩ htr
  | some cv =>
    refine wpAny_genexprCode_hit hcode (cd.code hPs ht) hf ?_
    exact cont cv s2.heap s2.toks ps (Heap.ExtBut.refl _ _) (Nat.le_refl _) hPs ⟨#[], by simp⟩ ht
end KR
/-! ### defs whose code has a table (a generator expression stands in them): what is kept around their calls, and the law's end with such tables -/
namespace KR
open PySem PySem.Spec PyProof.Rows L2
/-- what was tracked is as it was; tables may have grown -/
structure Sm (H H' : Hp) : Prop where
  keep : ∀ b o, H b = some o → (∀ q, o ≠ .tbl q) → H' b = some o
  tab : ∀ b, GxR.TabG H b → GxR.TabG H' b
theorem tab_at {H : Hp} {b : Addr} (h : GxR.TabG H b) : ∃ q, H b = some (.tbl q) := h.elim fun q z => ⟨q, z.1⟩
theorem Sm.refl {H : Hp} : Sm H H := ⟨fun _ _ h _ => h, fun _ h => h⟩
theorem Sm.trans {H H1 H2 : Hp} (a : Sm H H1) (b : Sm H1 H2) : Sm H H2 := ⟨fun c o h n => b.keep c o (a.keep c o h n) n, fun c h => b.tab c (a.tab c h)⟩
theorem Sm.of {H H1 : Hp} (a : Same H H1) : Sm H H1 := ⟨fun c o h _ => a c o h, fun c ⟨q, e, t⟩ => ⟨q, a _ _ e, t⟩⟩
theorem Sm.tabbed {H H1 : Hp} {P : Addr} (a : GxR.Tabbed P H H1) (h : GxR.TabG H P) : Sm H H1 := by
  obtain ⟨q, e, _⟩ := h
  refine ⟨fun c o h n => ?_, fun c ⟨q2, e2, t2⟩ => ?_⟩
  · have ne : c ≠ P := fun z => by
      rw [z, e] at h
      exact n q (Option.some.inj h).symm
    rw [a.2 c ne]
    exact h
  · by_cases z : c = P
    · rw [z]
      exact a.1
    · exact ⟨q2, (a.2 c z).trans e2, t2⟩
theorem Sm.tup {K : PySem.W.Frag} {H H' : Hp} {a : Addr} {xs : List V} (e : Sm H H') (h : SqT K H a xs) : SqT K H' a xs := by
  rcases h with (h | ⟨o, h⟩) | h
  · exact .inl (.inl (e.keep _ _ h nofun))
  · exact .inl (.inr ⟨o, e.keep _ _ h nofun⟩)
  · exact .inr h
theorem Sm.seq {K : PySem.W.Frag} {H H' : Hp} {a : Addr} {xs : List V} (e : Sm H H') (h : SqL K H a xs) : SqL K H' a xs := by
  rcases h with (h | ⟨o, h⟩) | h
  · exact .inl (.inl (e.keep _ _ h nofun))
  · exact .inl (.inr ⟨o, e.keep _ _ h nofun⟩)
  · exact .inr h
theorem Sm.lst {H H' : Hp} {a : Addr} {xs : List V} (e : Sm H H') (h : H a = some (.lst xs)) : H' a = some (.lst xs) := e.keep _ _ h nofun
theorem BoxAt.sm {H H' : Hp} {p : Addr} {n : Nat} (h : BoxAt H p n) (s : Sm H H') : BoxAt H' p n := by
  obtain ⟨a, b, c, h1, h2⟩ := h
  exact ⟨a, b, c, s.lst h1, h2⟩
/-- .. but the box p -/
structure Fs (p : Addr) (H H' : Hp) : Prop where
  keep : ∀ b o, b ≠ p → H b = some o → (∀ q, o ≠ .tbl q) → H' b = some o
  tab : ∀ b, b ≠ p → GxR.TabG H b → GxR.TabG H' b
theorem Fs.refl {p : Addr} {H : Hp} : Fs p H H := ⟨fun _ _ _ h _ => h, fun _ _ h => h⟩
theorem Fs.trans {p : Addr} {H H1 H2 : Hp} (a : Fs p H H1) (b : Fs p H1 H2) : Fs p H H2 := ⟨fun c o e h n => b.keep c o e (a.keep c o e h n) n, fun c e h => b.tab c e (a.tab c e h)⟩
theorem Fs.of {p : Addr} {H H1 : Hp} (a : Fr p H H1) : Fs p H H1 := ⟨fun c o e h _ => a c o e h, fun c e ⟨q, g, t⟩ => ⟨q, a _ _ e g, t⟩⟩
theorem Fs.sm {p : Addr} {H H1 : Hp} (a : Sm H H1) : Fs p H H1 := ⟨fun c o _ h n => a.keep c o h n, fun c _ h => a.tab c h⟩
/-- so many tables are there -/
def Tbs (Ps : List Addr) (H : Hp) : Prop := ∀ P ∈ Ps, GxR.TabG H P
theorem Tbs.sm {Ps : List Addr} {H H' : Hp} (h : Tbs Ps H) (s : Sm H H') : Tbs Ps H' := fun P hP => s.tab P (h P hP)
theorem Tbs.fs {Ps : List Addr} {p : Addr} {H H' : Hp} {xs : List V} (h : Tbs Ps H) (hp : H p = some (.lst xs)) (s : Fs p H H') : Tbs Ps H' := fun P hP => s.tab P (fun z => by
  obtain ⟨q, e⟩ := tab_at (h P hP)
  rw [z, hp] at e
  cases e) (h P hP)
theorem box_lst {H : Hp} {p : Addr} {n : Nat} (h : BoxAt H p n) : ∃ xs, H p = some (.lst xs) := by
  obtain ⟨a, b, c, h1, _⟩ := h
  exact ⟨_, h1⟩
theorem Tbs.fr {Ps : List Addr} {p : Addr} {n : Nat} {H H' : Hp} (h : Tbs Ps H) (B : BoxAt H p n) (f : Fr p H H') : Tbs Ps H' := (box_lst B).elim fun _ e => h.fs e (.of f)
theorem Tbs.same {Ps : List Addr} {H H' : Hp} (h : Tbs Ps H) (s : Same H H') : Tbs Ps H' := h.sm (.of s)
/-- what is written into a list of the def's own touches no table -/
theorem Tbs.put {Ps : List Addr} {H : Hp} {D : Addr} {xs ys : List V} (h : Tbs Ps H) (hd : H D = some (.lst xs)) : Tbs Ps (upd H D (.lst ys)) := h.fs hd (.of fr_updL)
where fr_updL : Fr D H (upd H D (.lst ys)) := fun b o n e => by rw [upd_ne n]; exact e
theorem Sm.put {H0 H : Hp} {D : Addr} {o : HO} (s : Sm H0 H) (h : H0 D = none) : Sm H0 (upd H D o) :=
  ⟨fun b u e n => by rw [upd_ne (ne_of_none e h)]; exact s.keep b u e n, fun b ⟨q, e, t⟩ => by
    obtain ⟨q2, e2, t2⟩ := s.tab b ⟨q, e, t⟩
    exact ⟨q2, by rw [upd_ne (ne_of_none e h)]; exact e2, t2⟩⟩
/-- a def of the text whose code object is known -/
structure FunC (K : PySem.W.Frag) (x qual : Str) (st : Stmt) (f : Addr) (fd : FuncData) (c : Addr) : Prop where
  ex : ∃ (oc : Value) (od : Option Addr) (kV doc pm : Value) (an : Option Addr) (ct : Value) (osl : Array (Option Value)),
    fd = PySem.W.fnOf x qual (defArgs st) (defBody st) (defScope st) .none kV doc pm an (.ref c) ct ∧ K.lookup f = some ⟨oc, od, .func fd, osl⟩ ∧ PySem.W.codeIn K (.ref c) qual = true
theorem funC_mk {K : PySem.W.Frag} {x qual : Str} {st : Stmt} {f c : Addr} {oc : Value} {od an : Option Addr} {osl : Array (Option Value)} {kV doc pm ct : Value} (l : K.lookup f = some ⟨oc, od, .func (PySem.W.fnOf x qual (defArgs st) (defBody st) (defScope st) .none kV doc pm an (.ref c) ct), osl⟩)
    (h : PySem.W.codeIn K (.ref c) qual = true) : FunC K x qual st f (PySem.W.fnOf x qual (defArgs st) (defBody st) (defScope st) .none kV doc pm an (.ref c) ct) c := ⟨⟨oc, od, kV, doc, pm, an, ct, osl, rfl, l, h⟩⟩
section
variable {P : Program} {w : World} {K : PySem.W.Frag} {mg : Str → Option Value} {base : Heap}
theorem FunC.ok {x qual : Str} {st : Stmt} {f c : Addr} {fd : FuncData} {N ps : List Str} {k : Nat} {sp : Sp} (F : FunC K x qual st f fd c) (S : FnScope N ps (defScope st)) (len : ∀ vs H Q E, sp vs H Q E → vs.length = ps.length)
    (body : ∀ (cdv : Value) (A : Around) (outer : List Env) (s : Shared) (H : Hp) (vs : List V) (Q : VK) (E : XK), cdv = .ref c → Room k (A.deeper (envOfC qual (defScope st) s.heap.objs.size f cdv)) → sp vs H Q E →
      ∃ t, PSs (cxOf CX0 P w K mg base N qual (defScope st) f cdv A outer s H E).nox (defBody st) t ∧ t { nx := fun _ H' => Q .non H', rt := Q } (start N vs) H) : FnOk P w K mg base CX0 (k + 1) f fd ps sp := by
  obtain ⟨_, _, _, _, _, _, _, _, rfl, lk, hcd⟩ := F.ex
  exact fn_of lk hcd S len fun A outer s H vs Q E hr hsp => (body (.ref c) A outer s H vs Q E rfl hr hsp).elim fun t z => ⟨t, z.1.nox, z.2⟩
end
section
variable {P : Program} {w : World} {K : PySem.W.Frag} {mg mb : Str → Option Value} {k : Nat} {fa a : Addr} {fd : FuncData} {x : Str} {sp : Sp} {s₁ : Shared} {vs : List Value} {ns : List Int}
/-- what is tracked when the law is called: the script and the tables -/
def scrT (K : PySem.W.Frag) (a : Addr) (ob : Obj) (ns : List Int) (Ps : List Addr) : Hp := fun b => if b ∈ Ps then some (.tbl #[]) else scr K a ob ns b
theorem scrT_some {ob : Obj} {Ps : List Addr} {b : Addr} {u : HO} (h : scrT K a ob ns Ps b = some u) : (b ∈ Ps ∧ u = .tbl #[]) ∨ (b ∉ Ps ∧ b = a ∧ K.lookup a = none ∧ u = .frz ob (.lst (ns.map V.int))) := by
  unfold scrT at h
  split at h
  · rename_i c
    exact .inl ⟨c, (Option.some.inj h).symm⟩
  · rename_i c
    exact .inr ⟨c, scr_some h⟩
abbrev eob : Obj := { cls := .none, data := .fields #[] }
theorem call_lawT {cs : List (Addr × Addr)} (inK : K.In s₁.heap) (gl : s₁.heap.Ns mainGlobals mg) (bl : s₁.heap.Ns builtinsNs mb) (boot : ∀ x : Str, x ≠ "__name__" → mb x = bootBuiltins x) (lim : s₁.heap.NoLimit) (quiet : s₁.gens = #[])
    (empty : ∀ p ∈ cs, s₁.heap.get? p.2 = some eob) (noK : ∀ p ∈ cs, K.lookup p.2 = none) (head : ∀ p ∈ cs, PySem.W.CodeHd s₁.heap p.1 p.2)
    (bmain : ∃ (bm : Addr) (ob : Obj), mg "__builtins__" = some (.ref bm) ∧ bm ≠ builtinsNs ∧ s₁.heap.get? bm = some ob ∧ ob.cls = .type "module" ∧ ob.dict = some builtinsNs ∧ ob.data = .plain)
    (there : s₁.heap.get? a = some { cls := .type "list", data := .seq vs.toArray }) (areInts : IntsAre vs ns) (len : ns.length ≤ sizeLine) (room : Room k callerA)
    (F : ∀ base : Heap, K.In base → base.Ns mainGlobals mg → (∀ p ∈ cs, GxR.TabB base mg p.1 p.2) → FnG P w K mg base k fa fd [x] sp) (binds : ∀ (s : Shared) (u : Value), BindsTo s fd ⟨[u], []⟩ [(x, u)])
    (asked : ∀ H : Hp, Tbs (cs.map (·.2)) H → SqL K H a (ns.map V.int) → sp [.ref a] H (fun v _ => v = .bl true) fun _ _ _ => False) :
    codeAny (model P w) callerA (.call (.ref fa) ⟨[.ref a], []⟩) (fun r s' => r = .ok (.ret (.bool true)) ∧ OldK s₁.heap s'.heap ∧ s'.os = s₁.os ∧ AllBare s'.gens) s₁ := by
  let ob : Obj := { cls := .type "list", data := .seq vs.toArray }
  let Ps := cs.map (·.2)
  let H := scrT K a ob ns Ps
  have at_ : ∀ {b u}, H b = some u → (b ∈ Ps ∧ u = .tbl #[]) ∨ (b ∉ Ps ∧ b = a ∧ K.lookup a = none ∧ u = .frz ob (.lst (ns.map V.int))) := scrT_some
  have isT : ∀ b ∈ Ps, s₁.heap.get? b = some eob := fun b hb => by
    obtain ⟨p, hp, e⟩ := List.mem_map.mp hb
    rw [← e]
    exact empty p hp
  have aT : a ∉ Ps := fun z => by
    have q := Option.some.inj ((isT a z).symm.trans there)
    have q2 : Data.fields #[] = Data.seq vs.toArray _ := congrArg Obj.data q
    cases q2
  have no : ∀ b o, s₁.heap.get? b = some o → (∀ q n, o.data ≠ .seq q n) → o.data ≠ .fields #[] → H b = none := fun b o e d1 d2 => by
    cases c : H b with
    | none => rfl
    | some u =>
      rcases at_ c with ⟨hb, _⟩ | ⟨_, rfl, _⟩
      · have q := Option.some.inj (e.symm.trans (isT b hb))
        exact absurd (by rw [q]) d2
      · have q := Option.some.inj (e.symm.trans there)
        exact absurd (by rw [q]) (d1 vs.toArray _)
  have keepNs : ∀ {b : Addr} {m : Str → Option Value}, s₁.heap.Ns b m → (hidT s₁.heap H).Ns b m := fun {b m} ⟨o, es, ep, e, d, r⟩ =>
    ⟨o, es, ep, hidT_get e (no b o e (fun q n z => by rw [d] at z; cases z) fun z => by rw [d] at z; cases z), d, r⟩
  have keepK : K.In (hidT s₁.heap H) := fun b o e => hidT_get (inK b o e) (by
    cases c : H b with
    | none => rfl
    | some u =>
      rcases at_ c with ⟨hb, _⟩ | ⟨_, rfl, n, _⟩
      · obtain ⟨p, hp, e2⟩ := List.mem_map.mp hb
        rw [← e2, noK p hp] at e
        cases e
      · rw [n] at e
        cases e)
  have rel := vals_ints areInts
  have holds : HOk P w H s₁.heap := fun b u c => by
    rcases at_ c with ⟨hb, rfl⟩ | ⟨_, rfl, _, rfl⟩
    · exact isT b hb
    · exact ⟨there, by rw [List.length_map]; exact len, vs, _, rel, there⟩
  have tbs : Tbs Ps H := fun b hb => ⟨#[], if_pos hb, by first | trivial | simp [TriplesOk]⟩
  have script : SqL K H a (ns.map V.int) := by
    cases c : K.lookup a with
    | none => exact Or.inl (Or.inr ⟨ob, (if_neg aT).trans (if_pos ⟨rfl, c⟩)⟩)
    | some o =>
      have e := Option.some.inj ((inK a o c).symm.trans there)
      subst e
      exact Or.inr ⟨_, vs.toArray, _, c, rfl, rfl, rfl, by rw [List.size_toArray, areInts.length]; exact len, by simpa using rel⟩
  have modul : Mod K mg (hidT s₁.heap H) := ⟨keepK, keepNs gl, ⟨mb, keepNs bl, boot⟩, lim.elim fun mc z => ⟨mc, keepNs z.1, z.2⟩⟩
  have tabB : ∀ p ∈ cs, GxR.TabB (hidT s₁.heap H) mg p.1 p.2 := fun p hp => by
    refine ⟨?_, ?_, fun z => ?_⟩
    · obtain ⟨o, us, file, tf, flags, tg, inF, text, tt, e1, r0, r1, r2, rest⟩ := head p hp
      refine ⟨o, us, file, tf, flags, tg, inF, text, tt, hidT_get e1 (no _ _ e1 (fun q n z => ?_) fun z => ?_), r0, r1, r2, rest⟩
      · rw [r1] at z
        cases z
      · rw [r1] at z
        cases z
        simp at r2
    · obtain ⟨bm, o, b1, b2, b3, b4, b5, b6⟩ := bmain
      refine ⟨bm, o, b1, b2, fun q => ?_, fun q => ?_, hidT_get b3 (no _ _ b3 (fun q n z => ?_) fun z => ?_), b4, b5, b6⟩
      · obtain ⟨o2, es, ep, e, d, _⟩ := gl
        rw [q, e] at b3
        cases b3
        rw [d] at b6
        cases b6
      · rw [q, empty p hp] at b3
        cases b3
        cases b6
      · rw [b6] at z
        cases z
      · rw [b6] at z
        cases z
    · obtain ⟨o2, es, ep, e, d, _⟩ := gl
      rw [z, empty p hp] at e
      cases e
      cases d
  have start0 : Env0 P w K mg (hidT s₁.heap H) callerA [] s₁ H := ⟨rfl, modul, fun b o e => of_hidT e, Nat.le_of_eq (hidT_size _ _), trivial, fun b hb => (List.not_mem_nil hb).elim, holds, .of_eq quiet⟩
  refine codeAny_mono ((F _ keepK (keepNs gl) tabB).does callerA [] s₁ H _ [.ref a] [.ref a] _ _ room rfl start0 (binds s₁ (.ref a)) (.cons rfl .nil) (asked H tbs script)) ?_
  intro r s' post
  match r, post with
  | .error e, post => exact False.elim post
  | .ok .next, post => exact post.elim
  | .ok .brk, post => exact post.elim
  | .ok .cont, post => exact post.elim
  | .ok (.ret u), ⟨v, H', os, bare, un, held, rv, e⟩ =>
    cases (show v = V.bl true from e)
    cases (show u = Value.bool true from rv)
    have key : ∀ b o, b ∉ Ps → s₁.heap.get? b = some o → s'.heap.get? b = some o := fun b o nb g => by
      cases c : H b with
      | none => exact un.keep b o g c (fun z => (List.not_mem_nil z).elim) (fun z => (List.not_mem_nil z).elim)
      | some u =>
        rcases at_ c with ⟨hb, _⟩ | ⟨_, rfl, _, rfl⟩
        · exact absurd hb nb
        · rw [Option.some.inj (g.symm.trans there)]
          exact (held b _ (un.frzs b ob _ c)).1
    have grown : ∀ p ∈ cs, ∃ more : Array Value, s'.heap.get? p.2 = some { cls := .none, data := .fields more } := fun p hp =>
      (un.tbls p.2 #[] (if_pos (List.mem_map.mpr ⟨p, hp, rfl⟩))).elim fun more z => ⟨_, held p.2 _ z⟩
    refine ⟨rfl, ⟨fun b o g => ?_, fun b o g => ?_⟩, os, bare⟩
    · by_cases hb : b ∈ Ps
      · obtain ⟨p, hp, e2⟩ := List.mem_map.mp hb
        obtain ⟨more, hm⟩ := grown p hp
        subst e2
        cases Option.some.inj (g.symm.trans (empty p hp))
        exact .inr (.inl ⟨((head p hp).tab (empty p hp)).isCodeTable, rfl, #[], more, rfl, by rw [Array.empty_append]; exact hm⟩)
      · exact .inl (key b o hb g)
    · by_cases hb : b ∈ Ps
      · obtain ⟨p, hp, e2⟩ := List.mem_map.mp hb
        subst e2
        exact (grown p hp).elim fun _ z => ⟨_, z⟩
      · exact ⟨o, key b o hb g⟩
end
/-- the goal that is left of a law: xs, the defs in which a generator expression stands -/
theorem walk_ofT {l : PySem.W.OpenLaw} {n k : Nat} {q : Program} {loose : List Str} {XP : (Str → Option Value) → Heap → Prop} {YP : World → Heap → Prop} {d : DefRec} {K : Params → PySem.W.Frag} {sp : World → List Addr → Sp} {x : Str} (xs : List Str)
    (most : l.most = some n) (n9 : n ≤ sizeLine) (nodf : d.params.defaults = []) (room : Room k callerA) (inK : ∀ (w : World) (h : Heap), YP w h → (K w.params).In h) (recs : ∀ y ∈ xs, ((recsOf q).any fun e => e.name == y) = true)
    (F : ∀ (w : World) (mg : Str → Option Value) (fa : Addr) (h : Heap), (K w.params).In h → h.Ns mainGlobals mg → mg d.name = some (.ref fa) →
      ∃ (fd : FuncData) (cs : List (Addr × Addr)), (∀ p ∈ cs, ∃ y ∈ xs, PySem.W.tabIn (K w.params) y = some p) ∧ (∀ p ∈ cs, (K w.params).lookup p.2 = none) ∧ (∀ (s : Shared) (u : Value), BindsTo s fd ⟨[u], []⟩ [(x, u)]) ∧
        ∀ base : Heap, (K w.params).In base → base.Ns mainGlobals mg → (∀ p ∈ cs, GxR.TabB base mg p.1 p.2) → FnG l.prog w (K w.params) mg base k fa fd [x] (sp w (cs.map (·.2))))
    (asked : ∀ (w : World) (Ps : List Addr) (H : Hp) (a : Addr) (ns : List Int), ns.length ≤ n → Tbs Ps H → SqL (K w.params) H a (ns.map V.int) → sp w Ps [.ref a] H (fun v _ => v = .bl true) fun _ _ _ => False) :
    PySem.W.WalkO q loose XP YP l.row.toRowW d [] (fun f vs => PySem.call f vs) :=
  Att.attach_call most nodf fun w s₀ s₁ mg mb fa o pm cd doc a vs ns G Y ho hd hcd hmg hobj hints hlen hg => by
    obtain ⟨fd, cs, ht, hn, b, f⟩ := F w mg fa _ (inK w _ Y) G.T.g hmg
    have tab : ∀ p ∈ cs, PySem.W.CodeHd s₁.heap p.1 p.2 ∧ s₁.heap.get? p.2 = some eob := fun p hp => by
      obtain ⟨y, hy, e⟩ := ht p hp
      obtain ⟨r, hr⟩ : ∃ r, (recsOf q).find? (fun e => e.name == y) = some r := Option.isSome_iff_exists.mp (by
        rw [List.find?_isSome]
        exact List.any_eq_true.mp (recs y hy))
      exact PySem.W.tab_of G.T (inK w _ Y) hr e
    exact call_lawT (inK w _ Y) G.T.g G.T.b G.T.builtins G.T.nolimit hg (fun p hp => (tab p hp).2) hn (fun p hp => (tab p hp).1) G.T.bmain hobj hints (Nat.le_trans hlen n9) room f b fun H tbs sc => asked w _ H a ns hlen tbs sc
/-- a comprehension in a comprehension -/
theorem blkOk_nest {N : List Str} {outer scope sc : Scope} {own : List (Str × Nat)} {cl : List (Str × Addr)} {C : Addr} {env : Env} (hs : env.scope = sc) (h : blkC N (relS outer sc) scope own = true) : BlkOk N (compEnvC outer cl C env).scope scope own := by
  subst hs
  exact blkOk_by h
/-- tuple(x) of a list or a tuple -/
def rTupI (K : PySem.W.Frag) : List V → Hp → VK → Prop := fun xs H Q => ∃ p ys, xs = [.ref p] ∧ ((SqL K H p ys ∧ ∀ l H', Same H H' → H l = none → H' l = some (.tup ys) → Q (.ref l) H') ∨ (SqT K H p ys ∧ Q (.ref p) H))
theorem tupI {X : Cx} {K : PySem.W.Frag} (h : X.K = K) : CallR X (.type "tuple") (rTupI K) := fun pins s σ H xs us Q I r ⟨p, ys, e, q⟩ =>
  call_tuple_of pins s σ H xs us Q I r ⟨p, ys, e, h ▸ q.imp (fun z => ⟨z.1, fun l hl => z.2 l _ (same_new hl) hl upd_same⟩) id⟩
theorem tabIn_of {K : PySem.W.Frag} {x : Str} {f c P : Addr} {oc e : Value} {od dd : Option Addr} {fd : FuncData} {osl sl : Array (Option Value)} {vs : Array Value} (a : PySem.W.nsIn K mainGlobals x = some (some (.ref f))) (l : K.lookup f = some ⟨oc, od, .func fd, osl⟩)
    (hc : fd.code = .ref c) (q : K.lookup c = some ⟨e, dd, .fields vs, sl⟩) (p : vs[11]? = some (.ref P)) : PySem.W.tabIn K x = some (c, P) := by
  unfold PySem.W.tabIn
  rw [a]
  dsimp only
  rw [l]
  dsimp only
  rw [hc]
  dsimp only
  rw [q]
  dsimp only
  rw [p]
end KR
/-! ### all(test for x in ..) whose test names one local of the def (a cell) -/
namespace KR
open PySem PySem.Spec PyProof.Rows L2
/-- the frame's scope: one name of its own, one captured -/
structure GnF (scope : Scope) (x y : Str) : Prop where
  kind : scope.kind = .function
  co : scope.isCoroutine = false
  cell : ∀ z ∈ scope.names, z.2 ≠ .cell
  free : ∀ z ∈ scope.names, z.2 = .free → z.1 = y
  clo : ∀ cells : List (Str × Addr), cloFrom cells scope.names [] = [(y, (cells.lookup y).getD 0)]
  fy : scope.names.lookup y = some .free
  dot : scope.names.lookup (".0" : Str) = some NameKind.local
  loc : scope.names.lookup x = some .local
theorem GnF.ne {scope : Scope} {x y : Str} (S : GnF scope x y) : x ≠ y := fun e => by
  have := S.loc.symm.trans (e ▸ S.fy)
  cases this
/-- the frame's environment, its around -/
abbrev gEnvF (X : Cx) (scope : Scope) (y : Str) (cy C : Addr) (code : Value) : Env := genEnv scope [(y, cy)] C code builtinsNs X.env
/-- the frame's context: it began at s, H; fp: what is walked -/
abbrev gCxF (X : Cx) (ge : Expr) (it : Addr) (x y : Str) (s : Shared) (H : Hp) (env : Env) (fp : List Addr) : Cx :=
  { prog := X.prog, w := X.w, K := X.K, mg := X.mg, base := X.base, A := gAr X ge it env, N := [x, y], s_0 := s, H_0 := H, env := env, outer := X.stack, stack := env :: X.stack, ex := fp, fn := fun _ => false, calm := true, pn := [], xe := fun _ _ => False }
section
variable {X : Cx} {pins : List (Addr × Obj)} {σ : L2.St} {H : Hp} {s : Shared}
theorem gen_okF {elt : Expr} {cs : List Comprehension} {sc : Scope} {gp : Pos} {it : Addr} {x y : Str} {cy : Addr} {scope : Scope} {code : Value} {fp : List Addr} (I : Inv X pins σ H s) (S : GnF scope x y) (hcy : X.env.cells.lookup y = some cy) (hh : X.A.handled = none) (hfp : ∀ b ∈ fp, FpOk X pins H b ∧ b < s.heap.objs.size) :
    (gCxF X (.GeneratorExp elt cs sc gp) it x y s H (gEnvF X scope y cy s.heap.objs.size code) fp).Ok := by
  have one : ∀ z c, ([(y, cy)] : List (Str × Addr)).lookup z = some c → z = y ∧ c = cy := fun z c e => by
    rw [List.lookup_cons] at e
    cases hz : z == y with
    | true =>
      rw [hz] at e
      exact ⟨by simpa using hz, (Option.some.inj e).symm⟩
    | false =>
      rw [hz] at e
      cases e
  exact {
    mod := I.ok.mod, kind := S.kind, glob := I.ok.glob, blt := rfl, above := Nat.le_refl _
    inj := fun z u c e1 e2 => (one z c e1).1.trans (one u c e2).1.symm
    has := fun z h => (by
      rcases h with h | h
      · exact absurd rfl (S.cell _ (PySem.mem_of_lookup h))
      · have e := S.free _ (PySem.mem_of_lookup h) rfl
        have e : z = y := e
        subst e
        exact ⟨cy, by show ([(z, cy)] : List (Str × Addr)).lookup z = some cy; rw [List.lookup_cons, beq_self_eq_true]⟩)
    cab := fun y c z _ => (by cases z)
    hd := fun _ => hh
    frames := (by
      show pushEnvs [gEnvF X scope y cy s.heap.objs.size code] (pushEnvs [] X.A.frames) = _
      rw [I.ok.frames] <;> rfl)
    stk := .inr ⟨rfl, rfl⟩
    exf := fun b hb => ⟨Nat.ne_of_lt (hfp b hb).2, fun z c e => (by
      have e2 := (one z c e).2
      rw [e2]
      exact (hfp b hb).1.2.2.2.2.1 y cy hcy)⟩
    bs := I.bs, bsz := Nat.le_trans I.ok.bsz I.sz
    noex := fun b o e hb => (by
      obtain ⟨_, _, _, old | old, _⟩ := (hfp b hb).1
      · exact I.ok.noex b o e old
      · have z := Heap.lt_size e
        have z2 := I.ok.bsz
        exact Nat.lt_irrefl b (Nat.lt_of_lt_of_le z (Nat.le_trans z2 old)))
    exfs := fun b hb hf => (by
      obtain ⟨⟨_, n1, n2, _⟩, _⟩ := hfp b hb
      rcases List.mem_cons.mp (I.stkSub b hf) with e | e
      · exact n1 e
      · exact n2 e)
    funs := I.stack, frf := I.stkFree }
/-- the frame as it begins: its space at C, its generator behind it -/
theorem gen_invF {elt : Expr} {cs : List Comprehension} {sc : Scope} {gp : Pos} {it : Addr} {x y : Str} {cy : Addr} {w : V} {scope : Scope} {code : Value} {fp : List Addr} {h' : Heap} {G : Obj} {g' : Array GenState} {tk : Nat} {m : Str → Option Value} (I : Inv X pins σ H s) (S : GnF scope x y) (hcy : X.env.cells.lookup y = some cy) (hw : ∃ u, RelV w u ∧ s.heap.IsCell cy (some u)) (hh : X.A.handled = none)
    (hfp : ∀ b ∈ fp, FpOk X pins H b ∧ b < s.heap.objs.size) (hn : h'.Ns s.heap.objs.size m) (hsz : h'.objs.size = s.heap.objs.size + 1) (kp : ∀ b o, s.heap.get? b = some o → h'.get? b = some o) (hg : AllBare g') (hG : ∀ v, G.data ≠ .cell v) (hF : G.isFreed = false) :
    Inv (gCxF X (.GeneratorExp elt cs sc gp) it x y s H (gEnvF X scope y cy s.heap.objs.size code) fp) [(h'.objs.size, G)] [none, some w] H { s with heap := h'.push G, gens := g', toks := tk } := by
  have gone : ∀ z c, ([(y, cy)] : List (Str × Addr)).lookup z = some c → z = y ∧ c = cy := fun z c e => by
    rw [List.lookup_cons] at e
    cases hz : z == y with
    | true =>
      rw [hz] at e
      exact ⟨by simpa using hz, (Option.some.inj e).symm⟩
    | false =>
      rw [hz] at e
      cases e
  have kp2 : ∀ b o, s.heap.get? b = some o → (h'.push G).get? b = some o := fun b o e => Heap.get?_push_of_some _ (kp b o e)
  have gt : s.heap.objs.size ≤ h'.objs.size := by omega
  exact {
    ok := gen_okF I S hcy hh hfp, os := rfl, bare := hg, base := Un.kept kp2
    loc := ⟨m, hn.push _, fun i z v e0 e vis => (by
      match i, e0, e with
      | 0, _, e => cases e
      | 1, e0, e =>
        cases e0
        cases e
        obtain ⟨u, ru, hu⟩ := hw
        exact ⟨u, ru, .inr ⟨.inr S.fy, cy, by show ([(y, cy)] : List (Str × Addr)).lookup y = some cy; rw [List.lookup_cons, beq_self_eq_true], hu.imp fun o ho => ⟨kp2 _ _ ho.1, ho.2⟩⟩⟩
      | j + 2, e0, _ => cases e0)⟩
    cell := fun z c e => (by
      have e2 := (gone z c e).2
      rw [e2]
      obtain ⟨u, _, hu⟩ := hw
      exact ⟨_, hu.imp fun o ho => ⟨kp2 _ _ ho.1, ho.2⟩⟩)
    free := I.hok.fresh (Nat.le_refl _)
    freeC := fun z c e => (by
      have e2 := (gone z c e).2
      rw [e2]
      exact I.freeC y cy hcy)
    pin := fun p hp => (by
      obtain rfl := List.mem_singleton.mp (show p ∈ [(h'.objs.size, G)] from hp)
      refine ⟨Heap.get?_push_size _ hF, I.hok.fresh gt, fun z => ?_, fun z => ?_, hG⟩
      · have z2 : h'.objs.size = s.heap.objs.size := z
        omega
      · rcases List.mem_cons.mp (I.stkSub _ z) with e | e
        · have z2 := I.lt
          rw [← e] at z2
          have z3 : h'.objs.size < s.heap.objs.size := z2
          omega
        · exact I.nofs gt e)
    hok := I.hok.kept kp2, len := rfl }
end
/-- what is so between two steps of the generator, i things taken -/
def GStF (w : V) (Y : Cx) (pn : List (Addr × Obj)) (tn : Nat → Heap → Prop) (fp : List Addr) (W : Nat → Hp → Prop) (i : Nat) (s : Shared) : Prop :=
  ∃ H', Inv Y pn [none, some w] H' s ∧ tn i s.heap ∧ (∀ b ∈ fp, H' b = none) ∧ W i H'
/-- how it ends, how it hands out -/
def gFinF (w : V) (Y : Cx) (pn : List (Addr × Obj)) (Q : VK) (b : Bool) (s : Shared) : Prop := ∃ H', Inv Y pn [none, some w] H' s ∧ Q (.bl b) H'
abbrev gEndF (w : V) (Y : Cx) (pn : List (Addr × Obj)) (Q : VK) : GenEnd := fun _ _ r s1 => r = .ok .next ∧ gFinF w Y pn Q true s1
def gProF (w : V) (Y : Cx) (pn : List (Addr × Obj)) (tn : Nat → Heap → Prop) (fp : List Addr) (W : Nat → Hp → Prop) (Q : VK) : Protocol := fun _ _ v s kap =>
  ∃ b : Bool, v = .bool b ∧ (b = true → ∃ i, GStF w Y pn tn fp W i s ∧ ∀ s', GStF w Y pn tn fp W i s' → kap (.send .none) s') ∧ (b = false → gFinF w Y pn Q false s)
/-- one turn's reading -/
def GTurnF (w : V) (J : It) (te : TE) (n : Nat) (W : Nat → Hp → Prop) (Q : VK) : Prop := ∀ i H2, W i H2 →
  (J.stop i H2 ∧ Q (.bl true) H2) ∨ (J.go i H2 ∧ i < n ∧ ∀ x H3, J.yld i H2 x H3 → te [some x, some w] H3 fun u H4 => ∃ b, u = .bl b ∧ if b = true then W (i + 1) H4 else Q (.bl false) H4)
section
variable {X : Cx} {elt iter : Expr} {x y : Str} {w : V} {px gp : Pos} {sc : Scope} {it C : Addr} {s₁ : Shared} {H₁ : Hp} {code : Value} {fp : List Addr} {pn : List (Addr × Obj)} {tn : Nat → Heap → Prop} {J : It} {te : TE} {n : Nat} {W : Nat → Hp → Prop} {Q : VK}
theorem gen_segF {Y : Cx} {env : Env} (hY : Y = gCxF X (.GeneratorExp elt [⟨.Name x px, iter, [], 0⟩] sc gp) it x y s₁ H₁ env fp) (hco : env.scope.isCoroutine = false) (T : Turn X.prog X.w X.K (.Name x px) J fp it tn)
    (pg : PG Y (.Name x px) (gName 0)) (pe : PE Y elt te) (turn : GTurnF w J te n W Q) (hpn : ∀ b ∈ fp, ∀ p ∈ pn, p.1 ≠ b) :
    ∀ (m i : Nat) (s s₀ : Shared), n - i = m → GStF w Y pn tn fp W i s → Seg (model X.prog X.w) X.A.in1.in1 (gEndF w Y pn Q) (gProF w Y pn tn fp W Q) m s₀
      (.compLoop (.GeneratorExp elt [⟨.Name x px, iter, [], 0⟩] sc gp) 0 (.ref it) .none env) ((model X.prog X.w).den (.compLoop (.GeneratorExp elt [⟨.Name x px, iter, [], 0⟩] sc gp) 0 (.ref it) .none env)) [] s := by
  have hA : Y.A = X.A.in1.in1.over (.compLoop (.GeneratorExp elt [⟨.Name x px, iter, [], 0⟩] sc gp) 0 (.ref it) .none env) [] := by rw [hY]
  have hP : Y.prog = X.prog := by rw [hY]
  have hW : Y.w = X.w := by rw [hY]
  have hK : Y.K = X.K := by rw [hY]
  have hC : Y.calm = true := by rw [hY]
  have hE : Y.env = env := by rw [hY]
  have hX : Y.ex = fp := by rw [hY]
  have hN : Y.pn = [] := by rw [hY]
  have hxe : Y.xe = fun _ _ => False := by rw [hY]
  have stat : ∀ {σ' : L2.St} {H' : Hp} {s' : Shared}, Inv Y pn σ' H' s' → (∀ b ∈ fp, H' b = none) → ∀ b ∈ fp, FpOk Y pn H' b := fun {σ' H' s'} I' hn b hb => by
    have hb2 : b ∈ Y.ex := by rw [hX]; exact hb
    refine ⟨hn b hb, (I'.ok.exf b hb2).1, I'.ok.exfs b hb2, .inl hb2, fun y c e => (I'.ok.exf b hb2).2 y c e, fun p hp => ?_⟩
    rw [hN] at hp
    exact hpn b hb p hp
  have runG := fun pins s σ H v u Q => pg.run pins s σ H v u Q
  have runE := fun pins s σ H Q => pe.run pins s σ H Q
  rw [hA, hP, hW, hE, hxe] at runG runE
  intro m
  induction m with
  | zero =>
    rintro i s s₀ hm ⟨H, I, st, nf, wv⟩
    show Seg _ _ _ _ _ s₀ _ ((compTurn _ 0 (.ref it) .none env).onRaise (leaving env)) [] s
    rw [compTurn_gen, Sem.onRaise_eq_wrap]
    refine seg_bind_wrap (wpAny_standAt ?_)
    rcases turn i H wv with ⟨stop, q⟩ | ⟨_, lt, _⟩
    · have td := T.done Y hP hW hK hC i pn s _ H (fun _ _ => False) I (stat I nf) st stop
      rw [hA] at td
      refine seg_bind_wrap (thnF td fun r s2 ⟨e, I2⟩ => ?_)
      rw [e]
      exact seg_end (.ok .next) ⟨rfl, H, I2, q⟩
    · exact absurd lt (by omega)
  | succ m ih =>
    rintro i s s₀ hm ⟨H, I, st, nf, wv⟩
    show Seg _ _ _ _ _ s₀ _ ((compTurn _ 0 (.ref it) .none env).onRaise (leaving env)) [] s
    rw [compTurn_gen, Sem.onRaise_eq_wrap]
    refine seg_bind_wrap (wpAny_standAt ?_)
    rcases turn i H wv with ⟨stop, q⟩ | ⟨go, lt, step⟩
    · have td := T.done Y hP hW hK hC i pn s _ H (fun _ _ => False) I (stat I nf) st stop
      rw [hA] at td
      refine seg_bind_wrap (thnF td fun r s2 ⟨e, I2⟩ => ?_)
      rw [e]
      exact seg_end (.ok .next) ⟨rfl, H, I2, q⟩
    · have ti := T.item Y hP hW hK hC i pn s _ H (fun _ _ => False) I (stat I nf) st go
      rw [hA] at ti
      refine seg_bind_wrap (thnF ti fun r s2 ⟨u, e, h2⟩ => ?_)
      rw [e]
      refine seg_bind_wrap (thnF h2 fun _ s3 ⟨y0, H3, I3, r3, y3, st3, n3⟩ => ?_)
      have I3' := I3.pinned (stat I3 n3) (T.obj _ _ st3)
      refine seg_bind_wrap (thnF (runG _ s3 _ H3 y0 u _ I3' r3 (show gName 0 y0 [none, some w] H3 (fun σ' H' => σ' = [some y0, some w] ∧ H' = H3) from ⟨rfl, rfl⟩)) fun _ s4 ⟨σ4, H4, I4, e4, e5⟩ => ?_)
      subst e4 e5
      refine seg_bind_wrap (wpAny_tests_nil ?_)
      simp only [if_true]
      have yo : ∀ v, yieldOut env v = yieldValue v := fun v => by
        unfold yieldOut
        rw [hco] <;> rfl
      simp only [yo]
      rw [Sem.bind_eq_wrap', Sem.bind_eq_wrap', Sem.wrap_wrap, Sem.wrap_wrap]
      refine seg_wrap (thnF (runE _ s4 _ _ _ I4 (step y0 _ y3)) fun v s5 ⟨yv, H5, I5, r5, b, e5, q5⟩ => ?_)
      subst e5
      obtain rfl : v = Value.bool b := r5
      have pin' : ∀ b ∈ fp, ∀ o, s3.heap.get? b = some o → s5.heap.get? b = some o ∧ H5 b = none := fun b hb o e =>
        let z := I5.pin (b, o) (List.mem_append_right _ (List.mem_append_right _ (mem_pinsAt hb e)))
        ⟨z.1, z.2.1⟩
      have I6 : Inv Y pn [none, some w] H5 s5 := I5.unpinned.weak rfl fun j v e => by
        match j, e with
        | 0, e => cases e
        | 1, e => exact e
        | j + 2, e => cases e
      have done : W (i + 1) H5 → GStF w Y pn tn fp W (i + 1) s5 := fun w5 => ⟨H5, I6, T.keep _ _ _ st3 fun b hb o e => (pin' b hb o e).1, fun b hb => (by
        obtain ⟨o, e, _⟩ := T.obj _ _ st3 b hb
        exact (pin' b hb o e).2), w5⟩
      refine seg_at (seg_yield rfl rfl rfl ⟨b, rfl, fun hb => ?_, fun hb => ?_⟩)
      · rw [if_pos hb] at q5
        exact ⟨i + 1, done q5, fun s' hj => seg_again rfl (ih (i + 1) s' s' (by omega) hj)⟩
      · rw [if_neg (by rw [hb]; exact Bool.false_ne_true)] at q5
        exact ⟨H5, I6, q5⟩
/-- the generator at a, its number g: what it does next -/
def GAtF (w : V) (M : Model) (A : Around) (Y : Cx) (pn : List (Addr × Obj)) (tn : Nat → Heap → Prop) (fp : List Addr) (W : Nat → Hp → Prop) (Q : VK) (g m : Nat) (s : Shared) : Prop :=
  ∃ i gs, GStF w Y pn tn fp W i s ∧ s.gens[g]? = some gs ∧ ∀ s', GStF w Y pn tn fp W i s' → gs.Goes M A (gEndF w Y pn Q) (gProF w Y pn tn fp W Q) m (.send .none) s'
theorem gst_setF {Y : Cx} {i g : Nat} {s : Shared} {gs0 : GenState} (h : GStF w Y pn tn fp W i s) (hy : gs0.bare = true) : GStF w Y pn tn fp W i (s.setGen g gs0) := by
  obtain ⟨H', I, r⟩ := h
  exact ⟨H', inv_setGen I hy, r⟩
theorem fin_setF {Y : Cx} {g : Nat} {s : Shared} {gs0 : GenState} {b : Bool} (h : gFinF w Y pn Q b s) (hy : gs0.bare = true) : gFinF w Y pn Q b (s.setGen g gs0) := by
  obtain ⟨H', I, r⟩ := h
  exact ⟨H', inv_setGen I hy, r⟩
theorem fin_keptF {Y : Cx} {s : Shared} {b : Bool} {h' : Heap} (h : gFinF w Y pn Q b s) (k : ∀ b o, s.heap.get? b = some o → h'.get? b = some o) : gFinF w Y pn Q b { s with heap := h' } := by
  obtain ⟨H', I, r⟩ := h
  exact ⟨H', I.kept (t' := s.toks) k, r⟩
theorem all_runF {Y : Cx} {a : Addr} {g : Nat} {G : Obj} {R : Result → Shared → Prop} (hp : (a, G) ∈ pn) (hG : ∀ h : Heap, h.get? a = some G → h.IsGen a g) (hh : X.A.handled = none) (hd : X.A.depth + 2 < recursionLimit)
    (hR : ∀ b s', gFinF w Y pn Q b s' → R (.ok (.ret (.bool b))) s') :
    ∀ (m : Nat) (s : Shared), GAtF w (model X.prog X.w) X.A.in1.in1 Y pn tn fp W Q g m s → codeAny (model X.prog X.w) X.A (.builtin "all.loop" ⟨[.ref a], []⟩) R s := by
  have turn : ∀ (m : Nat) (s : Shared), GAtF w (model X.prog X.w) X.A.in1.in1 Y pn tn fp W Q g m s →
      (∀ s', (∃ k, m = k + 1 ∧ GAtF w (model X.prog X.w) X.A.in1.in1 Y pn tn fp W Q g k s') → codeAny (model X.prog X.w) X.A (.builtin "all.loop" ⟨[.ref a], []⟩) R s') → codeAny (model X.prog X.w) X.A (.builtin "all.loop" ⟨[.ref a], []⟩) R s := by
    rintro m s ⟨i, gs, st, hgs, goes⟩ next
    obtain ⟨H, I, _⟩ := id st
    have gen : s.heap.IsGen a g := hG _ (I.pin (a, G) (List.mem_append_right _ hp)).1
    have hgl : g + 1 ≤ s.gens.size := (Array.getElem?_eq_some_iff.mp hgs).1
    refine codeAny_builtin (F.entry_all_loop) ?_
    rw [Around.under_plainId (F.plain_all_loop) _]
    show wpAny (model X.prog X.w) X.A.in1 (pyNext (.ref a) >>= _) _ _ s
    refine wpAny_bind (GenW.wpAny_gsz (n := g + 1) hgl (wpAny_pyNext_genexpQ (n := m) (P := fun _ _ s1 => gFinF w Y pn Q true s1) (Y := gProF w Y pn tn fp W Q) hh I.nolimit (by show X.A.depth < recursionLimit; omega) gen hgs (goes _ (gst_setF st rfl)) (fun v s1 gs' hb hv => ?_) (fun s1 hf h' hk => ?_)))
    · intro hgl2
      obtain ⟨b, rfl, yes, no⟩ := hv
      refine wpAny_bind (wpAny_holding (wpAny_truthy_bool ?_))
      refine wpAny_bind (wpAny_letGo ?_)
      cases b with
      | true =>
        obtain ⟨i2, st2, kap⟩ := yes rfl
        simp only [if_true]
        cases m with
        | zero => exact (kap s1 st2).elim
        | succ k => exact wpAny_pure ⟨plainId_quiet (F.plain_all_loop) _, next _ ⟨k, rfl, i2, gs', gst_setF st2 hb, set_at hgl2, fun s' h => kap s' h⟩⟩
      | false =>
        simp only [Bool.false_eq_true, if_false]
        exact wpAny_bind (wpAny_rule (wpAny_pure (hR false _ (fin_setF (no rfl) hb))))
    · intro _
      refine wpAny_bind (wpAny_rule (wpAny_pure ?_))
      exact hR true _ (fin_keptF (fin_setF hf rfl) hk)
  intro m
  induction m with
  | zero => exact fun s h => turn 0 s h fun s' ⟨k, e, _⟩ => (by cases e)
  | succ m ih => exact fun s h => turn (m + 1) s h fun s' ⟨k, e, z⟩ => ih s' (by cases e; exact z)
end
/-- .. in the def: the table of the def's code may have grown ahead of it -/
def tAllF (P : Addr) (j : Nat) (wi : TI) (te : TE) : TE := fun σ H Q => wi σ H fun J H1 => GxR.TabG H1 P ∧ ∃ (w : V) (n : Nat) (W : Nat → Hp → Prop), σ[j]? = some (some w) ∧ (∀ H2, GxR.Tabbed P H1 H2 → W 0 H2) ∧ GTurnF w J te n W Q
theorem gen_denF {w : V} {X : Cx} {elt iter : Expr} {x : Str} {px gp : Pos} {sc : Scope} {it : Addr} {env : Env} {fp : List Addr} {pn : List (Addr × Obj)} {tn : Nat → Heap → Prop} {W : Nat → Hp → Prop} {Q : VK} {Y : Cx} {J : It} {n : Nat} (T : Turn X.prog X.w X.K (.Name x px) J fp it tn)
    (loop : ∀ (s s₀ : Shared), GStF w Y pn tn fp W 0 s → Seg (model X.prog X.w) X.A.in1.in1 (gEndF w Y pn Q) (gProF w Y pn tn fp W Q) n s₀ (.compLoop (.GeneratorExp elt [⟨.Name x px, iter, [], 0⟩] sc gp) 0 (.ref it) .none env)
      ((model X.prog X.w).den (.compLoop (.GeneratorExp elt [⟨.Name x px, iter, [], 0⟩] sc gp) 0 (.ref it) .none env)) [] s) (s s₀ : Shared) (st : GStF w Y pn tn fp W 0 s) :
    Seg (model X.prog X.w) X.A.in1.in1 (gEndF w Y pn Q) (gProF w Y pn tn fp W Q) n s₀ (.compStart (.GeneratorExp elt [⟨.Name x px, iter, [], 0⟩] sc gp) 0 (.ref it) .none env)
      ((model X.prog X.w).den (.compStart (.GeneratorExp elt [⟨.Name x px, iter, [], 0⟩] sc gp) 0 (.ref it) .none env)) [] s := by
  have go := loop s s₀ st
  obtain ⟨H', I, st0, _⟩ := id st
  show Seg _ _ _ _ _ s₀ _ ((compStart _ 0 (.ref it) .none env).onRaise (leaving env)) [] s
  unfold compStart
  rw [Sem.onRaise_eq_wrap]
  show Seg _ _ _ _ _ s₀ _ ((ask >>= _).wrap _ _ _ _) [] s
  refine seg_bind_wrap (wpAny_askSetting ?_)
  split
  · exact seg_again rfl go
  · refine seg_bind_wrap (wpAny_rule ?_)
    show Seg _ _ _ _ _ s₀ _ ((standAt iter.pos >>= _).wrap _ _ _ _) [] s
    refine seg_bind_wrap (wpAny_standAt (seg_bind_wrap ?_))
    exact T.self _ 0 s _ _ st0 (seg_again rfl go)
theorem pe_allF {X : Cx} {c P : Addr} {elt iter : Expr} {x y : Str} {jy : Nat} {px p pos gp : Pos} {scope : Scope} {wi : TI} {te : TE} {k : Nat}
    (hr : Room k X.A) (hg : Gl X "all") (hm : X.mg "all" = none) (hb : bootBuiltins "all" = some (.builtin "all")) (TB : GxR.TabB X.base X.mg c P) (hcode : X.env.code = .ref c) (S : GnF scope x y) (hN : X.N[jy]? = some y) (hky : X.env.kindOf y = some .cell) (hi : PI X (.Name x px) iter wi)
    (hel : ∀ (it cy C : Addr) (s : Shared) (H : Hp) (code : Value) (fp : List Addr), PE (gCxF X (.GeneratorExp elt [⟨.Name x px, iter, [], 0⟩] scope gp) it x y s H (gEnvF X scope y cy C code) fp) elt te)
    (hs : ∀ v, genFold iter X.env v = pure v)
    (he : starEach [.GeneratorExp elt [⟨.Name x px, iter, [], 0⟩] scope gp] X.env = (false, eval (.GeneratorExp elt [⟨.Name x px, iter, [], 0⟩] scope gp) X.env) :: starEach [] X.env := by rfl) :
    PE X (.Call (.Name "all" p) [.GeneratorExp elt [⟨.Name x px, iter, [], 0⟩] scope gp] [] pos) (tAllF P jy wi te) := by
  have dep := hr.dp
  refine ⟨fun pins s σ H Q I h => ?_⟩
  refine wpAny_Call_Name_kw (ld_blt I hg hm hb ?_)
  refine PyProof.Rows.callWith_builtin1 ?_ he (by rfl)
  rw [he]
  obtain ⟨cy, hcy⟩ := I.ok.has y (.inl hky)
  refine Calls.spliced_cons (wpAny_GeneratorExp_make (cl := [(y, cy)]) S.co ?_ S.cell S.dot S.kind (by omega) ?_ hs)
  · rw [closure_ok (fun z hz e => by rw [S.free z hz e]; exact ⟨cy, hcy⟩), S.clo, hcy] <;> rfl
  refine thn (hi.run pins s σ H _ I h) fun xv s1 hx => thn hx fun itv s2 ⟨it, fp, tn, J, H2, e, I2, T, st2, f2, TG, w, n, W, hw0, w0, turn⟩ => ⟨I2.nolimit, ?_⟩
  subst e
  obtain ⟨ps, hP, ht⟩ := TG
  have hPs : s2.heap.get? P = some { cls := .none, data := .fields ps } := I2.hok P _ hP
  have cd : PySem.W.CodeHd s2.heap c P := TB.code.keeps I2.bk
  have fpP : ∀ b ∈ fp, b ≠ P := fun b hb z => by
    have q := (f2 b hb).1
    rw [z, hP] at q
    cases q
  have cont : ∀ (code : Value) (h3 : Heap) (tk : Nat) (ps' : Array Value), Heap.ExtBut P s2.heap h3 → s2.heap.objs.size ≤ h3.objs.size → h3.get? P = some { cls := .none, data := .fields ps' } → (∃ more, ps' = ps ++ more) → TriplesOk ps'.toList →
      wpAny (model X.prog X.w) X.A (builtinsFor X.env.globals X.env.builtins) (fun bi s₄ => ∀ h', h'.Ns s₄.heap.objs.size (fun y => if y = ".0" then some (.ref it) else none) →
        Heap.SameBut s₄.heap.objs.size (s₄.heap.push { cls := .type "frame", data := .dict #[] }) h' → wpAny (model X.prog X.w) X.A (spliced (backTo pos (starEach [] X.env))) (fun us s' => wpAny (model X.prog X.w) X.A (call (.builtin "all") (.ref h'.objs.size :: us)) (EP X pins σ Q) X.xe s') X.xe
          { s₄ with gens := s₄.gens.push (.fresh (.compStart (.GeneratorExp elt [⟨.Name x px, iter, [], 0⟩] scope gp) 0 (.ref it) .none (genEnv scope [(y, cy)] s₄.heap.objs.size code bi X.env))), toks := s₄.toks + 1 + 1 + 1,
                    heap := h'.push { cls := .type "generator", data := .fields #[.int s₄.gens.size 0, .str "<genexpr>" (s₄.toks + 1), .str (X.env.qual ++ "<genexpr>") (s₄.toks + 1 + 1)] } }) X.xe { s2 with heap := h3, toks := tk } := by
    intro code h3 tk ps' hx hsz hP3 hmore ht3
    obtain ⟨bm, ob, e1, e2, e3, e4, e5, e6, e7, e8⟩ := TB.bm
    have keep3 : ∀ b u, b ≠ P → s2.heap.get? b = some u → h3.get? b = some u := fun b u hb e => hx b u hb e
    refine wpAny_builtinsFor (m := X.mg) (by rw [I2.ok.glob]; exact (I2.mod.glob.keeps I2.bk).extBut hx TB.gP) e1 e2 (keep3 _ _ e4 (I2.bk _ _ e5)) e6 e7 e8 ?_
    obtain ⟨more, em⟩ := hmore
    have I4 := GxR.inv_tab (more := more) (h' := h3) (g' := s2.gens) (d' := s2.drawn) (t' := tk) I2 hP (fun b u hb e => keep3 b u hb e) (by rw [← em]; exact hP3) I2.bare
    generalize hs4 : ({ s2 with heap := h3, toks := tk } : Shared) = s4 at I4 ⊢
    have h4 : s4.heap = h3 := by rw [← hs4]
    have tabbed : GxR.Tabbed P H2 (upd H2 P (.tbl (ps ++ more))) := ⟨⟨_, upd_same, by rw [← em]; exact ht3⟩, fun b hb => upd_ne hb⟩
    generalize upd H2 P (.tbl (ps ++ more)) = H4 at I4 tabbed
    have lt4 : ∀ b ∈ fp, b < s4.heap.objs.size := fun b hb => by
      obtain ⟨o, e, _⟩ := T.obj _ _ st2 b hb
      have z := Heap.lt_size e
      rw [h4]
      exact Nat.lt_of_lt_of_le z hsz
    have f4 : ∀ b ∈ fp, FpOk X pins H4 b ∧ b < s4.heap.objs.size := fun b hb => ⟨⟨(tabbed.2 b (fpP b hb)).trans (f2 b hb).1, (f2 b hb).2⟩, lt4 b hb⟩
    intro h' hn' hs'
    have sz' : h'.objs.size = s4.heap.objs.size + 1 := by rw [hs'.1, Heap.size_push]
    have kp : ∀ b o, s4.heap.get? b = some o → h'.get? b = some o := fun b o e => hs'.extBut b o (Nat.ne_of_lt (Heap.lt_size e)) (Heap.get?_push_of_some _ e)
    generalize hG : ({ cls := .type "generator", data := .fields #[.int s4.gens.size 0, .str "<genexpr>" (s4.toks + 1), .str (X.env.qual ++ "<genexpr>") (s4.toks + 1 + 1)] } : Obj) = G
    have hw4 : ∃ u, RelV w u ∧ s4.heap.IsCell cy (some u) := by
      obtain ⟨m, _, lk⟩ := I4.loc
      obtain ⟨u, ru, k⟩ := lk jy y w hN hw0 (.inr (.inl hky))
      rcases k with ⟨k, _⟩ | ⟨_, c', e', hc'⟩
      · rw [hky] at k
        cases k
      · rw [hcy] at e'
        cases e'
        exact ⟨u, ru, hc'⟩
    have IG := gen_invF (elt := elt) (cs := [⟨.Name x px, iter, [], 0⟩]) (sc := scope) (gp := gp) (it := it) (code := code) (G := G) (g' := s4.gens.push (.fresh (.compStart (.GeneratorExp elt [⟨.Name x px, iter, [], 0⟩] scope gp) 0 (.ref it) .none (gEnvF X scope y cy s4.heap.objs.size code)))) (tk := s4.toks + 1 + 1 + 1)
      I4 S hcy hw4 hr.hd f4 hn' sz' kp (I4.bare.push rfl) (fun v z => by rw [← hG] at z; cases z) (by rw [← hG] <;> rfl)
    have st5 : tn 0 (h'.push G) := T.keep _ _ _ st2 fun b hb o e => Heap.get?_push_of_some _ (kp b o (by rw [h4]; exact keep3 b o (fpP b hb) e))
    refine Calls.spliced_nil ?_
    have isG : ∀ hp : Heap, hp.get? h'.objs.size = some G → hp.IsGen h'.objs.size s4.gens.size := fun hp e => ⟨G, _, _, e, by rw [← hG], by rw [← hG], by rw [← hG]⟩
    have hpn : ∀ b ∈ fp, ∀ p ∈ [(h'.objs.size, G)], p.1 ≠ b := fun b hb p hp z => by
      obtain rfl := List.mem_singleton.mp hp
      have q : b < s4.heap.objs.size := lt4 b hb
      have z2 : h'.objs.size = b := z
      rw [← z2, sz'] at q
      exact Nat.lt_irrefl _ (Nat.lt_of_succ_lt q)
    have loop := gen_segF (elt := elt) (iter := iter) (px := px) (gp := gp) (sc := scope) (Q := Q) (tn := tn) (n := n) rfl S.co T (pg_name (X := gCxF X (.GeneratorExp elt [⟨.Name x px, iter, [], 0⟩] scope gp) it x y s4 H4 (gEnvF X scope y cy s4.heap.objs.size code) fp) (List.nodup_cons.mpr ⟨fun z => S.ne (List.mem_singleton.mp z), List.nodup_cons.mpr ⟨List.not_mem_nil, List.nodup_nil⟩⟩) rfl (.inl S.loc) (.inr S.loc))
      (hel it cy s4.heap.objs.size s4 H4 code fp) turn hpn
    refine call_function_tree (F.kind_all) (F.plain_all) (F.entry_all) (F.args_all1 _) ?_
    unfold Builtin.«all»
    refine wpAny_bind (m := oneArg "all" _) (wpAny_pure ?_)
    refine wpAny_bind (wpAny_pyIter_gen (isG _ (IG.pin (h'.objs.size, G) (List.mem_singleton.mpr rfl)).1) ?_)
    refine wpAny_pure ⟨plainId_quiet (F.plain_all_loop) _, all_runF (pn := [(h'.objs.size, G)]) (tn := tn) (fp := fp) (W := W) (Q := Q) (List.mem_singleton.mpr rfl) isG hr.hd (by omega) (fun b s' hf => ?_) n _ ⟨0, _, ⟨H4, IG, st5, fun b hb => (f4 b hb).1.1, w0 H4 tabbed⟩, Array.getElem?_push_size .., fun s' hst => ⟨rfl, gen_denF T (fun s s₀ q => loop n 0 s s₀ (Nat.sub_zero n) q) s' s' hst⟩⟩⟩
    obtain ⟨H', IY, q⟩ := hf
    have J := I4.call' (ch := fp) IY.os IY.base IY.hok IY.bare fun b hb => ⟨(f4 b hb).1.2.2.2.1, (f4 b hb).1.2.1, (f4 b hb).1.2.2.2.2.1, (f4 b hb).1.2.2.2.2.2⟩
    exact ⟨.bl b, H', J, rfl, q⟩
  cases hf : codeAmong gp ps.toList with
  | none =>
    refine wpAny_genexprCodeX hcode (cd.code hPs ht) (cd.tab hPs) hf fun c' h' tk hx hge hlt hco' _ htab' _ => ?_
    obtain ⟨o1, vs, f1, tf, fl, tg, inF, tx, tt, op, _, _, _, _, _, _, _, _, _, htr, _⟩ := hco'
    exact cont _ h' tk _ hx (Nat.le_trans hge (Nat.le_of_lt hlt)) htab'.2 ⟨_, rfl⟩ htr
  | some cv =>
    refine wpAny_genexprCode_hit hcode (cd.code hPs ht) hf ?_
    exact cont cv s2.heap s2.toks ps (Heap.ExtBut.refl _ _) (Nat.le_refl _) hPs ⟨#[], by simp⟩ ht
end KR
/-! ### fractions as numbers of the field -/
namespace KR
open PySem PySem.Spec PyProof.Rows L2
theorem Same.tup {K : PySem.W.Frag} {H H' : Hp} {a : Addr} {xs : List V} (e : Same H H') (h : SqT K H a xs) : SqT K H' a xs :=
  h.elim (fun h => .inl (h.elim (fun h => .inl (e _ _ h)) fun ⟨o, h⟩ => .inr ⟨o, e _ _ h⟩)) fun h => .inr h
theorem sqT_ty {K : PySem.W.Frag} {H : Hp} {a : Addr} {xs : List V} (h : SqT K H a xs) : TyX K H (.ref a) (.type "tuple") := by
  rcases h with (h | ⟨o, h⟩) | ⟨o, its, n, h1, h2, _⟩
  · exact .base (.tup h)
  · exact .fTuple h
  · exact .kTuple h1 h2
theorem sqT_frL {K : PySem.W.Frag} {H H' : Hp} {a p : Addr} {xs ys : List V} (h : SqT K H a xs) (hp : H p = some (.lst ys)) (f : Fr p H H') : SqT K H' a xs := by
  rcases h with (h | ⟨o, h⟩) | h
  · exact .inl (.inl (f _ _ (ne_of h hp (by intro z; cases z)) h))
  · exact .inl (.inr ⟨o, f _ _ (ne_of h hp (by intro z; cases z)) h⟩)
  · exact .inr h
theorem sqT_fr {K : PySem.W.Frag} {H H' : Hp} {a p : Addr} {n : Nat} {xs : List V} (h : SqT K H a xs) (B : BoxAt H p n) (f : Fr p H H') : SqT K H' a xs := by
  obtain ⟨i, j, k, hp, _⟩ := B
  exact sqT_frL h hp f
theorem fr_upd {p : Addr} {H : Hp} {o : HO} : Fr p H (upd H p o) := Fr.put Fr.refl
theorem BoxAt.upd {H : Hp} {p D : Addr} {n : Nat} {o : HO} (h : BoxAt H p n) (ne : D ≠ p) : BoxAt (L2.upd H D o) p n := by
  obtain ⟨a, b, c, h1, h2⟩ := h
  exact ⟨a, b, c, by rw [upd_ne ne.symm]; exact h1, h2⟩
def rq (t b : Int) : Rat := (t : Rat) / (b : Rat)
theorem rat_nd (q : Rat) : (q.num : Rat) / ((q.den : Int) : Rat) = q := by rw [← Rat.divInt_eq_div, Rat.num_divInt_den]
theorem den_ne (q : Rat) : ((q.den : Int) : Rat) ≠ 0 := by
  intro h
  have k := q.den_pos
  have h2 : ((q.den : Int) : Rat) = ((0 : Int) : Rat) := h
  have e := Rat.intCast_inj.mp h2
  omega
theorem den_ne' (q : Rat) : (q.den : Int) ≠ 0 := by
  have k := q.den_pos
  omega
theorem int_ne {b : Int} (h : b ≠ 0) : (b : Rat) ≠ 0 := fun z => h (Rat.intCast_inj.mp (z.trans (by rfl : (0 : Rat) = ((0 : Int) : Rat))))
theorem rat_low (q : Rat) : IsLow q.num q.den := ⟨by have k := q.den_pos; omega, by rw [Int.natAbs_natCast]; exact q.reduced⟩
theorem rq_cross {t b : Int} (hb : b ≠ 0) : t * ((rq t b).den : Int) = (rq t b).num * b := by
  have e := rat_nd (rq t b)
  have h1 := den_ne (rq t b)
  have h2 := int_ne hb
  refine Rat.intCast_inj.mp ?_
  rw [Rat.intCast_mul, Rat.intCast_mul]
  generalize ((rq t b).den : Int) = d at *
  generalize (rq t b).num = n at *
  unfold rq at e
  grind
theorem rq_low {t b : Int} (hb : b ≠ 0) : low t b = ((rq t b).num, ((rq t b).den : Int)) := low_eq hb (rat_low _) (rq_cross hb)
theorem cast_pos {b : Int} (h : 0 < b) : (0 : Rat) < (b : Rat) := (Rat.intCast_lt_intCast (a := 0)).mpr h
theorem cast_nn {b : Int} (h : 0 ≤ b) : (0 : Rat) ≤ (b : Rat) := (Rat.intCast_le_intCast (a := 0)).mpr h
theorem le_div {a b c : Rat} (h : 0 < c) (k : a * c ≤ b) : a ≤ b / c := Rat.not_lt.mp fun z => absurd ((Rat.div_lt_iff h).mp z) (Rat.not_lt.mpr k)
theorem div_le {a b c : Rat} (h : 0 < c) (k : b ≤ a * c) : b / c ≤ a := Rat.not_lt.mp fun z => absurd ((Rat.lt_div_iff h).mp z) (Rat.not_lt.mpr k)
theorem rq_nn {t b : Int} (ht : 0 ≤ t) (hb : 0 < b) : 0 ≤ rq t b := by
  have h1 := cast_nn ht
  have h2 := cast_pos hb
  unfold rq
  generalize (t : Rat) = x at *
  generalize (b : Rat) = y at *
  exact le_div h2 (by grind)
theorem rq_pos {t b : Int} (ht : 0 < t) (hb : 0 < b) : 0 < rq t b := by
  have h1 := cast_pos ht
  have h2 := cast_pos hb
  unfold rq
  generalize (t : Rat) = x at *
  generalize (b : Rat) = y at *
  exact (Rat.lt_div_iff h2).mpr (by grind)
theorem rq_lt_one {t b : Int} (ht : t < b) (hb : 0 < b) : rq t b < 1 := by
  have h1 := Rat.intCast_lt_intCast.mpr ht
  have h2 := cast_pos hb
  unfold rq
  generalize (t : Rat) = x at *
  generalize (b : Rat) = y at *
  exact (Rat.div_lt_iff h2).mpr (by grind)
theorem rq_le_one {t b : Int} (ht : t ≤ b) (hb : 0 < b) : rq t b ≤ 1 := by
  have h1 := Rat.intCast_le_intCast.mpr ht
  have h2 := cast_pos hb
  unfold rq
  generalize (t : Rat) = x at *
  generalize (b : Rat) = y at *
  exact div_le h2 (by grind)
theorem rq_add (p q : Rat) : rq (p.num * q.den + q.num * p.den) (p.den * q.den) = p + q := by
  have e1 := rat_nd p
  have e2 := rat_nd q
  have h1 := den_ne p
  have h2 := den_ne q
  unfold rq
  rw [Rat.intCast_add, Rat.intCast_mul, Rat.intCast_mul, Rat.intCast_mul]
  generalize ((p.den : Int) : Rat) = d at *
  generalize (p.num : Rat) = n at *
  generalize ((q.den : Int) : Rat) = d2 at *
  generalize (q.num : Rat) = n2 at *
  grind
theorem rq_sub (p q : Rat) : rq (p.num * q.den - q.num * p.den) (p.den * q.den) = p - q := by
  have e1 := rat_nd p
  have e2 := rat_nd q
  have h1 := den_ne p
  have h2 := den_ne q
  unfold rq
  rw [Rat.intCast_sub, Rat.intCast_mul, Rat.intCast_mul, Rat.intCast_mul]
  generalize ((p.den : Int) : Rat) = d at *
  generalize (p.num : Rat) = n at *
  generalize ((q.den : Int) : Rat) = d2 at *
  generalize (q.num : Rat) = n2 at *
  grind
theorem rq_mul (p q : Rat) : rq (p.num * q.num) (p.den * q.den) = p * q := by
  have e1 := rat_nd p
  have e2 := rat_nd q
  have h1 := den_ne p
  have h2 := den_ne q
  unfold rq
  rw [Rat.intCast_mul, Rat.intCast_mul]
  generalize ((p.den : Int) : Rat) = d at *
  generalize (p.num : Rat) = n at *
  generalize ((q.den : Int) : Rat) = d2 at *
  generalize (q.num : Rat) = n2 at *
  grind
theorem rq_div (p q : Rat) : rq (p.num * q.den) (p.den * q.num) = p / q := by
  have e1 := rat_nd p
  have e2 := rat_nd q
  have h1 := den_ne p
  have h2 := den_ne q
  unfold rq
  rw [Rat.intCast_mul, Rat.intCast_mul]
  generalize ((p.den : Int) : Rat) = d at *
  generalize (p.num : Rat) = n at *
  generalize ((q.den : Int) : Rat) = d2 at *
  generalize (q.num : Rat) = n2 at *
  grind
theorem rq_self (q : Rat) : rq q.num q.den = q := rat_nd q
theorem num_ne {q : Rat} (h : q ≠ 0) : q.num ≠ 0 := fun z => h (by
  have e := rat_nd q
  rw [z] at e
  rw [← e]
  grind)
theorem num_zero {q : Rat} : q.num = 0 ↔ q = 0 := ⟨fun z => Classical.byContradiction fun y => num_ne y z, fun z => by rw [z] <;> rfl⟩
theorem num_pos {q : Rat} : 0 < q.num ↔ 0 < q := by
  have k := Rat.lt_iff 0 q
  simp at k
  exact k.symm
theorem num_nn {q : Rat} : 0 ≤ q.num ↔ 0 ≤ q := Rat.num_nonneg
theorem lt_cross (p q : Rat) : (p.num * q.den < q.num * p.den) ↔ p < q := (Rat.lt_iff p q).symm
/-- top and bottom fit so many bits -/
def Sz (n : Nat) (q : Rat) : Prop := q.num.natAbs < 2 ^ n ∧ (q.den : Int).natAbs < 2 ^ n
theorem Sz.up {n m : Nat} {q : Rat} (h : Sz n q) (le : n ≤ m) : Sz m q := ⟨lt_up h.1 le, lt_up h.2 le⟩
theorem sz_rq {t b : Int} {n : Nat} (hb : b ≠ 0) (h1 : t.natAbs < 2 ^ n) (h2 : b.natAbs < 2 ^ n) : Sz n (rq t b) := by
  have k := low_lt h1 h2
  rw [rq_low hb] at k
  exact k
theorem Sz.int {z : Int} {n : Nat} (h : z.natAbs < 2 ^ n) (h0 : 0 < n) : Sz n (z : Rat) := ⟨h, Nat.lt_of_lt_of_le (by decide : (1 : Nat) < 2 ^ 1) (Nat.pow_le_pow_right (by decide) h0)⟩
theorem Sz.neg {n : Nat} {q : Rat} (h : Sz n q) : Sz n (-q) := ⟨by
  show (-q.num).natAbs < 2 ^ n
  rw [Int.natAbs_neg]
  exact h.1, h.2⟩
/-- a fraction that is read -/
def FrQ (K : PySem.W.Frag) (H : Hp) (x : Addr) (q : Rat) : Prop := SqT K H x [.int q.num, .int (q.den : Int)]
theorem FrQ.same {K : PySem.W.Frag} {H H' : Hp} {x : Addr} {q : Rat} (h : FrQ K H x q) (s : Same H H') : FrQ K H' x q := Same.tup s h
theorem FrQ.fr {K : PySem.W.Frag} {H H' : Hp} {x p : Addr} {n : Nat} {q : Rat} (h : FrQ K H x q) (B : BoxAt H p n) (f : Fr p H H') : FrQ K H' x q := sqT_fr h B f
theorem FrQ.of {K : PySem.W.Frag} {H : Hp} {x : Addr} {q : Rat} (h : H x = some (.tup [.int q.num, .int (q.den : Int)])) : FrQ K H x q := SqT.of h
theorem FrQ.int {K : PySem.W.Frag} {H : Hp} {x : Addr} {z : Int} (h : H x = some (.tup [.int z, .int 1])) : FrQ K H x (z : Rat) := SqT.of h
/-- a juice that is read -/
def JuQ (K : PySem.W.Frag) (H : Hp) (x : Addr) (s w : Rat) : Prop := ∃ a b, SqT K H x [.ref a, .ref b] ∧ FrQ K H a s ∧ FrQ K H b w
theorem JuQ.same {K : PySem.W.Frag} {H H' : Hp} {x : Addr} {s w : Rat} (h : JuQ K H x s w) (e : Same H H') : JuQ K H' x s w := by
  obtain ⟨a, b, h1, h2, h3⟩ := h
  exact ⟨a, b, Same.tup e h1, h2.same e, h3.same e⟩
theorem JuQ.fr {K : PySem.W.Frag} {H H' : Hp} {x p : Addr} {n : Nat} {s w : Rat} (h : JuQ K H x s w) (B : BoxAt H p n) (f : Fr p H H') : JuQ K H' x s w := by
  obtain ⟨a, b, h1, h2, h3⟩ := h
  exact ⟨a, b, sqT_fr h1 B f, h2.fr B f, h3.fr B f⟩
theorem JuQ.new {K : PySem.W.Frag} {H : Hp} {x a b : Addr} {s w : Rat} (h : H x = some (.tup [.ref a, .ref b])) (ha : FrQ K H a s) (hb : FrQ K H b w) : JuQ K H x s w := ⟨a, b, SqT.of h, ha, hb⟩
/-- a new pair of two numbers' lowest terms -/
def sp_lowQ (K : PySem.W.Frag) : Sp := fun vs H Q _ => ∃ (t b : Int) (n : Nat), vs = [.int t, .int b] ∧ b ≠ 0 ∧ t.natAbs < 2 ^ n ∧ b.natAbs < 2 ^ n ∧ n ≤ 2000 ∧ ∀ p H', Same H H' → H p = none → FrQ K H' p (rq t b) → Sz n (rq t b) → Q (.ref p) H'
theorem lowQ {K : PySem.W.Frag} {vs : List V} {H : Hp} {Q : VK} {E : XK} (h : sp_lowQ K vs H Q E) : sp_low vs H Q E := by
  obtain ⟨t, b, n, e, hb, h1, h2, hn, q⟩ := h
  refine ⟨t, b, e, hb, lt_up h1 hn, lt_up h2 hn, fun p H' s hp h' => q p H' s hp ?_ (sz_rq hb h1 h2)⟩
  rw [rq_low hb] at h'
  exact .of h'
/-- two fractions in, one out -/
def sp_q2 (K : PySem.W.Frag) (f : Rat → Rat → Rat) (ok : Rat → Rat → Prop) : Sp := fun vs H Q _ => ∃ (x y : Addr) (p q : Rat) (m n : Nat), vs = [.ref x, .ref y] ∧ FrQ K H x p ∧ FrQ K H y q ∧ Sz m p ∧ Sz n q ∧ m + n ≤ 1900 ∧ ok p q ∧
  ∀ z H', Same H H' → H z = none → FrQ K H' z (f p q) → Sz (m + n + 1) (f p q) → Q (.ref z) H'
def sp_less (K : PySem.W.Frag) : Sp := fun vs H Q _ => ∃ (x y : Addr) (p q : Rat), vs = [.ref x, .ref y] ∧ FrQ K H x p ∧ FrQ K H y q ∧ Sz 1900 p ∧ Sz 1900 q ∧ Q (.bl (decide (p < q))) H
theorem mulZ {i j : Int} {a b : Nat} (ha : i.natAbs < 2 ^ a) (hb : j.natAbs < 2 ^ b) (h : a + b ≤ 100000) : IntMulOk i j :=
  mulW (lt_up ha (by omega : a ≤ a + 1)) (lt_up hb (by omega : b ≤ b + 1)) (by omega) (by omega) (by omega)
/-! data of the law's own making, tuples of the written part among them -/
inductive Dk (K : PySem.W.Frag) (H : Hp) : Nat → V → PyData → Prop
  | non (n : Nat) : Dk K H (n + 1) .non .none
  | bl (n : Nat) (b : Bool) : Dk K H (n + 1) (.bl b) (.bool b)
  | int (n : Nat) (i : Int) : Dk K H (n + 1) (.int i) (.int i)
  | str (n : Nat) (x : Str) (ok : PyData.canLay0 (.str x) = true) : Dk K H (n + 1) (.str x) (.str x)
  | lst {n : Nat} {a : Addr} {xs : List V} {ds : List PyData} : H a = some (.lst xs) → xs.length = ds.length → xs.length ≤ 100000 → (∀ (i : Nat) (x : V) (d : PyData), xs[i]? = some x → ds[i]? = some d → Dk K H n x d) → Dk K H (n + 1) (.ref a) (.list ds)
  | tup {n : Nat} {a : Addr} {xs : List V} {ds : List PyData} : SqT K H a xs → xs.length = ds.length → xs.length ≤ 100000 → (∀ (i : Nat) (x : V) (d : PyData), xs[i]? = some x → ds[i]? = some d → Dk K H n x d) → Dk K H (n + 1) (.ref a) (.tuple ds)
theorem Dk.same {K : PySem.W.Frag} {H H' : Hp} (s : Same H H') : ∀ {n : Nat} {v : V} {d : PyData}, Dk K H n v d → Dk K H' n v d := by
  intro n v d h
  induction h with
  | non n => exact .non n
  | bl n b => exact .bl n b
  | int n i => exact .int n i
  | str n x ok => exact .str n x ok
  | lst h1 h2 h3 _ ih => exact .lst (s _ _ h1) h2 h3 ih
  | tup h1 h2 h3 _ ih => exact .tup (Same.tup s h1) h2 h3 ih
theorem Dk.up {K : PySem.W.Frag} {H : Hp} {n m : Nat} {v : V} {d : PyData} (h : Dk K H n v d) : n ≤ m → Dk K H m v d := by
  intro le
  induction h generalizing m with
  | non n => obtain ⟨k, rfl⟩ : ∃ k, m = k + 1 := ⟨m - 1, by omega⟩; exact .non k
  | bl n b => obtain ⟨k, rfl⟩ : ∃ k, m = k + 1 := ⟨m - 1, by omega⟩; exact .bl k b
  | int n i => obtain ⟨k, rfl⟩ : ∃ k, m = k + 1 := ⟨m - 1, by omega⟩; exact .int k i
  | str n x ok => obtain ⟨k, rfl⟩ : ∃ k, m = k + 1 := ⟨m - 1, by omega⟩; exact .str k x ok
  | lst h1 h2 h3 _ ih => obtain ⟨k, rfl⟩ : ∃ k, m = k + 1 := ⟨m - 1, by omega⟩; exact .lst h1 h2 h3 fun i x d a b => ih i x d a b (by omega)
  | tup h1 h2 h3 _ ih => obtain ⟨k, rfl⟩ : ∃ k, m = k + 1 := ⟨m - 1, by omega⟩; exact .tup h1 h2 h3 fun i x d a b => ih i x d a b (by omega)
/-- rows of data beside their values -/
def DkAll (K : PySem.W.Frag) (H : Hp) (n : Nat) (xs : List V) (ds : List PyData) : Prop := xs.length = ds.length ∧ ∀ (i : Nat) (x : V) (d : PyData), xs[i]? = some x → ds[i]? = some d → Dk K H n x d
theorem DkAll.nil {K : PySem.W.Frag} {H : Hp} {n : Nat} : DkAll K H n [] [] := ⟨rfl, fun i x d h => by simp at h⟩
theorem DkAll.cons {K : PySem.W.Frag} {H : Hp} {n : Nat} {x : V} {d : PyData} {xs : List V} {ds : List PyData} (h : Dk K H n x d) (t : DkAll K H n xs ds) : DkAll K H n (x :: xs) (d :: ds) :=
  ⟨by rw [List.length_cons, List.length_cons, t.1], fun i u v hu hv => match i, hu, hv with
    | 0, hu, hv => by cases hu; cases hv; exact h
    | i + 1, hu, hv => t.2 i u v hu hv⟩
theorem DkAll.tup {K : PySem.W.Frag} {H : Hp} {n : Nat} {xs : List V} {ds : List PyData} {a : Addr} (t : DkAll K H n xs ds) (h : SqT K H a xs) (z : Nat.ble xs.length 100000 = true := by rfl) : Dk K H (n + 1) (.ref a) (.tuple ds) := .tup h t.1 (Nat.le_of_ble_eq_true z) t.2
theorem DkAll.lst {K : PySem.W.Frag} {H : Hp} {n : Nat} {xs : List V} {ds : List PyData} {a : Addr} (t : DkAll K H n xs ds) (h : H a = some (.lst xs)) (z : Nat.ble xs.length 100000 = true := by rfl) : Dk K H (n + 1) (.ref a) (.list ds) := .lst h t.1 (Nat.le_of_ble_eq_true z) t.2
/-- the data of a fraction, of a juice -/
def dq (q : Rat) : PyData := .tuple [.int q.num, .int (q.den : Int)]
def dj (s w : Rat) : PyData := .tuple [dq s, dq w]
theorem FrQ.dk {K : PySem.W.Frag} {H : Hp} {x : Addr} {q : Rat} (h : FrQ K H x q) (n : Nat := 0) : Dk K H (n + 2) (.ref x) (dq q) := DkAll.tup (.cons (.int _ _) (.cons (.int _ _) .nil)) h
theorem JuQ.dk {K : PySem.W.Frag} {H : Hp} {x : Addr} {s w : Rat} (h : JuQ K H x s w) (n : Nat := 0) : Dk K H (n + 3) (.ref x) (dj s w) := by
  obtain ⟨a, b, h1, h2, h3⟩ := h
  exact DkAll.tup (.cons (h2.dk n) (.cons (h3.dk n) .nil)) h1
/-- forty figures -/
theorem b133 {n : Nat} (h : n < 10 ^ 40) : n < 2 ^ 133 := Nat.lt_trans h (by decide)
/-- a fraction or None -/
def OQ (K : PySem.W.Frag) (H : Hp) (v : V) : Option Rat → Prop
  | none => v = .non
  | some q => ∃ x, v = .ref x ∧ FrQ K H x q
theorem OQ.same {K : PySem.W.Frag} {H H' : Hp} {v : V} {o : Option Rat} (h : OQ K H v o) (e : Same H H') : OQ K H' v o := by
  cases o with
  | none => exact h
  | some q =>
    obtain ⟨x, e1, h1⟩ := h
    exact ⟨x, e1, h1.same e⟩
def oq : Option Rat → PyData
  | none => .none
  | some q => dq q
theorem OQ.dk {K : PySem.W.Frag} {H : Hp} {v : V} {o : Option Rat} (h : OQ K H v o) (n : Nat := 0) : Dk K H (n + 2) v (oq o) := by
  cases o with
  | none => rw [show v = .non from h]; exact .non _
  | some q =>
    obtain ⟨x, e1, h1⟩ := h
    rw [e1]
    exact h1.dk n
/-- the strength of a juice -/
def stren (s w : Rat) : Option Rat := if s + w = 0 then none else some (s / (s + w))
theorem stren_part {s w t : Rat} (h : t ≠ 0) : stren (s * t) (w * t) = stren s w := by
  unfold stren
  by_cases c : s + w = 0
  · rw [if_pos c, if_pos (by grind)]
  · rw [if_neg c, if_neg (by grind)]
    congr 1
    grind
theorem stren_more {s w t : Rat} (h : 0 ≤ t) : stren (s + s * t) (w + w * t) = stren s w := by
  have e1 : s + s * t = s * (1 + t) := by grind
  have e2 : w + w * t = w * (1 + t) := by grind
  rw [e1, e2]
  exact stren_part (by grind)
theorem strength_between {s w x y : Rat} (hs : 0 ≤ s) (hw : 0 ≤ w) (hx : 0 ≤ x) (hy : 0 ≤ y) (h1 : s + w ≠ 0) (h2 : x + y ≠ 0) (le : s / (s + w) ≤ x / (x + y)) :
    s / (s + w) ≤ (s + x) / (s + x + (w + y)) ∧ (s + x) / (s + x + (w + y)) ≤ x / (x + y) := by
  have p1 : 0 < s + w := by grind
  have p2 : 0 < x + y := by grind
  have p3 : 0 < s + x + (w + y) := by grind
  generalize ea : s / (s + w) = a at *
  generalize eb : x / (x + y) = b at *
  have sa : s = a * (s + w) := by grind
  have xb : x = b * (x + y) := by grind
  have d : 0 ≤ b - a := by grind
  constructor
  · refine le_div p3 ?_
    have k := Rat.mul_nonneg d (Rat.le_of_lt p2)
    grind
  · refine div_le p3 ?_
    have k := Rat.mul_nonneg d (Rat.le_of_lt p1)
    grind
theorem is_zero {q : Rat} : decide (q.num = 0 ∧ (q.den : Int) = 1) = decide (q = 0) := by
  rw [decide_eq_decide]
  constructor
  · rintro ⟨h, _⟩
    exact num_zero.mp h
  · rintro rfl
    exact ⟨rfl, rfl⟩
/-- boiling -/
def wat (s u : Rat) : Rat := s / u - s
def boil (s w : Rat) (f : Int) (u h : Rat) : Rat := if wat s u < w then (if w - f * h < wat s u then wat s u else w - f * h) else w
theorem rq_wat (s u : Rat) (hu : u ≠ 0) : rq (s.num * ((u.den : Int) - u.num)) (s.den * u.num) = wat s u := by
  have e1 := rat_nd s
  have e2 := rat_nd u
  have h1 := den_ne s
  have h2 := den_ne u
  have h3 := int_ne (num_ne hu)
  unfold rq wat
  rw [Rat.intCast_mul, Rat.intCast_mul, Rat.intCast_sub]
  generalize ((s.den : Int) : Rat) = d at *
  generalize (s.num : Rat) = n at *
  generalize ((u.den : Int) : Rat) = d2 at *
  generalize (u.num : Rat) = n2 at *
  rw [← e1, ← e2]
  grind
theorem Sz.add {m n : Nat} {p q : Rat} (h : Sz m p) (k : Sz n q) : Sz (m + n + 1) (p + q) := by
  rw [← rq_add]
  exact sz_rq (Int.mul_ne_zero (den_ne' p) (den_ne' q)) (lt_up (add_lt (wide_lt h.1 k.2) (lt_up (wide_lt k.1 h.2) (by omega : n + m ≤ m + n))) (by omega)) (lt_up (wide_lt h.2 k.2) (by omega))
theorem Sz.sub {m n : Nat} {p q : Rat} (h : Sz m p) (k : Sz n q) : Sz (m + n + 1) (p - q) := by
  rw [← rq_sub]
  exact sz_rq (Int.mul_ne_zero (den_ne' p) (den_ne' q)) (lt_up (sub_lt (wide_lt h.1 k.2) (lt_up (wide_lt k.1 h.2) (by omega : n + m ≤ m + n))) (by omega)) (lt_up (wide_lt h.2 k.2) (by omega))
theorem Sz.mul {m n : Nat} {p q : Rat} (h : Sz m p) (k : Sz n q) : Sz (m + n) (p * q) := by
  rw [← rq_mul]
  exact sz_rq (Int.mul_ne_zero (den_ne' p) (den_ne' q)) (wide_lt h.1 k.1) (wide_lt h.2 k.2)
theorem Sz.wat {m n : Nat} {s u : Rat} (h : Sz m s) (k : Sz n u) (hu : u ≠ 0) : Sz (m + n + 1) (wat s u) := by
  rw [← rq_wat s u hu]
  exact sz_rq (Int.mul_ne_zero (den_ne' s) (num_ne hu)) (lt_up (wide_lt h.1 (sub_lt k.2 k.1)) (by omega)) (lt_up (wide_lt h.2 k.1) (by omega))
theorem Sz.boil {a b c n N : Nat} {s w u h : Rat} {f : Int} (zs : Sz a s) (zu : Sz n u) (hu : u ≠ 0) (zw : Sz b w) (zh : Sz c h) (hf : f.natAbs < 2 ^ 14) (h1 : a + n + 1 ≤ N) (h2 : b + (14 + c) + 1 ≤ N) : Sz N (KR.boil s w f u h) := by
  unfold KR.boil
  split
  · split
    · exact (Sz.wat zs zu hu).up h1
    · exact (Sz.sub zw (Sz.mul (Sz.int hf (by decide)) zh)).up h2
  · exact zw.up (by omega)
theorem boil_zero {s w u : Rat} {f : Int} : boil s w f u 0 = w := by
  unfold boil
  rw [Rat.mul_zero]
  split <;> grind
theorem boil_boil {s w u h k : Rat} {f : Int} (hf : 0 ≤ f) (hh : 0 ≤ h) (hk : 0 ≤ k) : boil s (boil s w f u h) f u k = boil s w f u (h + k) := by
  have f0 := cast_nn hf
  have a0 := Rat.mul_nonneg f0 hh
  have b0 := Rat.mul_nonneg f0 hk
  unfold boil
  rw [Rat.mul_add]
  generalize (f : Rat) * h = a at *
  generalize (f : Rat) * k = b at *
  generalize wat s u = L
  grind
theorem boil_fire {s w u h : Rat} {f g : Int} (hf : f ≤ g) (hh : 0 ≤ h) : boil s w g u h ≤ boil s w f u h := by
  have k := Rat.mul_nonneg (cast_nn (show 0 ≤ g - f by omega)) hh
  rw [Rat.intCast_sub] at k
  unfold boil
  generalize wat s u = L
  have e : ((g : Rat) - (f : Rat)) * h = (g : Rat) * h - (f : Rat) * h := by grind
  rw [e] at k
  generalize (f : Rat) * h = a at *
  generalize (g : Rat) * h = b at *
  grind
theorem boil_two {s w u h : Rat} {f : Int} : boil (s + s) (w + w) (2 * f) u h = boil s w f u h + boil s w f u h := by
  unfold boil
  have e : wat (s + s) u = wat s u + wat s u := by
    unfold wat
    grind
  rw [e, Rat.intCast_mul]
  have e2 : ((2 : Int) : Rat) * (f : Rat) * h = (f : Rat) * h + (f : Rat) * h := by
    have e3 : ((2 : Int) : Rat) = 2 := rfl
    rw [e3]
    grind
  rw [e2]
  generalize (f : Rat) * h = a at *
  generalize wat s u = L at *
  grind
theorem Sz.div {m n : Nat} {p q : Rat} (h : Sz m p) (k : Sz n q) (hq : q ≠ 0) : Sz (m + n) (p / q) := by
  rw [← rq_div]
  exact sz_rq (Int.mul_ne_zero (den_ne' p) (num_ne hq)) (wide_lt h.1 k.2) (wide_lt h.2 k.1)
theorem rq_divi (r : Rat) (f : Int) : rq r.num (r.den * f) = r / (f : Rat) := by
  have e := rq_div r (f : Rat)
  rw [← e]
  show rq r.num (r.den * f) = rq (r.num * 1) (r.den * f)
  rw [Int.mul_one]
theorem FrQ.dp {K : PySem.W.Frag} {H : Hp} {x : Addr} {q : Rat} (h : FrQ K H x q) : Dp K H (.ref x) (dq q) := .tup h (.cons (.int _) (.cons (.int _) .nil))
theorem JuQ.dp {K : PySem.W.Frag} {H : Hp} {x : Addr} {s w : Rat} (h : JuQ K H x s w) : Dp K H (.ref x) (dj s w) := by
  obtain ⟨a, b, h1, h2, h3⟩ := h
  exact .tup h1 (.cons h2.dp (.cons h3.dp .nil))
theorem eqv_dq (a b : Rat) : PyData.eqv (dq a) (dq b) = decide (a = b) := by
  refine eqv_pair.trans ?_
  rw [decide_eq_decide]
  constructor
  · rintro ⟨h1, h2⟩
    exact Rat.ext h1 (by omega)
  · rintro rfl
    exact ⟨rfl, rfl⟩
theorem OQ.dp {K : PySem.W.Frag} {H : Hp} {v : V} {o : Option Rat} (h : OQ K H v o) : Dp K H v (oq o) := by
  cases o with
  | none => rw [show v = .non from h]; exact .non
  | some q =>
    obtain ⟨x, e1, h1⟩ := h
    rw [e1]
    exact h1.dp
theorem oq_fit (o : Option Rat) : PyData.canLay0 (oq o) = true ∧ PyData.depth (oq o) ≤ 60 := by
  cases o with
  | none => exact ⟨rfl, by decide⟩
  | some q => exact ⟨rfl, by show 1 ≤ 60; decide⟩
/-- when a juice is ready -/
def ready (s w : Rat) (f : Int) (u : Rat) : Option Rat := if s = 0 then none else if wat s u < w then (if f = 0 then none else some ((w - wat s u) / (f : Rat))) else some 0
theorem wat_nn {s u : Rat} (hs : 0 ≤ s) (u0 : 0 < u) (u1 : u < 1) : 0 ≤ wat s u := by
  have k := Rat.mul_nonneg hs (show 0 ≤ 1 - u by grind)
  have h : s ≤ s / u := le_div u0 (by grind)
  unfold wat
  grind
theorem on_way {s w u : Rat} {f : Int} (hs : 0 < s) (u0 : 0 < u) (u1 : u < 1) (hf : 0 < f) (lt : wat s u < w) {t : Rat} (et : t = (w - wat s u) / (f : Rat)) :
    boil s w f u t = wat s u ∧ stren s (wat s u) = some u ∧ 0 < t ∧ ∀ h : Rat, 0 < h → (boil s w f u (t + h) = wat s u ∧ (h ≤ 1 → ∃ q, stren s (boil s w f u (t * h)) = some q ∧ (q = u ↔ h = 1) ∧ ready s (boil s w f u (t * h)) f u = some (t - t * h))) := by
  have f0 := cast_pos hf
  have fne : (f : Rat) ≠ 0 := by grind
  have ft : (f : Rat) * t = w - wat s u := by rw [et]; grind
  have wn := wat_nn (Rat.le_of_lt hs) u0 u1
  have tp : 0 < t := by
    rw [et]
    exact (Rat.lt_div_iff f0).mpr (by grind)
  refine ⟨?_, ?_, tp, fun h hh => ⟨?_, fun h1 => ?_⟩⟩
  · unfold boil
    rw [ft]
    grind
  · have e : s + wat s u = s / u := by
      unfold wat
      grind
    have ne : s / u ≠ 0 := by grind
    unfold stren
    rw [e, if_neg ne]
    congr 1
    grind
  · have k := Rat.mul_pos f0 hh
    unfold boil
    rw [Rat.mul_add, ft]
    grind
  · have d : 0 < w - wat s u := by grind
    have k := Rat.mul_nonneg (Rat.le_of_lt d) (show 0 ≤ 1 - h by grind)
    have e : (f : Rat) * (t * h) = (w - wat s u) * h := by rw [← ft]; grind
    have eb : boil s w f u (t * h) = w - (w - wat s u) * h := by
      unfold boil
      rw [e]
      grind
    have xge : wat s u ≤ w - (w - wat s u) * h := by grind
    have sx : s + (w - (w - wat s u) * h) ≠ 0 := by grind
    rw [eb]
    refine ⟨s / (s + (w - (w - wat s u) * h)), if_neg sx, ⟨fun q => ?_, fun q => ?_⟩, ?_⟩
    · have q2 : s = u * (s + (w - (w - wat s u) * h)) := by grind
      have q3 : wat s u = w - (w - wat s u) * h := by
        unfold wat at *
        grind
      have q4 : (w - wat s u) * (1 - h) = 0 := by grind
      have q5 : 1 - h = 0 := by
        rcases Rat.mul_eq_zero.mp q4 with z | z
        · grind
        · exact z
      grind
    · rw [q]
      have e2 : s + (w - (w - wat s u) * 1) = s / u := by
        unfold wat
        grind
      rw [e2]
      grind
    · unfold ready
      rw [if_neg (by grind)]
      by_cases c : wat s u < w - (w - wat s u) * h
      · rw [if_pos c, if_neg (by omega)]
        congr 1
        rw [et]
        grind
      · rw [if_neg c]
        have q4 : (w - wat s u) * (1 - h) = 0 := by grind
        have q5 : 1 - h = 0 := by
          rcases Rat.mul_eq_zero.mp q4 with z | z
          · grind
          · exact z
        have q6 : h = 1 := by grind
        rw [q6]
        congr 1
        grind
/-- a thing is not among those of a tuple -/
def rNoTup (K : PySem.W.Frag) : R2 := fun x y H Q => ∃ d ds, Dp K H x d ∧ Dp K H y (.tuple ds) ∧ PyData.canLay0 d = true ∧ PyData.canLayAll0 ds = true ∧ PyData.depth d ≤ 60 ∧ Q (.bl (!ds.any fun z => PyData.eqv z d)) H
theorem notTup {X : Cx} {K : PySem.W.Frag} (hK : X.K = K) (room : X.A.units + 64 < cLine) : OpR X (compareOp .NotIn) (rNoTup K) := by
  subst hK
  intro pn s0 σ H x y v1 v2 Q I a1 a2 h
  obtain ⟨d, ds, h1, h2, h3, h4, h5, q⟩ := h
  obtain ⟨as1, r1⟩ := Dp.reads I d x v1 h1 a1
  obtain ⟨as2, r2⟩ := Dp.reads I (.tuple ds) y v2 h2 a2
  exact SeqAt.notIn_tuple_reads r2 r1 h4 h3 (by omega) ⟨.bl _, H, I, rfl, q⟩
/-- a juice in, a juice and a share in, two juices in -/
def sp_j2 (K : PySem.W.Frag) : Sp := fun vs H Q _ => ∃ (x y : Addr) (s w s' w' : Rat) (m n : Nat), vs = [.ref x, .ref y] ∧ JuQ K H x s w ∧ JuQ K H y s' w' ∧ Sz m s ∧ Sz m w ∧ Sz n s' ∧ Sz n w' ∧ m + n ≤ 1900 ∧
  ∀ z H', Same H H' → JuQ K H' z (s + s') (w + w') → Sz (m + n + 1) (s + s') → Sz (m + n + 1) (w + w') → Q (.ref z) H'
def sp_jt (K : PySem.W.Frag) (f : Rat → Rat) : Sp := fun vs H Q _ => ∃ (x y : Addr) (s w t : Rat) (m n : Nat), vs = [.ref x, .ref y] ∧ JuQ K H x s w ∧ FrQ K H y t ∧ Sz m s ∧ Sz m w ∧ Sz n t ∧ m + n ≤ 900 ∧ n ≤ 400 ∧
  ∀ z H', Same H H' → JuQ K H' z (s * f t) (w * f t) → Sz (m + n + 10) (s * f t) → Sz (m + n + 10) (w * f t) → Q (.ref z) H'
def sp_vol (K : PySem.W.Frag) : Sp := fun vs H Q _ => ∃ (x : Addr) (s w : Rat) (m : Nat), vs = [.ref x] ∧ JuQ K H x s w ∧ Sz m s ∧ Sz m w ∧ m ≤ 900 ∧ ∀ z H', Same H H' → FrQ K H' z (s + w) → Sz (m + m + 1) (s + w) → Q (.ref z) H'
def sp_str (K : PySem.W.Frag) : Sp := fun vs H Q _ => ∃ (x : Addr) (s w : Rat) (m : Nat), vs = [.ref x] ∧ JuQ K H x s w ∧ Sz m s ∧ Sz m w ∧ m ≤ 600 ∧ ∀ v H', Same H H' → OQ K H' v (stren s w) → (∀ q, stren s w = some q → Sz (3 * m + 2) q) → Q v H'
end KR
/-! ### walks over things that may be lists or tuples: for, enumerate, zip -/
namespace KR
open PySem PySem.Spec PyProof.Rows L2
/-- a list, or a tuple -/
def SqB (K : PySem.W.Frag) (H : Hp) (a : Addr) (xs : List V) : Bool → Prop
  | true => SqL K H a xs
  | false => SqT K H a xs
def ItB (h : Heap) (it a : Addr) (i : Nat) : Bool → Prop
  | true => h.IsListIter it a i
  | false => h.IsTupleIter it a i
def IsB (h : Heap) (a : Addr) (items : Array Value) : Bool → Prop
  | true => h.IsList a items
  | false => h.IsTuple a items
def objB (a : Addr) : Bool → Obj
  | true => { cls := .type "list_iterator", data := .fields #[.ref a, .int 0 0] }
  | false => { cls := .type "tuple_iterator", data := .fields #[.ref a, .int 0 0] }
theorem SqB.same {K : PySem.W.Frag} {H H' : Hp} {a : Addr} {xs : List V} {b : Bool} (h : SqB K H a xs b) (s : Same H H') : SqB K H' a xs b := by
  cases b with
  | true => exact s.seq h
  | false => exact Same.tup s h
theorem draws_b {prog : Program} {w : World} {A : Around} (hh : A.handled = none) (it a : Addr) (ne : a ≠ it) (items : Array Value) (b : Bool) :
    Draws prog w A it [it, a] items.size (fun i v => items[i]? = some v) (fun i h => ItB h it a i b ∧ IsB h a items b) := by
  cases b with
  | true => exact Draws.list hh it a ne items
  | false => exact Draws.tuple hh it a ne items
theorem begins_b (a : Addr) (items : Array Value) (b : Bool) : Begins (.ref a) (objB a b) fun h => IsB h a items b := by
  cases b with
  | true => exact begins_list a items
  | false => exact begins_tuple a items
theorem first_b {h : Heap} {it a : Addr} {b : Bool} (e : h.get? it = some (objB a b)) : ItB h it a 0 b := by
  cases b with
  | true => exact ⟨_, e, rfl, rfl⟩
  | false => exact ⟨_, e, rfl, rfl⟩
theorem ItB.obj {h : Heap} {it a : Addr} {i : Nat} {b : Bool} (t : ItB h it a i b) : ∃ o, h.get? it = some o ∧ ∀ v, o.data ≠ .cell v := by
  cases b with
  | true =>
    obtain ⟨o, e, _, d⟩ := t
    exact ⟨o, e, fun v q => by rw [d] at q; cases q⟩
  | false =>
    obtain ⟨o, e, _, d⟩ := t
    exact ⟨o, e, fun v q => by rw [d] at q; cases q⟩
theorem ItB.keep {h h' : Heap} {it a : Addr} {i : Nat} {b : Bool} (t : ItB h it a i b) (k : ∀ o, h.get? it = some o → h'.get? it = some o) : ItB h' it a i b := by
  cases b with
  | true =>
    obtain ⟨o, e, r⟩ := t
    exact ⟨o, k _ e, r⟩
  | false =>
    obtain ⟨o, e, r⟩ := t
    exact ⟨o, k _ e, r⟩
section
variable {X : Cx} {pins : List (Addr × Obj)} {σ : L2.St} {H : Hp} {s : Shared} {a : Addr} {xs ys : List V} {b : Bool}
theorem inv_b (I : Inv X pins σ H s) (h : SqB X.K H a xs b) : ∃ its : List Value, Vals xs its ∧ IsB s.heap a its.toArray b ∧ a < s.heap.objs.size := by
  cases b with
  | true =>
    obtain ⟨its, rv, p, _⟩ := I.list h
    exact ⟨its, rv, p.isList, p.lt⟩
  | false =>
    obtain ⟨its, rv, p, _⟩ := I.tuple h
    obtain ⟨o, e, _⟩ := id p
    exact ⟨its, rv, p, Heap.lt_size e⟩
theorem inj_b (I : Inv X pins σ H s) (h : SqB X.K H a xs b) (k : SqB X.K H a ys b) : xs = ys := by
  cases b with
  | true => exact I.list_inj h k
  | false => exact I.tuple_inj h k
end
/-- pairs of what two things hold -/
def ItzB (K : PySem.W.Frag) (a b : Addr) (p q : Bool) : It :=
  ⟨fun i H => ∃ (xs ys : List V) (x y : V), SqB K H a xs p ∧ SqB K H b ys q ∧ xs[i]? = some x ∧ ys[i]? = some y,
    fun i H v H' => ∃ T x y, v = .ref T ∧ H T = none ∧ H' = upd H T (.tup [x, y]) ∧ (∀ xs, SqB K H a xs p → xs[i]? = some x) ∧ ∀ ys, SqB K H b ys q → ys[i]? = some y,
    fun i H => ∃ xs ys : List V, SqB K H a xs p ∧ SqB K H b ys q ∧ xs.length = i ∧ ys.length = i⟩
theorem turn_zipB {P : Program} {w : World} {K : PySem.W.Frag} {elts : List Expr} {kk : Nat} {tpos : Pos} {a b : Addr} {p q : Bool} {N : Nat} (la : a < N) (lb : b < N) :
    Turn P w K (.Tuple elts kk tpos) (ItzB K a b p q) [N + 4, N + 2, N + 3, N, N + 1] (N + 4) (fun i h => IsZip h (N + 4) (N + 2) (N + 3) .none ∧ IsTupOf2 h (N + 2) (.ref N) (.ref (N + 1)) ∧ (∃ x y, IsTupOf2 h (N + 3) x y) ∧ ItB h N a i p ∧ ItB h (N + 1) b i q) where
  mem := List.mem_cons_self
  obj := fun i h st c hc => by
    obtain ⟨st1, st2, ⟨x, y, st3⟩, st4, st5⟩ := st
    have cs : c = N + 4 ∨ c = N + 2 ∨ c = N + 3 ∨ c = N ∨ c = N + 1 := by simpa using hc
    rcases cs with rfl | rfl | rfl | rfl | rfl
    · exact ⟨_, st1, nofun⟩
    · exact ⟨_, st2, nofun⟩
    · exact ⟨_, st3, nofun⟩
    · exact st4.obj
    · exact st5.obj
  keep := fun i h h' st k => by
    obtain ⟨st1, st2, ⟨x, y, st3⟩, st4, st5⟩ := st
    exact ⟨k _ (by simp) _ st1, k _ (by simp) _ st2, ⟨x, y, k _ (by simp) _ st3⟩, st4.keep (k _ (by simp)), st5.keep (k _ (by simp))⟩
  item := by
    intro X hP hw hK hc i pins s σ H E I hf st hg
    subst hP hw hK
    obtain ⟨st1, st2, ⟨x0, y0, st3⟩, st4, st5⟩ := st
    obtain ⟨xs, ys, x, y, sx, sy, gx, gy⟩ := hg
    obtain ⟨its, rv, ia, _⟩ := inv_b I sx
    obtain ⟨its2, rv2, ib, _⟩ := inv_b I sy
    obtain ⟨u, hu, ru⟩ := rv.get gx
    obtain ⟨u2, hu2, ru2⟩ := rv2.get gy
    have calm : X.A.in1.handled = none := I.ok.hd hc
    have S : ZipSep2 (N + 4) (N + 2) (N + 3) N (N + 1) [N, a] [N + 1, b] := zip_sep2 (fun c z => by rw [List.mem_singleton.mp z]; exact la) (fun c z => by rw [List.mem_singleton.mp z]; exact lb)
    have zlt : N + 4 < s.heap.objs.size := Heap.lt_size st1
    have i1 : i < its.toArray.size := by
      rw [List.size_toArray]
      exact (List.getElem?_eq_some_iff.mp hu).1
    have i2 : i < its2.toArray.size := by
      rw [List.size_toArray]
      exact (List.getElem?_eq_some_iff.mp hu2).1
    refine wpAny_pyNext_zipD2_item S (draws_b calm N a (Nat.ne_of_lt la) its.toArray p) (draws_b calm (N + 1) b (Nat.ne_of_lt (Nat.lt_succ_of_lt lb)) its2.toArray q) st1 st2 st3 ⟨st4, ia⟩ ⟨st5, ib⟩ i1 i2 fun v1 v2 h' tk p1 p2 z' TO' t1' t2' hT hsz hk => ?_
    have p1' : its.toArray[i]? = some v1 := p1
    have p2' : its2.toArray[i]? = some v2 := p2
    rw [List.getElem?_toArray, hu] at p1'
    rw [List.getElem?_toArray, hu2] at p2'
    obtain rfl := Option.some.inj p1'
    obtain rfl := Option.some.inj p2'
    refine ⟨_, rfl, wpAny_letOwnedTupleGo_zip (s := { s with heap := h', toks := tk }) z' fun h'' z'' sb => ?_⟩
    have hT2 : h''.get? s.heap.objs.size = some { cls := .type "tuple", data := .seq #[u, u2] } := (sb.2 _ (Nat.ne_of_gt zlt)).trans hT
    have new : ObjOk X.prog X.w (upd H s.heap.objs.size (.tup [x, y])) h'' s.heap.objs.size (.tup [x, y]) :=
      ⟨small (by show 2 ≤ 100000; decide), [u, u2], .cons ru (.cons ru2 .nil), ⟨_, hT2, rfl, _, rfl⟩⟩
    have out : ∀ {c : Nat}, c ∉ [N + 4, N + 2, N + 3, N, N + 1] → c ≠ N + 4 ∧ c ≠ N + 3 ∧ c ≠ N ∧ c ≠ N + 1 := fun {c} n => ⟨fun q => n (by simp [q]), fun q => n (by simp [q]), fun q => n (by simp [q]), fun q => n (by simp [q])⟩
    have I1 : Inv X pins σ (upd H s.heap.objs.size (.tup [x, y])) { s with heap := h'', toks := tk } :=
      I.turnedNew (t' := tk) (ch := [N + 4, N + 2, N + 3, N, N + 1]) (fun c o hb q => by
        obtain ⟨n1, n2, n3, n4⟩ := out hb
        exact (sb.2 c n1).trans (hk c o n1 n2 n3 n4 q)) hf (Nat.le_refl _) new
    have d1 : (N + 2 : Nat) ≠ N + 4 := by omega
    have d2 : (N + 3 : Nat) ≠ N + 4 := by omega
    have d3 : (N : Nat) ≠ N + 4 := by omega
    have d4 : (N + 1 : Nat) ≠ N + 4 := by omega
    have d5 : (N + 2 : Nat) ≠ N + 3 ∧ (N + 2 : Nat) ≠ N ∧ (N + 2 : Nat) ≠ N + 1 := by omega
    refine ⟨.ref s.heap.objs.size, _, I1, rfl, ⟨_, x, y, rfl, I.hok.fresh (Nat.le_refl _), rfl, fun l hl => by rw [inj_b I hl sx]; exact gx, fun l hl => by rw [inj_b I hl sy]; exact gy⟩, ⟨z'', ?_, ⟨u, u2, ?_⟩, ?_, ?_⟩, fun c hcm => ?_⟩
    · exact (sb.2 _ d1).trans (hk _ _ d1 d5.1 d5.2.1 d5.2.2 st2)
    · exact (sb.2 _ d2).trans TO'
    · exact t1'.1.keep fun o e => (sb.2 _ d3).trans e
    · exact t2'.1.keep fun o e => (sb.2 _ d4).trans e
    · have hlt : c < s.heap.objs.size := by
        have cs : c = N + 4 ∨ c = N + 2 ∨ c = N + 3 ∨ c = N ∨ c = N + 1 := by simpa using hcm
        have : (c : Nat) ≤ N + 4 := by
          rcases cs with q | q | q | q | q <;> rw [q]
          · exact Nat.le_refl _
          · exact Nat.add_le_add_left (by decide : 2 ≤ 4) N
          · exact Nat.add_le_add_left (by decide : 3 ≤ 4) N
          · exact Nat.le_add_right _ _
          · exact Nat.add_le_add_left (by decide : 1 ≤ 4) N
        exact Nat.lt_of_le_of_lt this zlt
      rw [upd_ne (Nat.ne_of_lt hlt)]
      exact (hf c hcm).1
  done := by
    intro X hP hw hK hc i pins s σ H E I hf st hg
    subst hP hw hK
    obtain ⟨st1, st2, ⟨x0, y0, st3⟩, st4, st5⟩ := st
    obtain ⟨xs, ys, sx, sy, l1, l2⟩ := hg
    obtain ⟨its, rv, ia, _⟩ := inv_b I sx
    obtain ⟨its2, rv2, ib, _⟩ := inv_b I sy
    have k1 := rv.length
    have k2 := rv2.length
    have calm : X.A.in1.handled = none := I.ok.hd hc
    have S : ZipSep2 (N + 4) (N + 2) (N + 3) N (N + 1) [N, a] [N + 1, b] := zip_sep2 (fun c z => by rw [List.mem_singleton.mp z]; exact la) (fun c z => by rw [List.mem_singleton.mp z]; exact lb)
    have i1 : its.toArray.size = i := by rw [List.size_toArray]; omega
    have i2 : its2.toArray.size = i := by rw [List.size_toArray]; omega
    refine wpAny_pyNext_zipD2_end S (draws_b calm N a (Nat.ne_of_lt la) its.toArray p) (draws_b calm (N + 1) b (Nat.ne_of_lt (Nat.lt_succ_of_lt lb)) its2.toArray q) st1 st2 st3 ⟨st4, ia⟩ ⟨st5, ib⟩ (by omega) (by omega) (by omega) fun h' tk hk => ⟨rfl, ?_⟩
    exact I.turnedL (t' := tk) (ch := [N + 4, N + 2, N + 3, N, N + 1]) (fun c o hb q => hk c o (fun z => hb (by simp [z])) (fun z => hb (by simp [z])) (fun z => hb (by simp [z])) (fun z => hb (by simp [z])) q) hf
  self := fun A i s Q E st h => wpAny_pyIter_zip st.1 h
def iZipB (K : PySem.W.Frag) (ta : TA) : TI := fun σ H R => ta σ H fun vs H1 => ∃ (a b : Addr) (xs ys : List V) (p q : Bool), vs = [.ref a, .ref b] ∧ SqB K H1 a xs p ∧ SqB K H1 b ys q ∧ R (ItzB K a b p q) H1
theorem pi_zipB {X : Cx} {K : PySem.W.Frag} {e e2 : Expr} {ta : TA} {p pos tpos : Pos} {elts : List Expr} {kk : Nat} (hK : X.K = K) (glob : Gl X "zip") (free : X.mg "zip" = none) (args : PA X [e, e2] ta)
    (st : starEach [e, e2] X.env = (false, eval e X.env) :: starEach [e2] X.env := by rfl) (bk : (backTo pos (starEach [e2] X.env)).any (·.1) = false := by rfl) : PI X (.Tuple elts kk tpos) (.Call (.Name "zip" p) [e, e2] [] pos) (iZipB K ta) := by
  subst hK
  constructor
  intro pins s σ H R I ask
  refine Call_ (ld_blt I glob free PyProof.Rows.boot_zip (PyProof.Rows.callWith_type1 (thn (args.run pos pins s σ H _ I ask) ?_) st bk))
  rintro us s1 ⟨vs, H1, I1, rel, a, b, xs, ys, p, q, ev, sx, sy, k⟩
  subst ev
  cases rel with
  | cons r rr =>
    cases rr with
    | cons r' rr =>
      cases rr
      cases r
      cases r'
      have fresh5 : ∀ c, c ∈ [s1.heap.objs.size + 4, s1.heap.objs.size + 2, s1.heap.objs.size + 3, s1.heap.objs.size, s1.heap.objs.size + 1] → FpOk X pins H1 c := fun c hcm => by
        have cs : c = s1.heap.objs.size + 4 ∨ c = s1.heap.objs.size + 2 ∨ c = s1.heap.objs.size + 3 ∨ c = s1.heap.objs.size ∨ c = s1.heap.objs.size + 1 := by simpa using hcm
        have low : s1.heap.objs.size ≤ c := by rcases cs with q | q | q | q | q <;> rw [q] <;> first | exact Nat.le_refl _ | exact Nat.le_add_right _ _
        exact I1.fpOk low (I1.hok.fresh low)
      obtain ⟨its, _, ia, la⟩ := inv_b I1 sx
      obtain ⟨its2, _, ib, lb⟩ := inv_b I1 sy
      refine zip_begins2 (begins_b a its.toArray p) (begins_b b its2.toArray q) ia ib fun h' hz hTI hTO h1 h2 hsz hk => wpAny_pyIter_zip hz ?_
      have I2 : Inv X pins σ H1 { s1 with heap := h' } := I1.kept (t' := s1.toks) hk
      exact ⟨s1.heap.objs.size + 4, [s1.heap.objs.size + 4, s1.heap.objs.size + 2, s1.heap.objs.size + 3, s1.heap.objs.size, s1.heap.objs.size + 1], _, _, H1, rfl, I2, turn_zipB la lb, ⟨hz, hTI, ⟨_, _, hTO⟩, first_b h1, first_b h2⟩, fresh5, k⟩
theorem walk_zipB {K : PySem.W.Frag} {a b : Addr} {xs ys : List V} {p q : Bool} {n : Nat} (hx : xs.length = n) (hy : ys.length = n) :
    Walk (ItzB K a b p q) n (fun H => SqB K H a xs p ∧ SqB K H b ys q) (YPair (fun i => xs[i]?) (fun i => ys[i]?)) where
  goes := fun i H hi g => ⟨xs, ys, xs[i]'(by omega), ys[i]'(by omega), g.1, g.2, List.getElem?_eq_getElem _, List.getElem?_eq_getElem _⟩
  stops := fun H g => ⟨xs, ys, g.1, g.2, hx, hy⟩
  yields := fun i H v H' hi g y => by
    obtain ⟨T, x, y, rfl, hT, e, f1, f2⟩ := y
    exact ⟨T, x, y, rfl, hT, e, f1 _ g.1, f2 _ g.2⟩
/-- what a thing holds, counted -/
def IteB (K : PySem.W.Frag) (a : Addr) (p : Bool) : It :=
  ⟨fun i H => ∃ (xs : List V) (x : V), SqB K H a xs p ∧ xs[i]? = some x, fun i H v H' => ∃ T x, v = .ref T ∧ H T = none ∧ H' = upd H T (.tup [.int (i : Nat), x]) ∧ ∀ xs, SqB K H a xs p → xs[i]? = some x, fun i H => ∃ xs : List V, SqB K H a xs p ∧ xs.length = i⟩
theorem turn_enumB {P : Program} {w : World} {K : PySem.W.Frag} {elts : List Expr} {kk : Nat} {tpos : Pos} {a : Addr} {p : Bool} {N : Nat} (la : a < N) :
    Turn P w K (.Tuple elts kk tpos) (IteB K a p) [N + 1, N] (N + 1) (fun i h => (∃ old, IsEnum h (N + 1) N ((i : Nat) : Int) old) ∧ ItB h N a i p) where
  mem := List.mem_cons_self
  obj := fun i h st c hc => by
    obtain ⟨⟨old, st1⟩, st2⟩ := st
    have cs : c = N + 1 ∨ c = N := by simpa using hc
    rcases cs with rfl | rfl
    · exact ⟨_, st1, nofun⟩
    · exact st2.obj
  keep := fun i h h' st k => by
    obtain ⟨⟨old, st1⟩, st2⟩ := st
    exact ⟨⟨old, k _ (by simp) _ st1⟩, st2.keep (k _ (by simp))⟩
  item := by
    intro X hP hw hK hc i pins s σ H E I hf st hg
    subst hP hw hK
    obtain ⟨⟨old, st1⟩, st2⟩ := st
    obtain ⟨xs, x, sx, gx⟩ := hg
    obtain ⟨its, rv, ia, _⟩ := inv_b I sx
    obtain ⟨u, hu, ru⟩ := rv.get gx
    have calm : X.A.in1.handled = none := I.ok.hd hc
    have elt : N + 1 < s.heap.objs.size := Heap.lt_size st1
    have i1 : i < its.toArray.size := by
      rw [List.size_toArray]
      exact (List.getElem?_eq_some_iff.mp hu).1
    refine wpAny_pyNext_enum_itemC (draws_b calm N a (Nat.ne_of_lt la) its.toArray p) st1 ⟨st2, ia⟩ i1 (Nat.succ_ne_self N) (by
      intro z
      have cs : N + 1 = N ∨ N + 1 = a := by simpa using z
      have : ¬ (N + 1 = N) := Nat.succ_ne_self N
      rcases cs with q | q
      · exact this q
      · have la' : (a : Nat) < N := la
        rw [← q] at la'
        exact Nat.lt_irrefl N (Nat.lt_trans (Nat.lt_succ_self N) la')) fun v h' tk p1 out t1 hT hsz hk => ?_
    have p1' : its.toArray[i]? = some v := p1
    rw [List.getElem?_toArray, hu] at p1'
    obtain rfl := Option.some.inj p1'
    refine ⟨_, rfl, wpAny_letOwnedTupleGo_enum (s := { s with heap := h', toks := tk + 1 }) out fun h'' he' sb => ?_⟩
    have hT2 : h''.get? s.heap.objs.size = some { cls := .type "tuple", data := .seq #[.int i tk, u] } := (sb.2 _ (Nat.ne_of_gt elt)).trans hT
    have new : ObjOk X.prog X.w (upd H s.heap.objs.size (.tup [.int (i : Nat), x])) h'' s.heap.objs.size (.tup [.int (i : Nat), x]) :=
      ⟨small (by show 2 ≤ 100000; decide), [.int i tk, u], .cons ⟨_, rfl⟩ (.cons ru .nil), ⟨_, hT2, rfl, _, rfl⟩⟩
    have I1 : Inv X pins σ (upd H s.heap.objs.size (.tup [.int (i : Nat), x])) { s with heap := h'', toks := tk + 1 } :=
      I.turnedNew (t' := tk + 1) (ch := [N + 1, N]) (fun c o hb q => (sb.2 c (fun z => hb (by simp [z]))).trans (hk c o (fun z => hb (by simp [z])) (fun z => hb (by simp [z])) q)) hf (Nat.le_refl _) new
    refine ⟨.ref s.heap.objs.size, _, I1, rfl, ⟨_, x, rfl, I.hok.fresh (Nat.le_refl _), rfl, fun l hl => by rw [inj_b I hl sx]; exact gx⟩, ⟨⟨u, ?_⟩, ?_⟩, fun c hcm => ?_⟩
    · have e1 : ((i + 1 : Nat) : Int) = (i : Int) + 1 := by omega
      rw [e1]
      exact he'
    · exact t1.1.keep fun o e => (sb.2 _ (Nat.ne_of_lt (Nat.lt_succ_self N))).trans e
    · have hlt : c < s.heap.objs.size := by
        have cs : c = N + 1 ∨ c = N := by simpa using hcm
        rcases cs with q | q <;> rw [q]
        · exact elt
        · exact Nat.lt_trans (Nat.lt_succ_self N) elt
      rw [upd_ne (Nat.ne_of_lt hlt)]
      exact (hf c hcm).1
  done := by
    intro X hP hw hK hc i pins s σ H E I hf st hg
    subst hP hw hK
    obtain ⟨⟨old, st1⟩, st2⟩ := st
    obtain ⟨xs, sx, l1⟩ := hg
    obtain ⟨its, rv, ia, _⟩ := inv_b I sx
    have k1 := rv.length
    have calm : X.A.in1.handled = none := I.ok.hd hc
    have i1 : its.toArray.size = i := by rw [List.size_toArray]; omega
    refine wpAny_pyNext_enum_endD (draws_b calm N a (Nat.ne_of_lt la) its.toArray p) st1 (by rw [i1]; exact ⟨st2, ia⟩) fun h' hx => ⟨rfl, ?_⟩
    exact I.turnedL (t' := s.toks) (ch := [N + 1, N]) (fun c o hb q => hx c o (fun z => hb (by simp [z])) q) hf
  self := fun A i s Q E st h => by
    obtain ⟨⟨old, st1⟩, _⟩ := st
    exact wpAny_pyIter_enum st1 h
theorem enum1_meets {v : Value} {o : Obj} {G : Heap → Prop} (B : Begins v o G) :
    Meets (Builtin.«enumerate.__new__» ⟨[.type "enumerate", v], []⟩) (fun _ R s => G s.heap ∧ R (.ok (.ret (.ref (s.heap.push o).objs.size))) { s with heap := (s.heap.push o).push { cls := .type "enumerate", data := .fields #[.none, .bool false, .ref s.heap.objs.size, rawInt 0, .none, .none] } }) :=
  .of_wp fun prog w A R s ask => by
    obtain ⟨hp, g, d, tk, os⟩ := s; obtain ⟨g1, ask⟩ := ask
    have hsub := sub_enumerate
    have way : ∀ {A' : Around} {E : Value → Shared → Prop} {Q : Value → Shared → Prop}, Q (.ref hp.objs.size) ⟨hp.push o, g, d, tk, os⟩ → wpAny (model prog w) A' (pyIter v) Q E ⟨hp, g, d, tk, os⟩ := fun k => B.iter prog w _ _ ⟨hp, g, d, tk, os⟩ _ g1 k
    wp_walk using way
    refine wpAny_stack_any fun st => wpAny_pure ?_
    split
    · rename_i c _ _ _ _ _
      cases (c == Value.type "enumerate") <;> (wp_walk using way; exact ⟨_, rfl, ask⟩)
    · wp_walk using way
      exact ⟨_, rfl, ask⟩
theorem enum1_begins {prog : Program} {w : World} {A : Around} {E : Value → Shared → Prop} {s : Shared} {v : Value} {o : Obj} {G : Heap → Prop} {Q : Value → Shared → Prop} (B : Begins v o G) (g1 : G s.heap)
    (ask : ∀ h', IsEnum h' (s.heap.objs.size + 1) s.heap.objs.size 0 .none → h'.get? s.heap.objs.size = some o → h'.objs.size = s.heap.objs.size + 2 → (∀ b o, s.heap.get? b = some o → h'.get? b = some o) → Q (.ref (s.heap.objs.size + 1)) { s with heap := h' }) :
    wpAny (model prog w) A (call (.type "enumerate") [v]) Q E s := by
  refine callType_new F.called_enumerate (by decide) (F.typeCall_enumerate_1 _) (F.newCall_enumerate_1 _) (fun obj => F.args_object_init_2 obj _) F.entry_enumerate_new (enum1_meets B) ⟨g1, ?_⟩
  have sz : (s.heap.push o).objs.size = s.heap.objs.size + 1 := Heap.size_push ..
  show _ ∧ _
  rw [sz]
  have he : IsEnum ((s.heap.push o).push { cls := .type "enumerate", data := .fields #[.none, .bool false, .ref s.heap.objs.size, rawInt 0, .none, .none] }) (s.heap.objs.size + 1) s.heap.objs.size 0 .none := by
    have k := Heap.get?_push_size (s.heap.push o) (o := { cls := .type "enumerate", data := .fields #[.none, .bool false, .ref s.heap.objs.size, rawInt 0, .none, .none] }) rfl
    rw [sz] at k; exact k
  exact ⟨⟨_, he, rfl⟩, ask _ he (Heap.get?_push_of_some _ (Heap.get?_push_size _ B.free)) (by rw [Heap.size_push, sz]) fun b o x => Heap.get?_push_of_some _ (Heap.get?_push_of_some _ x)⟩
def iEnumB (K : PySem.W.Frag) (ta : TA) : TI := fun σ H R => ta σ H fun vs H1 => ∃ (a : Addr) (xs : List V) (p : Bool), vs = [.ref a] ∧ SqB K H1 a xs p ∧ R (IteB K a p) H1
theorem pi_enumB {X : Cx} {K : PySem.W.Frag} {e : Expr} {ta : TA} {p pos tpos : Pos} {elts : List Expr} {kk : Nat} (hK : X.K = K) (glob : Gl X "enumerate") (free : X.mg "enumerate" = none) (args : PA X [e] ta) (st : starEach [e] X.env = [(false, eval e X.env)] := by rfl) :
    PI X (.Tuple elts kk tpos) (.Call (.Name "enumerate" p) [e] [] pos) (iEnumB K ta) := by
  subst hK
  constructor
  intro pins s σ H R I ask
  refine Call_ (ld_blt I glob free boot_enumerate (PyProof.Rows.callWith_type1 (thn (args.run pos pins s σ H _ I ask) ?_) st rfl))
  rintro us s1 ⟨vs, H1, I1, rel, a, xs, p, ev, sx, k⟩
  subst ev
  cases rel with
  | cons r rr =>
    cases rr
    cases r
    obtain ⟨its, _, ia, la⟩ := inv_b I1 sx
    refine enum1_begins (begins_b a its.toArray p) ia fun h' he h1 hsz hk => wpAny_pyIter_enum he ?_
    have I2 : Inv X pins σ H1 { s1 with heap := h' } := I1.kept (t' := s1.toks) hk
    refine ⟨s1.heap.objs.size + 1, [s1.heap.objs.size + 1, s1.heap.objs.size], _, _, H1, rfl, I2, turn_enumB la, ⟨⟨.none, he⟩, first_b h1⟩, fun c hcm => ?_, k⟩
    have cs : c = s1.heap.objs.size + 1 ∨ c = s1.heap.objs.size := by simpa using hcm
    have low : s1.heap.objs.size ≤ c := by rcases cs with q | q <;> rw [q] <;> first | exact Nat.le_refl _ | exact Nat.le_add_right _ _
    exact I1.fpOk low (I1.hok.fresh low)
theorem walk_enumB {K : PySem.W.Frag} {a : Addr} {xs : List V} {p : Bool} : Walk (IteB K a p) xs.length (fun H => SqB K H a xs p) (YPair (fun i => some (.int (i : Nat))) (fun i => xs[i]?)) where
  goes := fun i H hi g => ⟨xs, xs[i]'(by omega), g, List.getElem?_eq_getElem _⟩
  stops := fun H g => ⟨xs, g, rfl⟩
  yields := fun i H v H' hi g y => by
    obtain ⟨T, x, rfl, hT, e, f⟩ := y
    exact ⟨T, _, x, rfl, hT, e, rfl, f _ g⟩
/-- for over a list or a tuple -/
def iSeqB (K : PySem.W.Frag) (tl : TE) : TI := fun σ H R => tl σ H fun x H1 => ∃ a, x = .ref a ∧ (((∃ xs, SqL K H1 a xs) ∧ R (Itl K a) H1) ∨ ((∃ xs, SqT K H1 a xs) ∧ R (Itt K a) H1))
theorem pi_seqB {X : Cx} {K : PySem.W.Frag} {tg l : Expr} {tl : TE} (hK : X.K = K) (hl : PE X l tl) : PI X tg l (iSeqB K tl) := by
  subst hK
  constructor
  intro pins s σ H R I ask
  refine thn (hl.run pins s σ H _ I ask) fun v s1 ⟨x, H1, I1, r1, a, e, q⟩ => ?_
  subst e
  have e1 : v = Value.ref a := r1
  subst e1
  rcases q with ⟨⟨xs, sx⟩, k⟩ | ⟨⟨xs, sx⟩, k⟩
  · obtain ⟨its, _, ia, _⟩ := I1.list sx
    refine wpAny_pyIter_list ia.isList ⟨s1.heap.objs.size, [s1.heap.objs.size], _, _, H1, rfl, I1.kept (t' := s1.toks) (fun b o e => Heap.get?_push_of_some _ e), turn_list a _, ⟨_, Heap.get?_push_size _ rfl, rfl, rfl⟩, fun c hc => ?_, k⟩
    rw [List.mem_singleton.mp hc]; exact I1.fpOk (Nat.le_refl _) (I1.hok.fresh (Nat.le_refl _))
  · obtain ⟨its, _, ia, _⟩ := I1.tuple sx
    refine wpAny_pyIter_tuple (show s1.heap.IsTuple a its.toArray from ia) ⟨s1.heap.objs.size, [s1.heap.objs.size], _, _, H1, rfl, I1.kept (t' := s1.toks) (fun b o e => Heap.get?_push_of_some _ e), turn_tuple a _, ⟨_, Heap.get?_push_size _ rfl, rfl, rfl⟩, fun c hc => ?_, k⟩
    rw [List.mem_singleton.mp hc]; exact I1.fpOk (Nat.le_refl _) (I1.hok.fresh (Nat.le_refl _))
/-- one rule for a list and a tuple -/
def ItsB (K : PySem.W.Frag) (a : Addr) : Bool → It
  | true => Itl K a
  | false => Itt K a
def iSeqU (K : PySem.W.Frag) (tl : TE) : TI := fun σ H R => tl σ H fun x H1 => ∃ (a : Addr) (xs : List V) (p : Bool), x = .ref a ∧ SqB K H1 a xs p ∧ R (ItsB K a p) H1
theorem pi_seqU {X : Cx} {K : PySem.W.Frag} {tg l : Expr} {tl : TE} (hK : X.K = K) (hl : PE X l tl) : PI X tg l (iSeqU K tl) := by
  subst hK
  constructor
  intro pins s σ H R I ask
  refine thn (hl.run pins s σ H _ I ask) fun v s1 ⟨x, H1, I1, r1, a, xs, p, e, sx, k⟩ => ?_
  subst e
  have e1 : v = Value.ref a := r1
  subst e1
  cases p with
  | true =>
    obtain ⟨its, _, ia, _⟩ := I1.list sx
    refine wpAny_pyIter_list ia.isList ⟨s1.heap.objs.size, [s1.heap.objs.size], _, _, H1, rfl, I1.kept (t' := s1.toks) (fun b o e => Heap.get?_push_of_some _ e), turn_list a _, ⟨_, Heap.get?_push_size _ rfl, rfl, rfl⟩, fun c hc => ?_, k⟩
    rw [List.mem_singleton.mp hc]; exact I1.fpOk (Nat.le_refl _) (I1.hok.fresh (Nat.le_refl _))
  | false =>
    obtain ⟨its, _, ia, _⟩ := I1.tuple sx
    refine wpAny_pyIter_tuple (show s1.heap.IsTuple a its.toArray from ia) ⟨s1.heap.objs.size, [s1.heap.objs.size], _, _, H1, rfl, I1.kept (t' := s1.toks) (fun b o e => Heap.get?_push_of_some _ e), turn_tuple a _, ⟨_, Heap.get?_push_size _ rfl, rfl, rfl⟩, fun c hc => ?_, k⟩
    rw [List.mem_singleton.mp hc]; exact I1.fpOk (Nat.le_refl _) (I1.hok.fresh (Nat.le_refl _))
theorem walk_seqU {K : PySem.W.Frag} {a : Addr} {xs : List V} {p : Bool} : Walk (ItsB K a p) xs.length (fun H => SqB K H a xs p) (YAt xs) := by
  cases p with
  | true => exact walk_list
  | false => exact walk_tup
end KR
/-! ### fractions of many bits: a common bottom, a bound -/
namespace KR
open PySem PySem.Spec PyProof.Rows L2
def sp_lowV : Sp := fun vs H Q _ => ∃ t b : Int, vs = [.int t, .int b] ∧ b ≠ 0 ∧ t.natAbs < 2 ^ 8900 ∧ b.natAbs < 2 ^ 8900 ∧ ∀ p H', Same H H' → H p = none → H' p = some (.tup [.int (low t b).1, .int (low t b).2]) → Q (.ref p) H'
def sp_lowW (K : PySem.W.Frag) : Sp := fun vs H Q _ => ∃ t b : Int, vs = [.int t, .int b] ∧ b ≠ 0 ∧ t.natAbs < 2 ^ 8900 ∧ b.natAbs < 2 ^ 8900 ∧ ∀ p H', Same H H' → H p = none → FrQ K H' p (rq t b) → Q (.ref p) H'
theorem lowW {K : PySem.W.Frag} {vs : List V} {H : Hp} {Q : VK} {E : XK} (h : sp_lowW K vs H Q E) : sp_lowV vs H Q E := by
  obtain ⟨t, b, e, hb, h1, h2, q⟩ := h
  refine ⟨t, b, e, hb, h1, h2, fun p H' s hp h' => q p H' s hp ?_⟩
  rw [rq_low hb] at h'
  exact .of h'
abbrev Big (q : Rat) : Prop := Sz 4400 q
def sp_w2 (K : PySem.W.Frag) (f : Rat → Rat → Rat) (ok : Rat → Rat → Prop) : Sp := fun vs H Q _ => ∃ (x y : Addr) (p q : Rat), vs = [.ref x, .ref y] ∧ FrQ K H x p ∧ FrQ K H y q ∧ Big p ∧ Big q ∧ ok p q ∧ ∀ z H', Same H H' → H z = none → FrQ K H' z (f p q) → Q (.ref z) H'
/-- so often as M tells it is a whole number -/
def Dv (M : Nat) (q : Rat) : Prop := ∃ z : Int, q * ((M : Int) : Rat) = (z : Rat)
theorem Dv.zero {M : Nat} : Dv M 0 := ⟨0, by rw [Rat.zero_mul]; rfl⟩
theorem Dv.int {M : Nat} (i : Int) : Dv M (i : Rat) := ⟨i * M, by rw [Rat.intCast_mul]⟩
theorem Dv.add {M : Nat} {p q : Rat} (h : Dv M p) (k : Dv M q) : Dv M (p + q) := by
  obtain ⟨a, ea⟩ := h
  obtain ⟨b, eb⟩ := k
  exact ⟨a + b, by rw [Rat.add_mul, ea, eb, Rat.intCast_add]⟩
theorem Dv.neg {M : Nat} {p : Rat} (h : Dv M p) : Dv M (-p) := by
  obtain ⟨a, ea⟩ := h
  exact ⟨-a, by rw [Rat.neg_mul, ea, Rat.intCast_neg]⟩
theorem Dv.sub {M : Nat} {p q : Rat} (h : Dv M p) (k : Dv M q) : Dv M (p - q) := by
  rw [Rat.sub_eq_add_neg]
  exact h.add k.neg
theorem Dv.mul {M N : Nat} {p q : Rat} (h : Dv M p) (k : Dv N q) : Dv (M * N) (p * q) := by
  obtain ⟨a, ea⟩ := h
  obtain ⟨b, eb⟩ := k
  refine ⟨a * b, ?_⟩
  rw [Rat.intCast_mul, ← ea, ← eb, Int.natCast_mul, Rat.intCast_mul]
  generalize ((M : Int) : Rat) = m
  generalize ((N : Int) : Rat) = n
  grind
theorem Dv.up {M N : Nat} {q : Rat} (h : Dv M q) (d : M ∣ N) : Dv N q := by
  obtain ⟨a, ea⟩ := h
  obtain ⟨k, rfl⟩ := d
  refine ⟨a * k, ?_⟩
  rw [Rat.intCast_mul, ← ea, Int.natCast_mul, Rat.intCast_mul]
  generalize ((M : Int) : Rat) = m
  generalize ((k : Int) : Rat) = n
  grind
theorem Dv.rq {t b : Int} (hb : 0 < b) : Dv b.natAbs (KR.rq t b) := by
  refine ⟨t, ?_⟩
  have e : ((b.natAbs : Nat) : Int) = b := by omega
  rw [e]
  have h := int_ne (show b ≠ 0 by omega)
  unfold KR.rq
  generalize (t : Rat) = x
  generalize (b : Rat) = y at *
  grind
theorem Dv.den (q : Rat) : Dv q.den q := by
  have k := Dv.rq (t := q.num) (b := (q.den : Int)) (by have := q.den_pos; omega)
  rw [rq_self, Int.natAbs_natCast] at k
  exact k
theorem rat_le_abs {z : Int} {M B : Nat} {q : Rat} (e : q * ((M : Int) : Rat) = (z : Rat)) (lo : -((B : Int) : Rat) ≤ q) (hi : q ≤ ((B : Int) : Rat)) : z.natAbs ≤ B * M := by
  have m0 := cast_nn (show (0 : Int) ≤ (M : Int) by omega)
  have k1 := Rat.mul_le_mul_of_nonneg_right hi m0
  have k2 := Rat.mul_le_mul_of_nonneg_right lo m0
  rw [e, ← Rat.intCast_mul] at k1
  rw [e, ← Rat.intCast_neg, ← Rat.intCast_mul] at k2
  have h1 := Rat.intCast_le_intCast.mp k1
  have h2 := Rat.intCast_le_intCast.mp k2
  have h3 : -(B : Int) * (M : Int) = -((B : Int) * (M : Int)) := Int.neg_mul _ _
  rw [h3] at h2
  have h4 : ((B * M : Nat) : Int) = (B : Int) * (M : Int) := Int.natCast_mul _ _
  omega
/-- what has a common bottom and a bound is not long -/
theorem Dv.sz {M B n : Nat} {q : Rat} (h : Dv M q) (hM : 0 < M) (lo : -((B : Int) : Rat) ≤ q) (hi : q ≤ ((B : Int) : Rat)) (b1 : 1 ≤ B) (fit : B * M < 2 ^ n) : Sz n q := by
  obtain ⟨z, e⟩ := h
  have k := rat_le_abs e lo hi
  have m1 : M ≤ B * M := Nat.le_mul_of_pos_left M b1
  have eq : q = KR.rq z (M : Int) := by
    have h := int_ne (show (M : Int) ≠ 0 by omega)
    unfold KR.rq
    rw [← e]
    generalize ((M : Int) : Rat) = y at *
    grind
  rw [eq]
  exact sz_rq (by omega) (Nat.lt_of_le_of_lt k fit) (by rw [Int.natAbs_natCast]; exact Nat.lt_of_le_of_lt m1 fit)
theorem fit_lt {M B m b n : Nat} (hM : M < 2 ^ m) (hB : B < 2 ^ b) (h : b + m ≤ n) : B * M < 2 ^ n :=
  Nat.lt_of_lt_of_le (by rw [Nat.pow_add]; exact Nat.mul_lt_mul'' hB hM) (Nat.pow_le_pow_right (by decide) h)
theorem Dv.szN {M B n : Nat} {q : Rat} (h : Dv M q) (hM : 0 < M) (lo : 0 ≤ q) (hi : q ≤ ((B : Int) : Rat)) (b1 : 1 ≤ B) (fit : B * M < 2 ^ n) : Sz n q := by
  refine h.sz hM ?_ hi b1 fit
  have := cast_nn (show (0 : Int) ≤ (B : Int) by omega)
  grind
/-- rows of fractions -/
abbrev Fz := Addr × Rat
def rz (l : List Fz) : List V := l.map fun z => V.ref z.1
def FL (K : PySem.W.Frag) (H : Hp) (l : List Fz) : Prop := ∀ z ∈ l, FrQ K H z.1 z.2
theorem FL.same {K : PySem.W.Frag} {H H' : Hp} {l : List Fz} (h : FL K H l) (e : Same H H') : FL K H' l := fun z hz => (h z hz).same e
theorem FL.fr {K : PySem.W.Frag} {H H' : Hp} {p : Addr} {n : Nat} {l : List Fz} (h : FL K H l) (B : BoxAt H p n) (f : Fr p H H') : FL K H' l := fun z hz => (h z hz).fr B f
theorem FL.nil {K : PySem.W.Frag} {H : Hp} : FL K H [] := fun z hz => absurd hz List.not_mem_nil
theorem FL.snoc {K : PySem.W.Frag} {H : Hp} {l : List Fz} {z : Fz} (h : FL K H l) (k : FrQ K H z.1 z.2) : FL K H (l ++ [z]) := fun y hy => by
  rcases List.mem_append.mp hy with m | m
  · exact h y m
  · rw [List.mem_singleton.mp m]
    exact k
theorem FL.put {K : PySem.W.Frag} {H : Hp} {l : List Fz} {p : Addr} {xs ys : List V} (h : FL K H l) (hp : H p = some (.lst xs)) : FL K (upd H p (.lst ys)) l := fun z hz => sqT_frL (h z hz) hp fr_upd
theorem rz_len (l : List Fz) : (rz l).length = l.length := List.length_map _
theorem rz_get {l : List Fz} {i : Nat} {x : V} (h : (rz l)[i]? = some x) : ∃ z, l[i]? = some z ∧ x = .ref z.1 := by
  unfold rz at h
  rw [List.getElem?_map] at h
  cases e : l[i]? with
  | none =>
    rw [e] at h
    cases h
  | some z =>
    rw [e] at h
    exact ⟨z, rfl, (Option.some.inj h).symm⟩
theorem rz_snoc (l : List Fz) (z : Fz) : rz (l ++ [z]) = rz l ++ [.ref z.1] := by
  unfold rz
  rw [List.map_append] <;> rfl
/-- all together -/
def zsum : List Rat → Rat
  | [] => 0
  | q :: r => q + zsum r
theorem zsum_app (a b : List Rat) : zsum (a ++ b) = zsum a + zsum b := by
  induction a with
  | nil =>
    show zsum b = 0 + zsum b
    rw [Rat.zero_add]
  | cons q r ih =>
    show q + zsum (r ++ b) = q + zsum r + zsum b
    rw [ih, Rat.add_assoc]
theorem zsum_one (q : Rat) : zsum [q] = q := Rat.add_zero q
theorem zsum_take {l : List Rat} {i : Nat} {q : Rat} (h : l[i]? = some q) : zsum (l.take (i + 1)) = zsum (l.take i) + q := by
  rw [take_one h, zsum_app, zsum_one]
theorem Dv.all {M : Nat} {l : List Rat} (h : ∀ q ∈ l, Dv M q) : Dv M (zsum l) := by
  induction l with
  | nil => exact .zero
  | cons q r ih => exact (h q List.mem_cons_self).add (ih fun y hy => h y (List.mem_cons_of_mem _ hy))
theorem zsum_nn {l : List Rat} (h : ∀ q ∈ l, 0 ≤ q) : 0 ≤ zsum l := by
  induction l with
  | nil => exact Rat.le_refl
  | cons q r ih =>
    have h1 := h q List.mem_cons_self
    have h2 := ih fun y hy => h y (List.mem_cons_of_mem _ hy)
    show 0 ≤ q + zsum r
    grind
theorem zsum_le {B : Rat} {l : List Rat} (h : ∀ q ∈ l, q ≤ B) : zsum l ≤ ((l.length : Int) : Rat) * B := by
  induction l with
  | nil =>
    show (0 : Rat) ≤ ((0 : Int) : Rat) * B
    have : ((0 : Int) : Rat) = 0 := rfl
    rw [this, Rat.zero_mul]
    exact Rat.le_refl
  | cons q r ih =>
    have h1 := h q List.mem_cons_self
    have h2 := ih fun y hy => h y (List.mem_cons_of_mem _ hy)
    show q + zsum r ≤ (((r.length + 1 : Nat) : Int) : Rat) * B
    have e : (((r.length + 1 : Nat) : Int) : Rat) = ((r.length : Int) : Rat) + 1 := by
      rw [Int.natCast_add, Rat.intCast_add] <;> rfl
    rw [e]
    generalize ((r.length : Int) : Rat) = n at *
    grind
theorem zsum_take_le {l : List Rat} (h : ∀ q ∈ l, 0 ≤ q) (i : Nat) : zsum (l.take i) ≤ zsum l := by
  have e : zsum l = zsum (l.take i) + zsum (l.drop i) := by rw [← zsum_app, List.take_append_drop]
  have k := zsum_nn (l := l.drop i) fun q hq => h q (List.mem_of_mem_drop hq)
  grind
/-- rows of fractions that may be added one after another -/
def AddOk (l : List Rat) : Prop := ∀ i, i ≤ l.length → Big (zsum (l.take i))
/-- a part: from 0 to 1, its bottom at most 12 -/
structure Part (q : Rat) : Prop where
  lo : 0 ≤ q
  hi : q ≤ 1
  bt : q.den ≤ 12
theorem Part.dv {q : Rat} (h : Part q) : Dv 27720 q := by
  refine (Dv.den q).up ?_
  have h1 := h.bt
  have h0 := q.den_pos
  generalize q.den = d at *
  have all : ∀ d, d ≤ 12 → 0 < d → d ∣ 27720 := by decide
  exact all d h1 h0
theorem Part.zero : Part 0 := ⟨Rat.le_refl, by decide, by decide⟩
theorem den_le {t b : Int} (hb : 0 < b) : ((rq t b).den : Int) ≤ b := by
  have e := rq_low (t := t) (b := b) (by omega)
  have k : (low t b).2 = ((rq t b).den : Int) := by rw [e]
  rw [← k]
  show (b.natAbs : Int) / (Nat.gcd t.natAbs b.natAbs : Int) ≤ b
  have g : (0 : Int) < (Nat.gcd t.natAbs b.natAbs : Int) := by
    have := Nat.gcd_pos_of_pos_right t.natAbs (show 0 < b.natAbs by omega)
    omega
  have h := Int.ediv_le_self (a := (b.natAbs : Int)) (Nat.gcd t.natAbs b.natAbs : Int) (by omega)
  omega
theorem Part.rq {t b : Int} (h0 : 0 ≤ t) (h1 : t ≤ b) (hb : 0 < b) (b12 : b ≤ 12) : Part (KR.rq t b) :=
  ⟨rq_nn h0 hb, rq_le_one h1 hb, by have := den_le (t := t) hb; omega⟩
end KR
/-! ### rounds: rows of fractions added, kinds -/
namespace KR
open PySem PySem.Spec PyProof.Rows L2
theorem rz_q {l : List Fz} {i : Nat} {z : Fz} (h : l[i]? = some z) : (l.map (·.2))[i]? = some z.2 := by rw [List.getElem?_map, h] <;> rfl
/-- one after another is added -/
theorem all_loop {K : PySem.W.Frag} {J : It} {G : Hp → Prop} {l : List Fz} {a z0 : Addr} {H H1 : Hp} {D : Ends} {v : Option V} (hw : Walk J (rz l).length G (YAt (rz l))) (hG : ∀ H', Same H H' → G H') (s1 : Same H H1) (h0 : FrQ K H1 z0 0) (hf : FL K H l) (big : ∀ z ∈ l, Big z.2) (add : AddOk (l.map (·.2)))
    (q : ∀ z v H', Same H H' → FrQ K H' z (zsum (l.map (·.2))) → D.nx [some (.ref a), some (.ref z), v] H') :
    ∃ W : Nat → Nat → L2.St → Hp → Prop, (∃ m, W 0 m [some (.ref a), some (.ref z0), v] H1) ∧ ∀ i m σ H, W i m σ H →
      (J.stop i H ∧ D.nx σ H) ∨ (J.go i H ∧ ∃ N : L2.St → Hp → Prop, (∀ σ' H', N σ' H' → ∃ m', m' < m ∧ W (i + 1) m' σ' H') ∧ ∀ x H', J.yld i H x H' → gName 2 x σ H' fun σ2 H2 =>
        tAsg (tCall (sp_w2 K (fun p q => p + q) fun _ _ => True) [] E0 (tCons (tVar 1) (tCons (tVar 2) tNil))) (gName 1) { D with nx := N, ct := N, bk := D.nx } σ2 H2) := by
  refine for_it hw (fun i σ H' => ∃ (z : Addr) (v : Option V), σ = [some (.ref a), some (.ref z), v] ∧ Same H H' ∧ FrQ K H' z (zsum ((l.map (·.2)).take i))) ⟨z0, v, rfl, s1, h0⟩ ?_ ?_ ?_
  · rintro i σ H' _ ⟨z, v, _, s, _⟩
    exact hG H' s
  · rintro i x σ H' H'' hi ⟨z, v, rfl, s, hz⟩ ⟨rfl, hx⟩
    obtain ⟨y, hy, rfl⟩ := rz_get hx
    have my := List.mem_of_getElem? hy
    have il : i < (l.map (·.2)).length := by
      rw [List.length_map]
      exact (List.getElem?_eq_some_iff.mp hy).1
    refine ⟨_, rfl, _, rfl, z, y.1, _, y.2, rfl, hz, (hf y my).same s, add i (Nat.le_of_lt il), big y my, trivial, fun z' H2 s2 n2 h2 => ?_⟩
    refine ⟨z', _, rfl, s.trans s2, ?_⟩
    rw [zsum_take (rz_q hy)]
    exact h2
  · rintro σ H' ⟨z, v, rfl, s, hz⟩
    rw [rz_len] at hz
    have e : (l.map (·.2)).take l.length = l.map (·.2) := by
      rw [← List.length_map (as := l) (·.2), List.take_length]
    rw [e] at hz
    exact q z v H' s hz
theorem part_sz {q : Rat} (h : Part q) : Sz 4 q := by
  have h0 := h.lo
  have h1 := h.hi
  have b := h.bt
  have d0 := q.den_pos
  have n0 : 0 ≤ q.num := Rat.num_nonneg.mpr h0
  have n1 : q.num ≤ (q.den : Int) := by
    have k := (lt_cross 1 q)
    have e : ¬ ((1 : Rat).num * (q.den : Int) < q.num * ((1 : Rat).den : Int)) := fun z => absurd (k.mp z) (by grind)
    have e1 : (1 : Rat).num = 1 := rfl
    have e2 : (((1 : Rat).den : Nat) : Int) = 1 := rfl
    rw [e1, e2] at e
    omega
  exact ⟨by omega, by omega⟩
theorem part_big {q : Rat} (h : Part q) : Big q := (part_sz h).up (by decide)
theorem le_one_iff (q : Rat) : q.num ≤ (q.den : Int) ↔ q ≤ 1 := by
  have k := (lt_cross 1 q)
  have e1 : (1 : Rat).num = 1 := rfl
  have e2 : (((1 : Rat).den : Nat) : Int) = 1 := rfl
  rw [e1, e2, Int.one_mul, Int.mul_one] at k
  constructor
  · intro h
    exact Rat.not_lt.mp fun z => by
      have := k.mpr z
      omega
  · intro h
    exact Int.not_lt.mp fun z => absurd (k.mp z) (Rat.not_lt.mpr h)
theorem sum_big {M B : Nat} {l : List Rat} (dv : ∀ q ∈ l, Dv M q) (lo : ∀ q ∈ l, 0 ≤ q) (hi : zsum l ≤ ((B : Int) : Rat)) (hM : 0 < M) (hB : 1 ≤ B) (fit : B * M < 2 ^ 4400) : AddOk l := fun i _ => by
  have sub : ∀ q ∈ l.take i, q ∈ l := fun q h => List.mem_of_mem_take h
  exact (Dv.all fun q h => dv q (sub q h)).szN hM (zsum_nn fun q h => lo q (sub q h)) (Rat.le_trans (zsum_take_le lo i) hi) hB fit
theorem parts_add {l : List Rat} (h : ∀ q ∈ l, Part q) (len : l.length ≤ 7) : AddOk l := by
  refine sum_big (M := 27720) (B := 7) (fun q hq => (h q hq).dv) (fun q hq => (h q hq).lo) ?_ (by decide) (by decide) (Nat.lt_of_lt_of_le (by decide : 7 * 27720 < 2 ^ 20) (Nat.pow_le_pow_right (by decide) (by decide)))
  have k := zsum_le (B := 1) fun q hq => (h q hq).hi
  have c : ((l.length : Int) : Rat) ≤ ((7 : Int) : Rat) := Rat.intCast_le_intCast.mpr (by omega)
  rw [Rat.mul_one] at k
  exact Rat.le_trans k c
theorem zsum_set {l : List Rat} {i : Nat} {q : Rat} (r : Rat) (h : l[i]? = some q) : zsum (l.set i r) = zsum l - q + r := by
  have lt := (List.getElem?_eq_some_iff.mp h).1
  have e1 : l = l.take i ++ (q :: l.drop (i + 1)) := by
    have := List.take_append_drop i l
    rw [List.drop_eq_getElem_cons lt, (List.getElem?_eq_some_iff.mp h).2] at this
    exact this.symm
  rw [List.set_eq_take_append_cons_drop, if_pos lt, zsum_app]
  have e2 : zsum l = zsum (l.take i) + zsum (q :: l.drop (i + 1)) := by
    rw [← zsum_app, ← e1]
  rw [e2]
  show zsum (l.take i) + (r + zsum (l.drop (i + 1))) = zsum (l.take i) + (q + zsum (l.drop (i + 1))) - q + r
  grind
theorem rz_set (l : List Fz) (i : Nat) (z : Fz) : (rz l).set i (.ref z.1) = rz (l.set i z) := by
  unfold rz
  rw [List.map_set]
theorem cut_rz (l : List Fz) (lo hi : Option Int) : ∃ a b, cutV (rz l) lo hi = rz ((l.drop a).take b) := by
  refine ⟨HT.sIx (rz l).length 0 lo, HT.sIx (rz l).length (rz l).length hi - HT.sIx (rz l).length 0 lo, ?_⟩
  unfold cutV rz
  rw [List.map_take, List.map_drop]
theorem cut_to {xs : List V} {n : Nat} (h : n ≤ xs.length) : cutV xs none (some (n : Int)) = xs.take n := by
  unfold cutV
  rw [HT.sIx_none, HT.sIx_nat, Nat.min_eq_left h, Nat.sub_zero, List.drop_zero]
theorem cut_from {xs : List V} {n : Nat} (h : n ≤ xs.length) : cutV xs (some (n : Int)) none = xs.drop n := by
  unfold cutV
  rw [HT.sIx_none, HT.sIx_nat, Nat.min_eq_left h]
  exact List.take_of_length_le (by rw [List.length_drop]; omega)
theorem rep_rz (k : Nat) (z : Fz) : (List.replicate ((k : Int)).toNat [V.ref z.1]).flatten = rz (List.replicate k z) := by
  rw [Int.toNat_natCast]
  unfold rz
  rw [List.map_replicate]
  induction k with
  | zero => rfl
  | succ k ih =>
    rw [List.replicate_succ, List.flatten_cons, ih, List.replicate_succ] <;> rfl
theorem zsum_rep (k : Nat) : zsum (List.replicate k (0 : Rat)) = 0 := by
  induction k with
  | zero => rfl
  | succ k ih =>
    rw [List.replicate_succ]
    show 0 + zsum (List.replicate k 0) = 0
    rw [ih, Rat.add_zero]
/-- what of drips goes where, as it is drawn -/
structure GoOk (K : PySem.W.Frag) (H : Hp) (k : Nat) (l : List Fz) : Prop where
  fl : FL K H l
  len : l.length = k
  pa : ∀ z ∈ l, Part z.2
  one : zsum (l.map (·.2)) ≤ 1
theorem GoOk.same {K : PySem.W.Frag} {H H' : Hp} {k : Nat} {l : List Fz} (h : GoOk K H k l) (s : Same H H') : GoOk K H' k l := ⟨h.fl.same s, h.len, h.pa, h.one⟩
theorem GoOk.fr {K : PySem.W.Frag} {H H' : Hp} {k n : Nat} {p : Addr} {l : List Fz} (h : GoOk K H k l) (B : BoxAt H p n) (f : Fr p H H') : GoOk K H' k l := ⟨h.fl.fr B f, h.len, h.pa, h.one⟩
theorem mem_q {l : List Fz} {P : Rat → Prop} (h : ∀ z ∈ l, P z.2) : ∀ q ∈ l.map (·.2), P q := fun q hq => by
  obtain ⟨z, hz, rfl⟩ := List.mem_map.mp hq
  exact h z hz
theorem mem_set {l : List Fz} {i : Nat} {z y : Fz} (h : y ∈ l.set i z) : y ∈ l ∨ y = z := List.mem_or_eq_of_mem_set h
theorem rz_take (l : List Fz) (n : Nat) : (rz l).take n = rz (l.take n) := by
  unfold rz
  rw [List.map_take]
theorem rz_drop (l : List Fz) (n : Nat) : (rz l).drop n = rz (l.drop n) := by
  unfold rz
  rw [List.map_drop]
theorem rz_app (l m : List Fz) : rz (l ++ m) = rz l ++ rz m := by
  unfold rz
  rw [List.map_append]
theorem fr_new {p c : Addr} {H H' : Hp} (F : Fr p H H') (n : H' c = none) (ne : c ≠ p) : H c = none := by
  cases e : H c with
  | none => rfl
  | some o =>
    have k := F _ _ ne e
    rw [n] at k
    cases k
theorem goes_sum {l : List Fz} {an : Nat} {y : Fz} {d : Addr} {bt lf tp : Int} (ga : l[an]? = some y) (y0 : y.2 = 0) (inv : zsum (l.map (·.2)) * ((bt : Int) : Rat) = ((bt - lf : Int) : Rat)) (t0 : 0 ≤ tp) (t1 : tp ≤ lf) (lf1 : lf ≤ bt) (b0 : 0 < bt) :
    zsum ((l.set an (d, rq tp bt)).map (·.2)) * ((bt : Int) : Rat) = ((bt - (lf - tp) : Int) : Rat) ∧ zsum ((l.set an (d, rq tp bt)).map (·.2)) ≤ 1 := by
  have e : (l.set an (d, rq tp bt)).map (·.2) = (l.map (·.2)).set an (rq tp bt) := by rw [List.map_set]
  have k := zsum_set (rq tp bt) (rz_q ga)
  rw [e, k, y0]
  have hb := int_ne (show bt ≠ 0 by omega)
  have er : rq tp bt * (bt : Rat) = (tp : Rat) := by
    unfold rq
    generalize (tp : Rat) = x
    generalize (bt : Rat) = z at *
    grind
  have e1 : (zsum (l.map (·.2)) - 0 + rq tp bt) * (bt : Rat) = ((bt - (lf - tp) : Int) : Rat) := by
    rw [Rat.intCast_sub] at inv
    rw [Rat.intCast_sub, Rat.intCast_sub]
    generalize zsum (l.map (·.2)) = s at *
    generalize rq tp bt = r at *
    generalize (tp : Rat) = x at *
    generalize (bt : Rat) = z at *
    generalize (lf : Rat) = w at *
    grind
  refine ⟨e1, ?_⟩
  have bp := cast_pos b0
  have le : ((bt - (lf - tp) : Int) : Rat) ≤ ((bt : Int) : Rat) := Rat.intCast_le_intCast.mpr (by omega)
  refine Rat.not_lt.mp fun z => ?_
  have m := Rat.mul_lt_mul_of_pos_right z bp
  rw [e1, Rat.one_mul] at m
  exact absurd le (Rat.not_le.mpr m)
/-- a kind: where it stands, what it tells -/
structure Kn where
  a : Addr
  d : Addr
  g : Addr
  fresh : Int
  drip : Rat
  goes : List Fz
structure KnOk (K : PySem.W.Frag) (H : Hp) (n : Nat) (k : Kn) : Prop where
  at_ : SqT K H k.a [.int k.fresh, .ref k.d, .ref k.g]
  dr : FrQ K H k.d k.drip
  gs : SqT K H k.g (rz k.goes)
  go : GoOk K H n k.goes
  pd : Part k.drip
  f0 : 0 ≤ k.fresh
  f1 : k.fresh ≤ 1000000
def KnL (K : PySem.W.Frag) (H : Hp) (n : Nat) (ks : List Kn) : Prop := ∀ k ∈ ks, KnOk K H n k
def rk (ks : List Kn) : List V := ks.map fun k => V.ref k.a
theorem rk_len (l : List Kn) : (rk l).length = l.length := List.length_map _
theorem rk_get {l : List Kn} {i : Nat} {x : V} (h : (rk l)[i]? = some x) : ∃ k, l[i]? = some k ∧ x = .ref k.a := by
  unfold rk at h
  rw [List.getElem?_map] at h
  cases e : l[i]? with
  | none =>
    rw [e] at h
    cases h
  | some k =>
    rw [e] at h
    exact ⟨k, rfl, (Option.some.inj h).symm⟩
theorem KnOk.same {K : PySem.W.Frag} {H H' : Hp} {n : Nat} {k : Kn} (h : KnOk K H n k) (s : Same H H') : KnOk K H' n k := ⟨Same.tup s h.at_, h.dr.same s, Same.tup s h.gs, h.go.same s, h.pd, h.f0, h.f1⟩
theorem KnOk.fr {K : PySem.W.Frag} {H H' : Hp} {n m : Nat} {p : Addr} {k : Kn} (h : KnOk K H n k) (B : BoxAt H p m) (f : Fr p H H') : KnOk K H' n k := ⟨sqT_fr h.at_ B f, h.dr.fr B f, sqT_fr h.gs B f, h.go.fr B f, h.pd, h.f0, h.f1⟩
theorem KnOk.put {K : PySem.W.Frag} {H : Hp} {n : Nat} {k : Kn} {q : Addr} {xs ys : List V} (h : KnOk K H n k) (hq : H q = some (.lst xs)) : KnOk K (upd H q (.lst ys)) n k :=
  ⟨sqT_frL h.at_ hq fr_upd, sqT_frL h.dr hq fr_upd, sqT_frL h.gs hq fr_upd, ⟨h.go.fl.put hq, h.go.len, h.go.pa, h.go.one⟩, h.pd, h.f0, h.f1⟩
theorem KnL.same {K : PySem.W.Frag} {H H' : Hp} {n : Nat} {ks : List Kn} (h : KnL K H n ks) (s : Same H H') : KnL K H' n ks := fun k hk => (h k hk).same s
theorem KnL.fr {K : PySem.W.Frag} {H H' : Hp} {n m : Nat} {p : Addr} {ks : List Kn} (h : KnL K H n ks) (B : BoxAt H p m) (f : Fr p H H') : KnL K H' n ks := fun k hk => (h k hk).fr B f
/-- an amount that is drawn -/
structure AmQ (q : Rat) : Prop where
  lo : 0 ≤ q
  hi : q ≤ (((10 ^ 40 : Nat) : Int) : Rat)
  bt : q.den ≤ 10 ^ 40
theorem rq_le {t b : Int} (h0 : 0 ≤ t) (hb : 1 ≤ b) : rq t b ≤ (t : Rat) := by
  have h1 := cast_pos (show 0 < b by omega)
  have h2 : ((1 : Int) : Rat) ≤ (b : Rat) := Rat.intCast_le_intCast.mpr hb
  have h3 := cast_nn h0
  unfold rq
  refine div_le h1 ?_
  have k := Rat.mul_le_mul_of_nonneg_left h2 h3
  have e : (t : Rat) * ((1 : Int) : Rat) = (t : Rat) := Rat.mul_one _
  rw [e] at k
  exact k
theorem AmQ.rq {t b : Int} (t0 : 0 ≤ t) (t1 : t ≤ 10 ^ 40) (b1 : 1 ≤ b) (b2 : b ≤ 10 ^ 40) : AmQ (KR.rq t b) := by
  refine ⟨rq_nn t0 (by omega), Rat.le_trans (rq_le t0 b1) (Rat.intCast_le_intCast.mpr (by omega)), ?_⟩
  have k := den_le (t := t) (show 0 < b by omega)
  omega
theorem AmQ.zero : AmQ 0 := ⟨Rat.le_refl, by decide, by decide⟩
/-- what a kind tells -/
structure Kq where
  fresh : Int
  drip : Rat
  goes : List Rat
def Kn.q (k : Kn) : Kq := ⟨k.fresh, k.drip, k.goes.map (·.2)⟩
def comes (ks : List Kq) (qs : List Rat) (p : Nat) : List Rat := List.zipWith (fun q k => q * k.drip * k.goes.getD p 0) qs ks
def onceAt (ks : List Kq) (qs : List Rat) (p : Nat) : Rat := (((ks.map (·.fresh)).getD p 0 : Int) : Rat) + zsum (comes ks qs p)
def onceQ (ks : List Kq) (qs : List Rat) : List Rat := (List.range ks.length).map (onceAt ks qs)
theorem once_len (ks : List Kq) (qs : List Rat) : (onceQ ks qs).length = ks.length := by
  unfold onceQ
  rw [List.length_map, List.length_range]
theorem once_get {ks : List Kq} {qs : List Rat} {i : Nat} (h : i < ks.length) : (onceQ ks qs)[i]? = some (onceAt ks qs i) := by
  unfold onceQ
  rw [List.getElem?_map, List.getElem?_range h] <;> rfl
theorem comes_get {ks : List Kq} {qs : List Rat} {p j : Nat} {q : Rat} {k : Kq} (h1 : qs[j]? = some q) (h2 : ks[j]? = some k) : (comes ks qs p)[j]? = some (q * k.drip * k.goes.getD p 0) := by
  unfold comes
  rw [List.getElem?_zipWith, h1, h2]
theorem comes_len {ks : List Kq} {qs : List Rat} {p : Nat} (h : qs.length = ks.length) : (comes ks qs p).length = ks.length := by
  unfold comes
  rw [List.length_zipWith, h, Nat.min_self]
theorem comes_mem {ks : List Kq} {qs : List Rat} {p : Nat} {r : Rat} (h : r ∈ comes ks qs p) : ∃ q ∈ qs, ∃ k ∈ ks, r = q * k.drip * k.goes.getD p 0 := by
  obtain ⟨j, hj, e⟩ := List.getElem_of_mem h
  have hj' : j < (List.zipWith (fun q (k : Kq) => q * k.drip * k.goes.getD p 0) qs ks).length := hj
  rw [List.length_zipWith] at hj'
  have a : j < qs.length := by omega
  have b : j < ks.length := by omega
  have g := comes_get (p := p) (List.getElem?_eq_getElem a) (List.getElem?_eq_getElem b)
  rw [List.getElem?_eq_getElem hj, e] at g
  exact ⟨_, List.getElem_mem a, _, List.getElem_mem b, Option.some.inj g⟩
/-- kinds as they may be -/
structure KqOk (k : Kq) : Prop where
  pd : Part k.drip
  pg : ∀ q ∈ k.goes, Part q
  f0 : 0 ≤ k.fresh
  f1 : k.fresh ≤ 1000000
theorem KnOk.q {K : PySem.W.Frag} {H : Hp} {n : Nat} {k : Kn} (h : KnOk K H n k) : KqOk k.q := ⟨h.pd, mem_q h.go.pa, h.f0, h.f1⟩
theorem KqOk.at_ {k : Kq} (h : KqOk k) (p : Nat) : Part (k.goes.getD p 0) := by
  by_cases lt : p < k.goes.length
  · rw [List.getD_eq_getElem?_getD, List.getElem?_eq_getElem lt]
    exact h.pg _ (List.getElem_mem lt)
  · rw [List.getD_eq_getElem?_getD, List.getElem?_eq_none (by omega)]
    exact Part.zero
/-- amounts that have a common bottom and a bound -/
structure AmOk (M B : Nat) (qs : List Rat) : Prop where
  dv : ∀ q ∈ qs, Dv M q
  lo : ∀ q ∈ qs, 0 ≤ q
  hi : ∀ q ∈ qs, q ≤ ((B : Int) : Rat)
  hM : 0 < M
  hB : 1 ≤ B
  fit0 : (6 * B + 1000000) * (M * 768398400) < 2 ^ 4300
section
variable {M B : Nat} {qs : List Rat}
theorem AmOk.fit (a : AmOk M B qs) : (6 * B + 1000000) * (M * 768398400) < 2 ^ 4400 := Nat.lt_of_lt_of_le a.fit0 (Nat.pow_le_pow_right (by decide) (by decide))
theorem AmOk.big (a : AmOk M B qs) {N : Nat} {q : Rat} (h : Dv N q) (d : N ∣ M * 768398400) (lo : 0 ≤ q) (hi : q ≤ ((6 * B + 1000000 : Nat) : Int)) : Big q :=
  (h.up d).szN (Nat.mul_pos a.hM (by decide)) lo hi (by omega) a.fit
theorem AmOk.up {a : AmOk M B qs} {q : Rat} (h : q ≤ ((B : Int) : Rat)) : q ≤ ((6 * B + 1000000 : Nat) : Int) := Rat.le_trans h (Rat.intCast_le_intCast.mpr (by omega))
theorem AmOk.one (a : AmOk M B qs) {q : Rat} (h : q ∈ qs) : Big q := a.big (a.dv q h) (Nat.dvd_mul_right _ _) (a.lo q h) (AmOk.up (a := a) (a.hi q h))
theorem mul_part {q r : Rat} {b : Rat} (q0 : 0 ≤ q) (qb : q ≤ b) (r0 : 0 ≤ r) (r1 : r ≤ 1) : 0 ≤ q * r ∧ q * r ≤ b := by
  have k1 := Rat.mul_nonneg q0 r0
  have k2 := Rat.mul_nonneg q0 (show 0 ≤ 1 - r by grind)
  have e : q * (1 - r) = q - q * r := by grind
  rw [e] at k2
  exact ⟨k1, by grind⟩
theorem AmOk.drips (a : AmOk M B qs) {q r : Rat} (h : q ∈ qs) (p : Part r) : Dv (M * 27720) (q * r) ∧ 0 ≤ q * r ∧ q * r ≤ ((B : Int) : Rat) :=
  ⟨(a.dv q h).mul p.dv, mul_part (a.lo q h) (a.hi q h) p.lo p.hi⟩
theorem AmOk.drips_big (a : AmOk M B qs) {q r : Rat} (h : q ∈ qs) (p : Part r) : Big (q * r) := by
  obtain ⟨d, l, u⟩ := a.drips h p
  exact a.big d ⟨27720, by rw [Nat.mul_assoc]⟩ l (AmOk.up (a := a) u)
theorem AmOk.comes (a : AmOk M B qs) {q r g : Rat} (h : q ∈ qs) (p : Part r) (pg : Part g) : Dv (M * 768398400) (q * r * g) ∧ 0 ≤ q * r * g ∧ q * r * g ≤ ((B : Int) : Rat) := by
  obtain ⟨d, l, u⟩ := a.drips h p
  have k := d.mul pg.dv
  rw [Nat.mul_assoc] at k
  exact ⟨k, mul_part l u pg.lo pg.hi⟩
theorem AmOk.comes_big (a : AmOk M B qs) {q r g : Rat} (h : q ∈ qs) (p : Part r) (pg : Part g) : Big (q * r * g) := by
  obtain ⟨d, l, u⟩ := a.comes h p pg
  exact a.big d (Nat.dvd_refl _) l (AmOk.up (a := a) u)
theorem AmOk.all (a : AmOk M B qs) {ks : List Kq} (hk : ∀ k ∈ ks, KqOk k) (p : Nat) (r : Rat) (h : r ∈ KR.comes ks qs p) : Dv (M * 768398400) r ∧ 0 ≤ r ∧ r ≤ ((B : Int) : Rat) := by
  obtain ⟨q, hq, k, hkm, rfl⟩ := comes_mem h
  exact a.comes hq (hk k hkm).pd ((hk k hkm).at_ p)
theorem AmOk.sum_le (a : AmOk M B qs) {ks : List Kq} (hk : ∀ k ∈ ks, KqOk k) (l6 : ks.length ≤ 6) (lq : qs.length = ks.length) (p : Nat) : zsum (KR.comes ks qs p) ≤ ((6 * B : Nat) : Int) := by
  have k := zsum_le (B := ((B : Int) : Rat)) fun r h => (a.all hk p r h).2.2
  rw [comes_len lq, ← Rat.intCast_mul] at k
  refine Rat.le_trans k (Rat.intCast_le_intCast.mpr ?_)
  have : ks.length * B ≤ 6 * B := Nat.mul_le_mul_right _ l6
  exact_mod_cast this
theorem AmOk.add (a : AmOk M B qs) {ks : List Kq} (hk : ∀ k ∈ ks, KqOk k) (l6 : ks.length ≤ 6) (lq : qs.length = ks.length) (p : Nat) : AddOk (KR.comes ks qs p) :=
  sum_big (M := M * 768398400) (B := 6 * B) (fun r h => (a.all hk p r h).1) (fun r h => (a.all hk p r h).2.1) (a.sum_le hk l6 lq p) (Nat.mul_pos a.hM (by decide)) (by have := a.hB; omega)
    (Nat.lt_of_le_of_lt (Nat.mul_le_mul_right _ (by omega)) a.fit)
theorem AmOk.sum_big (a : AmOk M B qs) {ks : List Kq} (hk : ∀ k ∈ ks, KqOk k) (l6 : ks.length ≤ 6) (lq : qs.length = ks.length) (p : Nat) : Big (zsum (KR.comes ks qs p)) :=
  a.big (Dv.all fun r h => (a.all hk p r h).1) (Nat.dvd_refl _) (zsum_nn fun r h => (a.all hk p r h).2.1) (Rat.le_trans (a.sum_le hk l6 lq p) (Rat.intCast_le_intCast.mpr (by omega)))
end
theorem fresh_big {z : Int} (h0 : 0 ≤ z) (h1 : z ≤ 1000000) : Big (z : Rat) := Sz.up (n := 20) (Sz.int (by omega) (by decide)) (by decide)
theorem getD_fresh {ks : List Kn} {i : Nat} {k : Kn} (h : ks[i]? = some k) : ((ks.map Kn.q).map (·.fresh)).getD i 0 = k.fresh := by
  rw [List.getD_eq_getElem?_getD, List.getElem?_map, List.getElem?_map, h] <;> rfl
theorem getD_goes {k : Kn} {i : Nat} {z : Fz} (h : k.goes[i]? = some z) : k.q.goes.getD i 0 = z.2 := by
  show (k.goes.map (·.2)).getD i 0 = z.2
  rw [List.getD_eq_getElem?_getD, rz_q h] <;> rfl
theorem kq_mem {K : PySem.W.Frag} {H : Hp} {n : Nat} {ks : List Kn} (L : KnL K H n ks) : ∀ k ∈ ks.map Kn.q, KqOk k := fun k h => by
  obtain ⟨y, hy, rfl⟩ := List.mem_map.mp h
  exact (L y hy).q
/-- what drips of each -/
def dripsQ (ks : List Kq) (qs : List Rat) : List Rat := List.zipWith (fun q k => q * k.drip) qs ks
theorem drips_get {ks : List Kq} {qs : List Rat} {j : Nat} {q : Rat} {k : Kq} (h1 : qs[j]? = some q) (h2 : ks[j]? = some k) : (dripsQ ks qs)[j]? = some (q * k.drip) := by
  unfold dripsQ
  rw [List.getElem?_zipWith, h1, h2]
theorem drips_len {ks : List Kq} {qs : List Rat} (h : qs.length = ks.length) : (dripsQ ks qs).length = ks.length := by
  unfold dripsQ
  rw [List.length_zipWith, h, Nat.min_self]
/-- what stays of each in the round -/
def keptQ (ks : List Kq) (qs : List Rat) : List Rat := List.zipWith (fun q k => q * k.drip * zsum k.goes) qs ks
theorem kept_get {ks : List Kq} {qs : List Rat} {j : Nat} {q : Rat} {k : Kq} (h1 : qs[j]? = some q) (h2 : ks[j]? = some k) : (keptQ ks qs)[j]? = some (q * k.drip * zsum k.goes) := by
  unfold keptQ
  rw [List.getElem?_zipWith, h1, h2]
theorem kept_len {ks : List Kq} {qs : List Rat} (h : qs.length = ks.length) : (keptQ ks qs).length = ks.length := by
  unfold keptQ
  rw [List.length_zipWith, h, Nat.min_self]
theorem kept_mem {ks : List Kq} {qs : List Rat} {r : Rat} (h : r ∈ keptQ ks qs) : ∃ q ∈ qs, ∃ k ∈ ks, r = q * k.drip * zsum k.goes := by
  obtain ⟨j, hj, e⟩ := List.getElem_of_mem h
  have hj' : j < (List.zipWith (fun q (k : Kq) => q * k.drip * zsum k.goes) qs ks).length := hj
  rw [List.length_zipWith] at hj'
  have g := kept_get (List.getElem?_eq_getElem (show j < qs.length by omega)) (List.getElem?_eq_getElem (show j < ks.length by omega))
  rw [List.getElem?_eq_getElem hj, e] at g
  exact ⟨_, List.getElem_mem _, _, List.getElem_mem _, Option.some.inj g⟩
theorem zsum_add {α : Type} (f g : α → Rat) (l : List α) : zsum (l.map fun x => f x + g x) = zsum (l.map f) + zsum (l.map g) := by
  induction l with
  | nil => exact (Rat.add_zero 0).symm
  | cons x r ih =>
    show f x + g x + zsum (r.map fun x => f x + g x) = f x + zsum (r.map f) + (g x + zsum (r.map g))
    rw [ih]
    grind
theorem zsum_mul {α : Type} (c : Rat) (f : α → Rat) (l : List α) : zsum (l.map fun x => c * f x) = c * zsum (l.map f) := by
  induction l with
  | nil => exact (Rat.mul_zero c).symm
  | cons x r ih =>
    show c * f x + zsum (r.map fun x => c * f x) = c * (f x + zsum (r.map f))
    rw [ih]
    grind
theorem zsum_nil {α : Type} (l : List α) : zsum (l.map fun _ => (0 : Rat)) = 0 := by
  induction l with
  | nil => rfl
  | cons x r ih =>
    show 0 + zsum (r.map fun _ => (0 : Rat)) = 0
    rw [ih, Rat.add_zero]
theorem range_getD (l : List Rat) : (List.range l.length).map (fun p => l.getD p 0) = l := by
  refine List.ext_getElem (by rw [List.length_map, List.length_range]) fun i h1 h2 => ?_
  rw [List.getElem_map, List.getElem_range, List.getD_eq_getElem?_getD, List.getElem?_eq_getElem h2] <;> rfl
theorem comes_sum (n : Nat) : ∀ (ks : List Kq) (qs : List Rat), (∀ k ∈ ks, k.goes.length = n) → zsum ((List.range n).map fun p => zsum (comes ks qs p)) = zsum (keptQ ks qs)
  | [], qs, _ => by
    have e : ∀ p, comes [] qs p = [] := fun p => by
      unfold comes
      cases qs <;> rfl
    have e2 : keptQ [] qs = [] := by
      unfold keptQ
      cases qs <;> rfl
    rw [e2]
    simp only [e]
    exact zsum_nil _
  | k :: ks, [], _ => by
    have e : ∀ p, comes (k :: ks) [] p = [] := fun p => rfl
    simp only [e]
    exact zsum_nil _
  | k :: ks, q :: qs, h => by
    have ih := comes_sum n ks qs fun y hy => h y (List.mem_cons_of_mem _ hy)
    have e : ∀ p, zsum (comes (k :: ks) (q :: qs) p) = q * k.drip * k.goes.getD p 0 + zsum (comes ks qs p) := fun p => rfl
    simp only [e]
    rw [zsum_add, ih, zsum_mul]
    have hk := h k List.mem_cons_self
    have eg := range_getD k.goes
    rw [hk] at eg
    rw [eg] <;> rfl
theorem isum_cast (l : List Int) : zsum (l.map fun z : Int => (z : Rat)) = ((l.sum : Int) : Rat) := by
  induction l with
  | nil => rfl
  | cons z r ih =>
    show (z : Rat) + zsum (r.map fun z : Int => (z : Rat)) = _
    rw [ih, List.sum_cons, Rat.intCast_add]
theorem once_sum {ks : List Kq} {qs : List Rat} (hg : ∀ k ∈ ks, k.goes.length = ks.length) : zsum (onceQ ks qs) = zsum (keptQ ks qs) + (((ks.map (·.fresh)).sum : Int) : Rat) := by
  unfold onceQ onceAt
  rw [zsum_add, comes_sum _ ks qs hg, Rat.add_comm]
  congr 1
  rw [← isum_cast]
  congr 1
  refine List.ext_getElem (by rw [List.length_map, List.length_range, List.length_map, List.length_map]) fun i h1 h2 => ?_
  have hi : i < ks.length := by
    rw [List.length_map, List.length_range] at h1
    exact h1
  rw [List.getElem_map, List.getElem_range, List.getElem_map, List.getD_eq_getElem?_getD, List.getElem?_eq_getElem (by rw [List.length_map]; exact hi)] <;> rfl
section
variable {M B : Nat} {qs : List Rat}
theorem AmOk.kept (a : AmOk M B qs) {q r : Rat} {g : List Rat} (h : q ∈ qs) (p : Part r) (pg : ∀ x ∈ g, Part x) (g1 : zsum g ≤ 1) : Dv (M * 768398400) (q * r * zsum g) ∧ 0 ≤ q * r * zsum g ∧ q * r * zsum g ≤ ((B : Int) : Rat) := by
  obtain ⟨d, l, u⟩ := a.drips h p
  have k := d.mul (Dv.all fun x hx => (pg x hx).dv)
  rw [Nat.mul_assoc] at k
  exact ⟨k, mul_part l u (zsum_nn fun x hx => (pg x hx).lo) g1⟩
theorem AmOk.once (a : AmOk M B qs) {ks : List Kq} (hk : ∀ k ∈ ks, KqOk k) (l6 : ks.length ≤ 6) (lq : qs.length = ks.length) (r : Rat) (h : r ∈ onceQ ks qs) : Dv (M * 768398400) r ∧ 0 ≤ r ∧ r ≤ ((6 * B + 1000000 : Nat) : Int) := by
  unfold onceQ at h
  obtain ⟨p, hp, rfl⟩ := List.mem_map.mp h
  have fr : 0 ≤ (ks.map (·.fresh)).getD p 0 ∧ (ks.map (·.fresh)).getD p 0 ≤ 1000000 := by
    rw [List.getD_eq_getElem?_getD, List.getElem?_map]
    cases e : ks[p]? with
    | none => exact ⟨by decide, by decide⟩
    | some k =>
      have m := List.mem_of_getElem? e
      exact ⟨(hk k m).f0, (hk k m).f1⟩
  have c1 := Dv.all fun r h => (a.all hk p r h).1
  have c2 := zsum_nn fun r h => (a.all hk p r h).2.1
  have c3 := a.sum_le hk l6 lq p
  have f0 := cast_nn fr.1
  have f1 : (((ks.map (·.fresh)).getD p 0 : Int) : Rat) ≤ ((1000000 : Int) : Rat) := Rat.intCast_le_intCast.mpr fr.2
  refine ⟨(Dv.int _).add c1, ?_, ?_⟩
  · unfold onceAt
    grind
  · have e : ((6 * B + 1000000 : Nat) : Int) = ((6 * B : Nat) : Int) + (1000000 : Int) := by omega
    unfold onceAt
    rw [e, Rat.intCast_add]
    grind
theorem AmOk.once_big (a : AmOk M B qs) {ks : List Kq} (hk : ∀ k ∈ ks, KqOk k) (l6 : ks.length ≤ 6) (lq : qs.length = ks.length) (r : Rat) (h : r ∈ onceQ ks qs) : Big r := by
  obtain ⟨d, l, u⟩ := a.once hk l6 lq r h
  exact a.big d (Nat.dvd_refl _) l u
/-- several of them together -/
theorem AmOk.many (a : AmOk M B qs) {l : List Rat} (h : ∀ r ∈ l, Dv (M * 768398400) r ∧ 0 ≤ r ∧ r ≤ ((6 * B + 1000000 : Nat) : Int)) (len : l.length ≤ 20) : AddOk l ∧ Dv (M * 768398400) (zsum l) ∧ 0 ≤ zsum l ∧ Big (zsum l) := by
  have s : zsum l ≤ ((20 * (6 * B + 1000000) : Nat) : Int) := by
    have k := zsum_le fun r hr => (h r hr).2.2
    rw [← Rat.intCast_mul] at k
    refine Rat.le_trans k (Rat.intCast_le_intCast.mpr ?_)
    have : l.length * (6 * B + 1000000) ≤ 20 * (6 * B + 1000000) := Nat.mul_le_mul_right _ len
    exact_mod_cast this
  have fit : 20 * (6 * B + 1000000) * (M * 768398400) < 2 ^ 4400 := by
    have k := a.fit0
    rw [Nat.mul_assoc]
    have e : (2 : Nat) ^ 4400 = 2 ^ 100 * 2 ^ 4300 := by rw [← Nat.pow_add]
    rw [e]
    exact Nat.lt_of_lt_of_le (Nat.mul_lt_mul_of_pos_left k (by decide)) (Nat.mul_le_mul_right _ (by decide))
  have pos := Nat.mul_pos a.hM (show 0 < 768398400 by decide)
  have d := Dv.all fun r hr => (h r hr).1
  have nn := zsum_nn fun r hr => (h r hr).2.1
  exact ⟨KR.sum_big (fun r hr => (h r hr).1) (fun r hr => (h r hr).2.1) s pos (by omega) fit, d, nn, d.szN pos nn s (by omega) fit⟩
end
/-- all bottoms together -/
def prodD : List Rat → Nat
  | [] => 1
  | q :: r => q.den * prodD r
theorem prodD_pos : ∀ l : List Rat, 0 < prodD l
  | [] => Nat.one_pos
  | q :: r => Nat.mul_pos q.den_pos (prodD_pos r)
theorem prodD_dvd : ∀ {l : List Rat} {q : Rat}, q ∈ l → q.den ∣ prodD l
  | x :: r, q, h => by
    rcases List.mem_cons.mp h with e | e
    · rw [e]
      exact Nat.dvd_mul_right _ _
    · exact Nat.dvd_trans (prodD_dvd e) (Nat.dvd_mul_left _ _)
theorem prodD_lt : ∀ {l : List Rat}, (∀ q ∈ l, q.den ≤ 10 ^ 40) → prodD l ≤ (10 ^ 40) ^ l.length
  | [], _ => Nat.le_refl _
  | q :: r, h => by
    have ih := prodD_lt (l := r) fun y hy => h y (List.mem_cons_of_mem _ hy)
    rw [List.length_cons, Nat.pow_succ, Nat.mul_comm ((10 ^ 40) ^ r.length)]
    exact Nat.mul_le_mul (h q List.mem_cons_self) ih
theorem am_ok {qs : List Rat} (h : ∀ q ∈ qs, AmQ q) (len : qs.length ≤ 6) : AmOk (prodD qs) (10 ^ 40) qs where
  dv := fun q hq => (Dv.den q).up (prodD_dvd hq)
  lo := fun q hq => (h q hq).lo
  hi := fun q hq => (h q hq).hi
  hM := prodD_pos qs
  hB := by decide
  fit0 := by
    have k := prodD_lt fun q hq => (h q hq).bt
    have k2 : prodD qs ≤ (10 ^ 40) ^ 6 := Nat.le_trans k (Nat.pow_le_pow_right (by decide) len)
    refine Nat.lt_of_le_of_lt (Nat.mul_le_mul_left _ (Nat.mul_le_mul_right _ k2)) (Nat.lt_of_lt_of_le (by decide : (6 * 10 ^ 40 + 1000000) * ((10 ^ 40) ^ 6 * 768398400) < 2 ^ 1000) (Nat.pow_le_pow_right (by decide) (by decide)))
/-! data -/
def dkn (k : Kn) : PyData := .tuple [.int k.fresh, dq k.drip, .tuple (k.goes.map fun z => dq z.2)]
theorem FL.dps {K : PySem.W.Frag} {H : Hp} : ∀ {l : List Fz}, FL K H l → DpAll K H (rz l) (l.map fun z => dq z.2)
  | [], _ => .nil
  | z :: r, h => .cons (h z List.mem_cons_self).dp (FL.dps fun y hy => h y (List.mem_cons_of_mem _ hy))
theorem KnOk.dp {K : PySem.W.Frag} {H : Hp} {n : Nat} {k : Kn} (h : KnOk K H n k) : Dp K H (.ref k.a) (dkn k) := .tup h.at_ (.cons (.int _) (.cons h.dr.dp (.cons (.tup h.gs h.go.fl.dps) .nil)))
theorem KnL.dps {K : PySem.W.Frag} {H : Hp} {n : Nat} : ∀ {ks : List Kn}, KnL K H n ks → DpAll K H (rk ks) (ks.map dkn)
  | [], _ => .nil
  | z :: r, h => .cons (h z List.mem_cons_self).dp (KnL.dps fun y hy => h y (List.mem_cons_of_mem _ hy))
/-- data that can be compared -/
def Flat (m : Nat) (d : PyData) : Prop := PyData.canLay0 d = true ∧ PyData.depth d ≤ m
theorem flat_all {m : Nat} : ∀ {ds : List PyData}, (∀ d ∈ ds, Flat m d) → PyData.canLayAll0 ds = true ∧ PyData.depthAll ds ≤ m
  | [], _ => ⟨rfl, Nat.zero_le _⟩
  | d :: r, h => by
    obtain ⟨h1, h2⟩ := h d List.mem_cons_self
    obtain ⟨i1, i2⟩ := flat_all (ds := r) fun y hy => h y (List.mem_cons_of_mem _ hy)
    refine ⟨?_, Nat.max_le.mpr ⟨h2, i2⟩⟩
    show (PyData.canLay0 d && PyData.canLayAll0 r) = true
    rw [h1, i1] <;> rfl
theorem flat_list {m : Nat} {ds : List PyData} (h : ∀ d ∈ ds, Flat m d) : Flat (m + 1) (.list ds) := ⟨(flat_all h).1, Nat.succ_le_succ (flat_all h).2⟩
theorem flat_tup {m : Nat} {ds : List PyData} (h : ∀ d ∈ ds, Flat m d) : Flat (m + 1) (.tuple ds) := ⟨(flat_all h).1, Nat.succ_le_succ (flat_all h).2⟩
theorem flat_shaped {m : Nat} {d : PyData} (h : Flat m d) (le : m ≤ 64) : SeqAt.shaped d = true := by
  show (PyData.canLay0 d && decide (PyData.depth d ≤ 64)) = true
  rw [h.1, decide_eq_true (Nat.le_trans h.2 le)] <;> rfl
theorem flat_q (q : Rat) : Flat 1 (dq q) := ⟨rfl, Nat.le_refl _⟩
theorem flat_up {m n : Nat} {d : PyData} (h : Flat m d) (le : m ≤ n) : Flat n d := ⟨h.1, Nat.le_trans h.2 le⟩
theorem flat_qs (l : List Fz) : ∀ d ∈ (l.map fun z => dq z.2), Flat 1 d := fun d hd => by
  obtain ⟨z, _, rfl⟩ := List.mem_map.mp hd
  exact flat_q z.2
theorem flat_kn (k : Kn) : Flat 3 (dkn k) := flat_tup fun d hd => by
  simp only [List.mem_cons, List.not_mem_nil, or_false] at hd
  rcases hd with rfl | rfl | rfl
  · exact ⟨rfl, by show 0 ≤ 2; decide⟩
  · exact flat_up (flat_q _) (by decide)
  · exact flat_tup (flat_qs _)
theorem flat_kns (ks : List Kn) : ∀ d ∈ ks.map dkn, Flat 3 d := fun d hd => by
  obtain ⟨k, _, rfl⟩ := List.mem_map.mp hd
  exact flat_kn k
/-- kinds and amounts beside one another -/
def dka (ks : List Kn) (am : List Fz) : PyData := .list [.list (ks.map dkn), .list (am.map fun z => dq z.2)]
theorem dka_shaped (ks : List Kn) (am : List Fz) : SeqAt.shaped (dka ks am) = true := flat_shaped (m := 5) (flat_list fun d hd => by
  simp only [List.mem_cons, List.not_mem_nil, or_false] at hd
  rcases hd with rfl | rfl
  · exact flat_list (flat_kns ks)
  · exact flat_up (flat_list (flat_qs am)) (by decide)) (by decide)
/-- what doesn't drip of each; what is sold of each -/
def loavesQ (ks : List Kq) (qs : List Rat) : List Rat := List.zipWith (fun q k => q - q * k.drip) qs ks
def soldQ (ks : List Kq) (qs : List Rat) : List Rat := List.zipWith (fun q k => q * k.drip * (1 - zsum k.goes)) qs ks
theorem zw_get {f : Rat → Kq → Rat} {ks : List Kq} {qs : List Rat} {j : Nat} {q : Rat} {k : Kq} (h1 : qs[j]? = some q) (h2 : ks[j]? = some k) : (List.zipWith f qs ks)[j]? = some (f q k) := by
  rw [List.getElem?_zipWith, h1, h2]
theorem zw_len {f : Rat → Kq → Rat} {ks : List Kq} {qs : List Rat} (h : qs.length = ks.length) : (List.zipWith f qs ks).length = ks.length := by
  rw [List.length_zipWith, h, Nat.min_self]
theorem zw_mem {f : Rat → Kq → Rat} {ks : List Kq} {qs : List Rat} {r : Rat} (h : r ∈ List.zipWith f qs ks) : ∃ q ∈ qs, ∃ k ∈ ks, r = f q k := by
  obtain ⟨j, hj, e⟩ := List.getElem_of_mem h
  have hj' := hj
  rw [List.length_zipWith] at hj'
  have g := zw_get (f := f) (List.getElem?_eq_getElem (show j < qs.length by omega)) (List.getElem?_eq_getElem (show j < ks.length by omega))
  rw [List.getElem?_eq_getElem hj, e] at g
  exact ⟨_, List.getElem_mem _, _, List.getElem_mem _, Option.some.inj g⟩
theorem all_parts : ∀ (ks : List Kq) (qs : List Rat), qs.length = ks.length → zsum (keptQ ks qs) + zsum (loavesQ ks qs ++ soldQ ks qs) = zsum qs
  | [], [], _ => by
    show (0 : Rat) + 0 = 0
    exact Rat.add_zero 0
  | k :: ks, q :: qs, h => by
    have ih := all_parts ks qs (Nat.succ.inj h)
    have e1 : zsum (keptQ (k :: ks) (q :: qs)) = q * k.drip * zsum k.goes + zsum (keptQ ks qs) := rfl
    have e2 : zsum (loavesQ (k :: ks) (q :: qs)) = q - q * k.drip + zsum (loavesQ ks qs) := rfl
    have e3 : zsum (soldQ (k :: ks) (q :: qs)) = q * k.drip * (1 - zsum k.goes) + zsum (soldQ ks qs) := rfl
    have e4 : zsum (q :: qs) = q + zsum qs := rfl
    rw [zsum_app] at ih ⊢
    rw [e1, e2, e3, e4, ← ih]
    grind
  | [], _ :: _, h => by simp at h
  | _ :: _, [], h => by simp at h
section
variable {M B : Nat} {qs : List Rat}
theorem AmOk.loaf (a : AmOk M B qs) {q r : Rat} (h : q ∈ qs) (p : Part r) : Dv (M * 768398400) (q - q * r) ∧ 0 ≤ q - q * r ∧ q - q * r ≤ ((B : Int) : Rat) := by
  obtain ⟨d, l, u⟩ := a.drips h p
  have d1 := a.dv q h
  have k := mul_part (a.lo q h) Rat.le_refl p.lo p.hi
  have hi := a.hi q h
  exact ⟨(d1.up (Nat.dvd_mul_right _ _)).sub (d.up ⟨27720, by rw [Nat.mul_assoc]⟩), by grind, by grind⟩
theorem AmOk.sold (a : AmOk M B qs) {q r : Rat} {g : List Rat} (h : q ∈ qs) (p : Part r) (pg : ∀ x ∈ g, Part x) (g1 : zsum g ≤ 1) : Dv (M * 768398400) (q * r * (1 - zsum g)) ∧ 0 ≤ q * r * (1 - zsum g) ∧ q * r * (1 - zsum g) ≤ ((B : Int) : Rat) := by
  obtain ⟨d, l, u⟩ := a.drips h p
  have g0 := zsum_nn fun x hx => (pg x hx).lo
  have k := d.mul ((Dv.int (M := 27720) 1).sub (Dv.all fun x hx => (pg x hx).dv))
  rw [Nat.mul_assoc] at k
  exact ⟨k, mul_part l u (show (0 : Rat) ≤ 1 - zsum g by grind) (show 1 - zsum g ≤ 1 by grind)⟩
end
/-- the rest of a part -/
theorem rest_frac (d : Rat) : (1 - d).num = (d.den : Int) - d.num ∧ ((1 - d).den : Int) = (d.den : Int) := by
  have hb := den_ne' d
  have lo := rat_low d
  have low2 : IsLow ((d.den : Int) - d.num) (d.den : Int) := ⟨lo.pos, by
    have c := lo.cop
    rw [Int.natAbs_natCast] at c ⊢
    have h1 : ((Nat.gcd ((d.den : Int) - d.num).natAbs d.den : Nat) : Int) ∣ (d.den : Int) - d.num := Int.ofNat_dvd_left.mpr (Nat.gcd_dvd_left _ _)
    have h2 : ((Nat.gcd ((d.den : Int) - d.num).natAbs d.den : Nat) : Int) ∣ (d.den : Int) := Int.ofNat_dvd_left.mpr (by rw [Int.natAbs_natCast]; exact Nat.gcd_dvd_right _ _)
    have h3 := Int.dvd_sub h2 h1
    rw [show (d.den : Int) - ((d.den : Int) - d.num) = d.num by omega] at h3
    have h4 := Nat.dvd_gcd (Int.ofNat_dvd_left.mp h3) (Nat.gcd_dvd_right ((d.den : Int) - d.num).natAbs d.den)
    rw [c] at h4
    exact Nat.dvd_one.mp h4⟩
  have er : rq ((d.den : Int) - d.num) (d.den : Int) = 1 - d := by
    have k := rat_nd d
    have h1 := den_ne d
    unfold rq
    rw [Rat.intCast_sub]
    generalize ((d.den : Int) : Rat) = y at *
    generalize (d.num : Rat) = x at *
    rw [← k]
    grind
  have l1 := rq_low (t := (d.den : Int) - d.num) hb
  have l2 := low_eq hb low2 rfl
  rw [l1, er] at l2
  exact ⟨congrArg Prod.fst l2, congrArg Prod.snd l2⟩
theorem rq_rest (d : Rat) : rq ((d.den : Int) - d.num) (d.den : Int) = 1 - d := by
  have k := rat_nd d
  have h1 := den_ne d
  unfold rq
  rw [Rat.intCast_sub]
  generalize ((d.den : Int) : Rat) = y at *
  generalize (d.num : Rat) = x at *
  rw [← k]
  grind
theorem rest_at {K : PySem.W.Frag} {H : Hp} {t : Addr} {d : Rat} (h : H t = some (.tup [.int ((d.den : Int) - d.num), .int (d.den : Int)])) : FrQ K H t (1 - d) := by
  obtain ⟨e1, e2⟩ := rest_frac d
  exact .of (by rw [e1, e2]; exact h)
theorem rest_part {d : Rat} (h : Part d) : Part (1 - d) := by
  refine ⟨?_, ?_, ?_⟩
  · have := h.hi
    grind
  · have := h.lo
    grind
  · have k := (rest_frac d).2
    have b := h.bt
    omega
theorem same_none {H H' : Hp} {a : Addr} (s : Same H H') (n : H' a = none) : H a = none := by
  cases e : H a with
  | none => rfl
  | some o =>
    have k := s _ _ e
    rw [n] at k
    cases k
theorem fresh_sum {K : PySem.W.Frag} {H : Hp} {n : Nat} {ks : List Kn} (L : KnL K H n ks) : 0 ≤ (ks.map (·.fresh)).sum ∧ (ks.map (·.fresh)).sum ≤ 1000000 * (ks.length : Int) := by
  have all : ∀ l : List Kn, (∀ k ∈ l, 0 ≤ k.fresh ∧ k.fresh ≤ 1000000) → 0 ≤ (l.map (·.fresh)).sum ∧ (l.map (·.fresh)).sum ≤ 1000000 * (l.length : Int) := fun l => by
    induction l with
    | nil => exact fun _ => ⟨Int.le_refl _, Int.le_refl _⟩
    | cons k r ih =>
      intro h
      have h1 := h k List.mem_cons_self
      have h2 := ih fun y hy => h y (List.mem_cons_of_mem _ hy)
      rw [List.map_cons, List.sum_cons, List.length_cons]
      omega
  exact all ks fun k hk => ⟨(L k hk).f0, (L k hk).f1⟩
theorem sum_parts_big {l : List Fz} (pa : ∀ z ∈ l, Part z.2) (gl : l.length ≤ 7) : Big (zsum (l.map (·.2))) := by
  have k := parts_add (mem_q pa) (by rw [List.length_map]; exact gl) (l.map (·.2)).length (Nat.le_refl _)
  rw [List.take_length] at k
  exact k
theorem rest_sum_big {l : List Fz} (pa : ∀ z ∈ l, Part z.2) (one : zsum (l.map (·.2)) ≤ 1) : Big (1 - zsum (l.map (·.2))) := by
  have d := (Dv.int (M := 27720) 1).sub (Dv.all fun x hx => (mem_q pa x hx).dv)
  have g0 := zsum_nn fun x hx => (mem_q pa x hx).lo
  exact Dv.szN (B := 1) d (by decide) (show (0 : Rat) ≤ 1 - _ by grind) (show (1 : Rat) - _ ≤ ((1 : Int) : Rat) by have : ((1 : Int) : Rat) = 1 := rfl; grind) (by decide) (Nat.lt_of_lt_of_le (by decide : 1 * 27720 < 2 ^ 20) (Nat.pow_le_pow_right (by decide) (by decide)))
/-- round after round -/
def roundsQ (ks : List Kq) : Nat → List Rat → List Rat
  | 0, qs => qs
  | r + 1, qs => onceQ ks (roundsQ ks r qs)
theorem rounds_len {ks : List Kq} {qs : List Rat} (h : qs.length = ks.length) : ∀ r, (roundsQ ks r qs).length = ks.length
  | 0 => h
  | r + 1 => once_len _ _
theorem rounds_add (ks : List Kq) (qs : List Rat) (b : Nat) : ∀ a, roundsQ ks a (roundsQ ks b qs) = roundsQ ks (a + b) qs
  | 0 => by rw [Nat.zero_add] <;> rfl
  | a + 1 => by
    rw [Nat.add_right_comm]
    show onceQ ks (roundsQ ks a (roundsQ ks b qs)) = onceQ ks (roundsQ ks (a + b) qs)
    rw [rounds_add ks qs b a]
def bR (B : Nat) : Nat → Nat
  | 0 => B
  | r + 1 => 6 * bR B r + 1000000
theorem bR_mono (B : Nat) : ∀ {a b : Nat}, a ≤ b → bR B a ≤ bR B b
  | a, 0, h => by rw [Nat.le_zero.mp h]; exact Nat.le_refl _
  | a, b + 1, h => by
    rcases Nat.lt_or_ge a (b + 1) with l | l
    · have k := bR_mono B (show a ≤ b by omega)
      show _ ≤ 6 * bR B b + 1000000
      omega
    · rw [show a = b + 1 by omega]
      exact Nat.le_refl _
theorem bR_pos {B : Nat} (h : 1 ≤ B) (r : Nat) : 1 ≤ bR B r := Nat.le_trans h (bR_mono B (Nat.zero_le r))
/-- amounts that may be walked on so many rounds -/
theorem rounds_ok {M B N : Nat} {ks : List Kq} {qs : List Rat} (hk : ∀ k ∈ ks, KqOk k) (l6 : ks.length ≤ 6) (lq : qs.length = ks.length) (dv : ∀ q ∈ qs, Dv M q) (lo : ∀ q ∈ qs, 0 ≤ q) (hi : ∀ q ∈ qs, q ≤ ((B : Int) : Rat)) (hM : 0 < M) (hB : 1 ≤ B)
    (fit : (6 * bR B N + 1000000) * (M * 768398400 ^ (N + 1)) < 2 ^ 4300) : ∀ r, r ≤ N → AmOk (M * 768398400 ^ r) (bR B r) (roundsQ ks r qs) := by
  have fitr : ∀ r, r ≤ N → (6 * bR B r + 1000000) * (M * 768398400 ^ r * 768398400) < 2 ^ 4300 := fun r hr => by
    refine Nat.lt_of_le_of_lt (Nat.mul_le_mul ?_ ?_) fit
    · have := bR_mono B hr
      omega
    · rw [Nat.mul_assoc, ← Nat.pow_succ]
      exact Nat.mul_le_mul_left _ (Nat.pow_le_pow_right (by decide) (by omega))
  intro r
  induction r with
  | zero =>
    intro h
    exact ⟨fun q hq => by rw [Nat.pow_zero, Nat.mul_one]; exact dv q hq, lo, hi, Nat.mul_pos hM (Nat.pow_pos (by decide)), hB, fitr 0 h⟩
  | succ r ih =>
    intro h
    have a := ih (by omega)
    have k := a.once hk l6 (rounds_len lq r)
    refine ⟨fun q hq => ?_, fun q hq => (k q hq).2.1, fun q hq => (k q hq).2.2, Nat.mul_pos hM (Nat.pow_pos (by decide)), bR_pos hB _, fitr _ h⟩
    have e := (k q hq).1
    rw [Nat.mul_assoc, ← Nat.pow_succ] at e
    exact e
structure AmS (q : Rat) : Prop where
  lo : 0 ≤ q
  hi : q ≤ ((1000 : Int) : Rat)
  bt : q.den ≤ 60
theorem AmS.rq {t b : Int} (t0 : 0 ≤ t) (t1 : t ≤ 1000) (b1 : 1 ≤ b) (b2 : b ≤ 60) : AmS (KR.rq t b) := by
  refine ⟨rq_nn t0 (by omega), Rat.le_trans (rq_le t0 b1) (Rat.intCast_le_intCast.mpr (by omega)), ?_⟩
  have k := den_le (t := t) (show 0 < b by omega)
  omega
theorem prodD_60 : ∀ {l : List Rat}, (∀ q ∈ l, q.den ≤ 60) → prodD l ≤ 60 ^ l.length
  | [], _ => Nat.le_refl _
  | q :: r, h => by
    have ih := prodD_60 (l := r) fun y hy => h y (List.mem_cons_of_mem _ hy)
    rw [List.length_cons, Nat.pow_succ, Nat.mul_comm (60 ^ r.length)]
    exact Nat.mul_le_mul (h q List.mem_cons_self) ih
theorem am_rounds {ks : List Kq} {qs : List Rat} (hk : ∀ k ∈ ks, KqOk k) (l6 : ks.length ≤ 6) (lq : qs.length = ks.length) (h : ∀ q ∈ qs, AmS q) (r : Nat) (hr : r ≤ 40) : ∃ M B, AmOk M B (roundsQ ks r qs) := by
  have k := prodD_60 fun q hq => (h q hq).bt
  have k2 : prodD qs ≤ 60 ^ 6 := Nat.le_trans k (Nat.pow_le_pow_right (by decide) (by omega))
  exact ⟨_, _, rounds_ok (M := prodD qs) (B := 1000) (N := 40) hk l6 lq (fun q hq => (Dv.den q).up (prodD_dvd hq)) (fun q hq => (h q hq).lo) (fun q hq => (h q hq).hi) (prodD_pos qs) (by decide)
    (Nat.lt_of_le_of_lt (Nat.mul_le_mul_left _ (Nat.mul_le_mul_right _ k2)) (Nat.lt_of_lt_of_le (by decide +kernel : (6 * bR 1000 40 + 1000000) * (60 ^ 6 * 768398400 ^ (40 + 1)) < 2 ^ 2000) (Nat.pow_le_pow_right (by decide) (by decide)))) r hr⟩
theorem and_tail {b : Bool} {A : VK → Prop} {Q : VK} {H : Hp} (hA : ∀ Q : VK, (∀ g, Q (.bl g) H) → A Q) (h : ∀ g, Q (.bl g) H) : if b = true then A Q else Q (.bl false) H := by
  cases b with
  | true => exact hA Q h
  | false => exact h false
end KR
/-! ### days: ladles hour by hour, what each place has taken -/
namespace KR
open PySem PySem.Spec PyProof.Rows L2
theorem minLK {X : Cx} {K : PySem.W.Frag} (hK : X.K = K) (hc : X.calm = true) : CallR X (.builtin "min") (rMin K) := hK ▸ cr_min hc
theorem maxLK {X : Cx} {K : PySem.W.Frag} (hK : X.K = K) (hc : X.calm = true) : CallR X (.builtin "max") (rMax K) := hK ▸ cr_max hc
theorem nuMin3_int (i j k : Int) : nuMin3 (.int i) (.int j) (.int k) = some (.int (min (min i j) k)) := by
  have two : ∀ a b : Int, nuMin2 (.int a) (.int b) = some (.int (min a b)) := fun a b => by
    show some (if decide (b < a) = true then V.int b else V.int a) = _
    by_cases h : b < a
    · rw [decide_eq_true h, if_pos rfl, Int.min_def, if_neg (by omega)]
    · rw [decide_eq_false h, if_neg Bool.false_ne_true, Int.min_def, if_pos (by omega)]
  show (nuMin2 (.int i) (.int j)).bind (fun m => nuMin2 m (.int k)) = _
  rw [two i j]
  exact two _ k
/-! the sum of a list or a tuple of numbers; a part of a list or a tuple -/
theorem sum_intTuple {prog : Program} {w : World} {A : Around} {E : Value → Shared → Prop} {s : Shared} {l : Addr} {xs : Array (Int × Tok)} {Q : Value → Shared → Prop} (hh : A.handled = none) (hl : s.heap.IsTuple l (intItems xs))
    (h : ∀ h' tk t', (∀ b o, s.heap.get? b = some o → h'.get? b = some o) → Q (.int (preSum (numAt xs) xs.size) t') { s with heap := h', toks := tk }) :
    wpAny (model prog w) A (call (.builtin "sum") [.ref l]) Q E s := by
  have hlt : l < s.heap.objs.size := by obtain ⟨_, e, _⟩ := id hl; exact Heap.lt_size e
  refine call_sum_walkG (wpAny_pyIter_tuple hl ?_)
  refine ⟨_, [_, l], [_], _, _, _, numAt xs, rfl, Walks.tuple (A := A.in1) hh s.heap.objs.size l (Nat.ne_of_lt hlt) (intItems xs), ⟨⟨_, Heap.get?_push_size _ rfl, rfl, rfl⟩, hl.push _⟩, fun c hc => ?_, (fun _ _ => intItems_at), fun h' tk t' hk => ?_⟩
  · show c < (s.heap.push _).objs.size
    rw [Heap.size_push]
    rcases List.mem_cons.mp hc with rfl | hc
    · exact Nat.lt_succ_self _
    · rcases List.mem_cons.mp hc with rfl | hc
      · exact Nat.lt_succ_of_lt hlt
      · cases hc
  · have := h h' tk t' fun b o e => hk b o (fun hm => by
      rcases List.mem_cons.mp hm with e1 | hm
      · exact absurd (e1 ▸ Heap.lt_size e) (Nat.lt_irrefl _)
      · cases hm) (Heap.get?_push_of_some _ e)
    simpa [intItems] using this
theorem sum_rawT {prog : Program} {w : World} {A : Around} {E : Value → Shared → Prop} {s : Shared} {l : Addr} {its : List Value} {ns : List Int} {Q : Value → Shared → Prop} (hh : A.handled = none) (hl : s.heap.IsTuple l its.toArray) (hi : IntsAre its ns)
    (h : ∀ h' tk t', (∀ b o, s.heap.get? b = some o → h'.get? b = some o) → Q (.int ns.sum t') { s with heap := h', toks := tk }) : wpAny (model prog w) A (call (.builtin "sum") [.ref l]) Q E s := by
  obtain ⟨xs, e⟩ := hi.allInts.items
  have hn : numsOf (intItems xs).toList = ns := by rw [← e]; exact hi.numsOf
  rw [nums_intItems] at hn
  rw [e] at hl
  refine sum_intTuple hh hl fun h' tk t' hk => ?_
  have := h h' tk t' hk
  rw [preSum_eq, List.take_of_length_le (by simp), hn]; exact this
def rSumB (K : PySem.W.Frag) : List V → Hp → VK → Prop := fun vs H Q => ∃ (a : Addr) (ns : List Int) (p : Bool), vs = [V.ref a] ∧ SqB K H a (ns.map V.int) p ∧ Q (.int ns.sum) H
theorem sumBK {X : Cx} {K : PySem.W.Frag} (hK : X.K = K) (hc : X.calm = true) : CallR X (.builtin "sum") (rSumB K) := by
  subst hK
  intro pins s σ H vs us Q I r h
  obtain ⟨a, ns, p, rfl, hs, q⟩ := h
  cases p with
  | true => exact cr_sum hc pins s σ H _ us Q I r ⟨a, ns, rfl, hs, q⟩
  | false =>
    obtain ⟨its, rv, hl, _⟩ := I.tuple hs
    rw [Vals.ref1 r]
    exact sum_rawT (I.ok.hd hc) hl rv.ints fun h' tk t' hk => ⟨.int _, H, I.kept hk, ⟨_, rfl⟩, q⟩
def rSlB (K : PySem.W.Frag) : V → Option Int → Option Int → Hp → VK → Prop := fun x lo hi H Q => ∃ (a : Addr) (xs : List V) (p : Bool), x = .ref a ∧ SqB K H a xs p ∧ ∀ (c : Addr) (H' : Hp), Same H H' → SqB K H' c (cutV xs lo hi) p → Q (.ref c) H'
theorem cut_whole {xs : List V} {lo hi : Option Int} (h : HT.sIx xs.length 0 lo = 0 ∧ HT.sIx xs.length xs.length hi = xs.length) : cutV xs lo hi = xs := by
  unfold cutV
  rw [h.1, h.2, List.drop_zero, Nat.sub_zero, List.take_length]
theorem slBK {X : Cx} {K : PySem.W.Frag} (hK : X.K = K) : SlR X (rSlB K) := by
  subst hK
  intro pins s σ H x v vl vu lo hi sl Q I rx hs pl pu h
  obtain ⟨a, xs, p, rfl, hx, q⟩ := h
  cases p with
  | true => exact sl_list pins s σ H _ v vl vu lo hi sl Q I rx hs pl pu ⟨a, xs, rfl, hx, fun c hc => q c _ (same_new hc) (SqL.of upd_same)⟩
  | false =>
    refine sl_tupA pins s σ H _ v vl vu lo hi sl Q I rx hs pl pu ⟨a, xs, rfl, hx, fun w => ?_, fun _ c hc => q c _ (same_new hc) (SqT.of upd_same)⟩
    refine q a H (.refl _) ?_
    rw [cut_whole w]
    exact hx
theorem cut_to' {xs : List V} {n : Nat} (h : n ≤ xs.length) : cutV xs none (some (n : Int)) = xs.take n := by
  unfold cutV
  rw [HT.sIx_none, HT.sIx_nat, Nat.min_eq_left h, Nat.sub_zero, List.drop_zero]
theorem same_none' {H H' : Hp} {a : Addr} (s : Same H H') (n : H' a = none) : H a = none := by
  cases e : H a with
  | none => rfl
  | some o =>
    have k := s _ _ e
    rw [n] at k
    cases k
theorem fr_new' {p c : Addr} {H H' : Hp} (F : Fr p H H') (n : H' c = none) (ne : c ≠ p) : H c = none := by
  cases e : H c with
  | none => rfl
  | some o =>
    have k := F _ _ ne e
    rw [n] at k
    cases k
/-! what a day tells -/
structure Dy where
  cs : List Int
  ks : List (Int × List Int)
  ss : List Int
structure DyOk (D : Dy) : Prop where
  h1 : 1 ≤ D.cs.length
  h2 : D.cs.length ≤ 48
  k1 : 1 ≤ D.ks.length
  k2 : D.ks.length ≤ 8
  ts : ∀ k ∈ D.ks, k.2.length = D.cs.length
  sl : D.ss.length = D.cs.length
def csum (D : Dy) (t : Nat) : Int := (D.cs.take t).sum
def kt (D : Dy) (p : Nat) : Int × List Int := D.ks.getD p (0, [])
def tkQ (D : Dy) (t : Nat) (prev : Nat → Int) : Nat → Int
  | 0 => min (prev (D.ks.length - 1)) (prev D.ks.length + D.ss.getD t 0)
  | q + 1 => min (min (if D.ks.length - (q + 1) = 0 then csum D (t + 1) else prev (D.ks.length - (q + 1) - 1)) (prev (D.ks.length - (q + 1)) + (kt D (D.ks.length - (q + 1))).2.getD t 0)) (tkQ D t prev q + (kt D (D.ks.length - (q + 1))).1)
/-- what a place has taken by so many hours -/
def tk (D : Dy) : Nat → Nat → Int
  | 0, _ => 0
  | t + 1, p => tkQ D t (tk D t) (D.ks.length - p)
theorem tk_zero (D : Dy) (p : Nat) : tk D 0 p = 0 := rfl
theorem tk_last (D : Dy) (t : Nat) : tk D (t + 1) D.ks.length = min (tk D t (D.ks.length - 1)) (tk D t D.ks.length + D.ss.getD t 0) := by
  show tkQ D t (tk D t) (D.ks.length - D.ks.length) = _
  rw [Nat.sub_self] <;> rfl
theorem tk_at {D : Dy} {t p : Nat} (h : p < D.ks.length) : tk D (t + 1) p = min (min (if p = 0 then csum D (t + 1) else tk D t (p - 1)) (tk D t p + (kt D p).2.getD t 0)) (tk D (t + 1) (p + 1) + (kt D p).1) := by
  show tkQ D t (tk D t) (D.ks.length - p) = min (min _ _) (tkQ D t (tk D t) (D.ks.length - (p + 1)) + _)
  obtain ⟨q, e⟩ : ∃ q, D.ks.length - p = q + 1 := ⟨D.ks.length - p - 1, by omega⟩
  have e1 : D.ks.length - (q + 1) = p := by omega
  have e2 : D.ks.length - (p + 1) = q := by omega
  rw [e, e2]
  show min (min (if D.ks.length - (q + 1) = 0 then _ else tk D t (D.ks.length - (q + 1) - 1)) (tk D t (D.ks.length - (q + 1)) + (kt D (D.ks.length - (q + 1))).2.getD t 0)) (tkQ D t (tk D t) q + (kt D (D.ks.length - (q + 1))).1) = _
  rw [e1]
/-- what each hour takes at a place -/
def rowI (D : Dy) (p : Nat) : List Int := (List.range D.cs.length).map fun t => tk D (t + 1) p - tk D t p
theorem row_len (D : Dy) (p : Nat) : (rowI D p).length = D.cs.length := by
  unfold rowI
  rw [List.length_map, List.length_range]
theorem row_get {D : Dy} {p t : Nat} (h : t < D.cs.length) : (rowI D p)[t]? = some (tk D (t + 1) p - tk D t p) := by
  unfold rowI
  rw [List.getElem?_map, List.getElem?_range h] <;> rfl
theorem row_sum (D : Dy) (p : Nat) : ∀ t, t ≤ D.cs.length → ((rowI D p).take t).sum = tk D t p := fun t => by
  induction t with
  | zero => intro _; rw [List.take_zero, tk_zero] <;> rfl
  | succ t ih =>
    intro h
    rw [take_one (row_get (by omega)), List.sum_append, ih (by omega), List.sum_cons, List.sum_nil]
    omega
/-! where a day stands -/
def IsB' (K : PySem.W.Frag) (H : Hp) (p a : Addr) (ns : List Int) (b : Bool) : Prop := SqB K H a (ns.map V.int) b ∧ a ≠ p
structure KtAt (K : PySem.W.Frag) (H : Hp) (p a : Addr) (k : Int × List Int) : Prop where
  ex : ∃ t b, SqT K H a [.int k.1, .ref t] ∧ IsB' K H p t k.2 b
structure DyP where
  c : Addr
  k : Addr
  s : Addr
  pc : Bool
  pk : Bool
  ps : Bool
  as : List Addr
structure DayAt (K : PySem.W.Frag) (H : Hp) (p a : Addr) (x : DyP) (D : Dy) : Prop where
  at_ : SqT K H a [.ref x.c, .ref x.k, .ref x.s]
  cs : IsB' K H p x.c D.cs x.pc
  ks : SqB K H x.k (x.as.map V.ref) x.pk
  kp : x.k ≠ p
  ss : IsB' K H p x.s D.ss x.ps
  len : x.as.length = D.ks.length
  kt : ∀ (j : Nat) (a : Addr) (k : Int × List Int), x.as[j]? = some a → D.ks[j]? = some k → KtAt K H p a k
theorem IsB'.same {K : PySem.W.Frag} {H H' : Hp} {p a : Addr} {ns : List Int} {b : Bool} (h : IsB' K H p a ns b) (s : Same H H') : IsB' K H' p a ns b := ⟨h.1.same s, h.2⟩
theorem SqB.fr {K : PySem.W.Frag} {H H' : Hp} {p a : Addr} {xs : List V} {b : Bool} {n : Nat} (h : SqB K H a xs b) (ne : a ≠ p) (B : BoxAt H p n) (f : Fr p H H') : SqB K H' a xs b := by
  cases b with
  | true =>
    rcases h with (h | ⟨o, h⟩) | h
    · exact .inl (.inl (f _ _ ne h))
    · exact .inl (.inr ⟨o, f _ _ ne h⟩)
    · exact .inr h
  | false => exact sqT_fr h B f
theorem IsB'.fr {K : PySem.W.Frag} {H H' : Hp} {p a : Addr} {ns : List Int} {b : Bool} {n : Nat} (h : IsB' K H p a ns b) (B : BoxAt H p n) (f : Fr p H H') : IsB' K H' p a ns b := ⟨SqB.fr h.1 h.2 B f, h.2⟩
theorem KtAt.same {K : PySem.W.Frag} {H H' : Hp} {p a : Addr} {k : Int × List Int} (h : KtAt K H p a k) (s : Same H H') : KtAt K H' p a k := by
  obtain ⟨t, b, h1, h2⟩ := h.ex
  exact ⟨t, b, Same.tup s h1, h2.same s⟩
theorem KtAt.fr {K : PySem.W.Frag} {H H' : Hp} {p a : Addr} {k : Int × List Int} {n : Nat} (h : KtAt K H p a k) (B : BoxAt H p n) (f : Fr p H H') : KtAt K H' p a k := by
  obtain ⟨t, b, h1, h2⟩ := h.ex
  exact ⟨t, b, sqT_fr h1 B f, h2.fr B f⟩
theorem DayAt.same {K : PySem.W.Frag} {H H' : Hp} {p a : Addr} {x : DyP} {D : Dy} (h : DayAt K H p a x D) (s : Same H H') : DayAt K H' p a x D :=
  ⟨Same.tup s h.at_, h.cs.same s, h.ks.same s, h.kp, h.ss.same s, h.len, fun j a k e1 e2 => (h.kt j a k e1 e2).same s⟩
theorem DayAt.fr {K : PySem.W.Frag} {H H' : Hp} {p a : Addr} {x : DyP} {D : Dy} {n : Nat} (h : DayAt K H p a x D) (B : BoxAt H p n) (f : Fr p H H') : DayAt K H' p a x D :=
  ⟨sqT_fr h.at_ B f, h.cs.fr B f, SqB.fr h.ks h.kp B f, h.kp, h.ss.fr B f, h.len, fun j a k e1 e2 => (h.kt j a k e1 e2).fr B f⟩
theorem DayAt.pot {K : PySem.W.Frag} {H : Hp} {p a : Addr} {x : DyP} {D : Dy} (h : DayAt K H p a x D) {j : Nat} (lt : j < D.ks.length) : ∃ ka t b, (x.as.map V.ref)[j]? = some (.ref ka) ∧ SqT K H ka [.int (KR.kt D j).1, .ref t] ∧ IsB' K H p t (KR.kt D j).2 b := by
  have e1 : x.as[j]? = some (x.as[j]'(by rw [h.len]; exact lt)) := List.getElem?_eq_getElem _
  have e2 : D.ks[j]? = some D.ks[j] := List.getElem?_eq_getElem lt
  obtain ⟨t, b, h1, h2⟩ := (h.kt j _ _ e1 e2).ex
  have e3 : KR.kt D j = D.ks[j] := by
    unfold KR.kt
    rw [List.getD_eq_getElem?_getD, e2] <;> rfl
  rw [e3]
  exact ⟨_, t, b, by rw [List.getElem?_map, e1] <;> rfl, h1, h2⟩
theorem ints_get {ns : List Int} {t : Nat} (h : t < ns.length) : (ns.map V.int)[t]? = some (.int (ns.getD t 0)) := by
  rw [List.getElem?_map, List.getD_eq_getElem?_getD, List.getElem?_eq_getElem h] <;> rfl
theorem kt_len {D : Dy} (O : DyOk D) {p : Nat} (h : p < D.ks.length) : (kt D p).2.length = D.cs.length := by
  refine O.ts _ ?_
  unfold kt
  rw [List.getD_eq_getElem?_getD, List.getElem?_eq_getElem h]
  exact List.getElem_mem h
theorem lenV_b {K : PySem.W.Frag} {H : Hp} {a : Addr} {xs : List V} {p : Bool} (h : SqB K H a xs p) : LenV K (.ref a) H xs.length := by
  cases p with
  | true => exact .inl ⟨xs, h, rfl⟩
  | false => exact .inr ⟨xs, h, rfl⟩
theorem ix_b {K : PySem.W.Frag} {H : Hp} {a : Addr} {xs : List V} {p : Bool} {i : Nat} {j : Int} {v : V} {Q : VK} (h : SqB K H a xs p) (e : j = (i : Int)) (g : xs[i]? = some v) (q : Q v H) : rIx K (.ref a) (.int j) H Q := by
  subst e
  cases p with
  | true => exact .inl ⟨a, xs, _, v, rfl, rfl, h, at_of rfl g, q⟩
  | false => exact .inr (.inl ⟨a, xs, _, v, rfl, rfl, h, at_of rfl g, q⟩)
/-! bounds -/
structure Bd where
  word : Str
  lead : Option (Int × Int)
  more : Int
def leadV (H : Hp) (l : V) : Option (Int × Int) → Prop
  | none => l = .non
  | some (p, h) => ∃ q, l = .ref q ∧ H q = some (.tup [.int p, .int h])
def BdAt (H : Hp) (kv : Key × V) (b : Bd) : Prop := kv.1 = .inr b.word ∧ ∃ t l, kv.2 = .ref t ∧ H t = some (.tup [l, .int b.more]) ∧ leadV H l b.lead
theorem leadV.same {H H' : Hp} {l : V} {o : Option (Int × Int)} (h : leadV H l o) (s : Same H H') : leadV H' l o := by
  cases o with
  | none => exact h
  | some x =>
    obtain ⟨q, e, h1⟩ := h
    exact ⟨q, e, s _ _ h1⟩
theorem BdAt.same {H H' : Hp} {kv : Key × V} {b : Bd} (h : BdAt H kv b) (s : Same H H') : BdAt H' kv b := by
  obtain ⟨h1, t, l, h2, h3, h4⟩ := h
  exact ⟨h1, t, l, h2, s _ _ h3, h4.same s⟩
/-- what bounds a place at an hour, that one behind so many hours -/
def firstB (D : Dy) (p t : Nat) : Bd := if p = 0 then ⟨"comes", none, csum D (t + 1)⟩ else ⟨"ahead", some ((p : Int) - 1, (t : Int) - 1), 0⟩
def bnds (D : Dy) (p : Nat) : Nat → List Bd
  | 0 => [⟨"begin", none, 0⟩]
  | t + 1 => if p = D.ks.length then [firstB D p t, ⟨"takes", some ((p : Int), (t : Int) - 1), D.ss.getD t 0⟩]
    else [firstB D p t, ⟨"takes", some ((p : Int), (t : Int) - 1), (kt D p).2.getD t 0⟩, ⟨"room", some ((p : Int) + 1, (t : Int)), (kt D p).1⟩]
def AllBd (H : Hp) (kvs : List (Key × V)) (bs : List Bd) : Prop := Paired (BdAt H) kvs bs
theorem AllBd.same {H H' : Hp} {kvs : List (Key × V)} {bs : List Bd} (h : AllBd H kvs bs) (s : Same H H') : AllBd H' kvs bs := by
  induction h with
  | nil => exact .nil
  | cons a _ ih => exact .cons (a.same s) ih
theorem AllBd.get {H : Hp} : ∀ {kvs : List (Key × V)} {bs : List Bd}, AllBd H kvs bs → ∀ {i : Nat} {kv : Key × V}, kvs[i]? = some kv → ∃ b, bs[i]? = some b ∧ BdAt H kv b
  | [], _, _, i, _, e => by simp at e
  | _ :: _, _, .cons a h, 0, _, e => by cases e; exact ⟨_, rfl, a⟩
  | _ :: _, _, .cons _ h, i + 1, _, e => AllBd.get h (i := i) e
theorem AllBd.len {H : Hp} {kvs : List (Key × V)} {bs : List Bd} (h : AllBd H kvs bs) : kvs.length = bs.length := Paired.length h
/-- a place and an hour as a key -/
def kk (p t : Nat) : List Key := [.inl (p : Int), .inl ((t : Int) - 1)]
theorem kk_inj {p t p' t' : Nat} (h : kk p t = kk p' t') : p = p' ∧ t = t' := by
  unfold kk at h
  injection h with h1 h2
  injection h2 with h3 h4
  injection h1 with h1
  injection h3 with h3
  omega
/-- what is told of places and hours -/
def Told (D : Dy) (kvs : List (List Key × V)) (d : Nat → Nat → Prop) : Prop := ∀ p t, d p t → valV kvs (kk p t) = some (.int (tk D t p))
theorem Told.put {D : Dy} {kvs : List (List Key × V)} {d d' : Nat → Nat → Prop} (h : Told D kvs d) (p t : Nat) (hd : ∀ p' t', d' p' t' → d p' t' ∨ (p' = p ∧ t' = t)) : Told D (putK kvs (kk p t) (.int (tk D t p))) d' := fun p' t' h' => by
  rw [valV_put]
  by_cases c : kk p' t' = kk p t
  · rw [if_pos c]
    obtain ⟨e1, e2⟩ := kk_inj c
    rw [e1, e2]
  · rw [if_neg c]
    rcases hd p' t' h' with g | ⟨e1, e2⟩
    · exact h p' t' g
    · exact absurd (by rw [e1, e2]) c
/-- what a bound comes to -/
def valB (D : Dy) (b : Bd) : Int := match b.lead with
  | none => b.more
  | some (p, h) => tk D (h + 1).toNat p.toNat + b.more
theorem min_mem {ns : List Int} {m a : Int} (h : m ∈ ns) (le : ∀ y ∈ ns, m ≤ y) (ha : a ∈ ns) (la : ∀ y ∈ ns, a ≤ y) : m = a := Int.le_antisymm (le a ha) (la m h)
/-- the least that the bounds come to is what has been taken -/
theorem bnds_min {D : Dy} {p t : Nat} (k1 : 1 ≤ D.ks.length) (hp : p ≤ D.ks.length) : tk D t p ∈ (bnds D p t).map (valB D) ∧ ∀ y ∈ (bnds D p t).map (valB D), tk D t p ≤ y := by
  cases t with
  | zero =>
    show (0 : Int) ∈ [(0 : Int)] ∧ ∀ y ∈ [(0 : Int)], 0 ≤ y
    exact ⟨List.mem_cons_self, fun y hy => by rw [List.mem_singleton.mp hy]; decide⟩
  | succ t =>
    have e1 : valB D (firstB D p t) = if p = 0 then csum D (t + 1) else tk D t (p - 1) := by
      unfold firstB
      by_cases c : p = 0
      · rw [if_pos c, if_pos c] <;> rfl
      · rw [if_neg c, if_neg c]
        show tk D ((t : Int) - 1 + 1).toNat ((p : Int) - 1).toNat + 0 = _
        rw [show ((t : Int) - 1 + 1).toNat = t by omega, show ((p : Int) - 1).toNat = p - 1 by omega, Int.add_zero]
    have e2 : ∀ m, valB D ⟨"takes", some ((p : Int), (t : Int) - 1), m⟩ = tk D t p + m := fun m => by
      show tk D ((t : Int) - 1 + 1).toNat ((p : Int)).toNat + m = _
      rw [show ((t : Int) - 1 + 1).toNat = t by omega, Int.toNat_natCast]
    have e3 : ∀ m, valB D ⟨"room", some ((p : Int) + 1, (t : Int)), m⟩ = tk D (t + 1) (p + 1) + m := fun m => by
      show tk D ((t : Int) + 1).toNat ((p : Int) + 1).toNat + m = _
      rw [show ((t : Int) + 1).toNat = t + 1 by omega, show ((p : Int) + 1).toNat = p + 1 by omega]
    by_cases c : p = D.ks.length
    · have eb : bnds D p (t + 1) = [firstB D p t, ⟨"takes", some ((p : Int), (t : Int) - 1), D.ss.getD t 0⟩] := if_pos c
      rw [eb, List.map_cons, List.map_cons, List.map_nil, e1, e2]
      have et := tk_last D t
      rw [← c] at et
      rw [et, if_neg (show ¬ p = 0 by omega)]
      refine ⟨?_, fun y hy => ?_⟩
      · simp only [List.mem_cons, List.not_mem_nil, or_false]
        omega
      · simp only [List.mem_cons, List.not_mem_nil, or_false] at hy
        omega
    · have eb : bnds D p (t + 1) = [firstB D p t, ⟨"takes", some ((p : Int), (t : Int) - 1), (kt D p).2.getD t 0⟩, ⟨"room", some ((p : Int) + 1, (t : Int)), (kt D p).1⟩] := if_neg c
      have et := tk_at (D := D) (t := t) (p := p) (by omega)
      rw [eb, List.map_cons, List.map_cons, List.map_cons, List.map_nil, e1, e2, e3]
      generalize (if p = 0 then csum D (t + 1) else tk D t (p - 1)) = fb at *
      refine ⟨?_, fun y hy => ?_⟩
      · simp only [List.mem_cons, List.not_mem_nil, or_false]
        omega
      · simp only [List.mem_cons, List.not_mem_nil, or_false] at hy
        omega
theorem same_frb {H0 H1 H2 : Hp} {b : Addr} (s : Same H0 H1) (n : H0 b = none) (f : Fr b H1 H2) : Same H0 H2 := fun c o e => f c o (ne_of_none e n) (s c o e)
/-- the lists of ints in a row, one upon another -/
def RowsAt (H : Hp) (rs : List Addr) (f : Nat → List Int) : Prop := ∀ (j : Nat) (r : Addr), rs[j]? = some r → H r = some (.lst ((f j).map V.int))
theorem leadV.frb {H H' : Hp} {b : Addr} {kb : List (Key × V)} {l : V} {o : Option (Int × Int)} (h : leadV H l o) (hb : H b = some (.dK kb)) (F : Fr b H H') : leadV H' l o := by
  cases o with
  | none => exact h
  | some y =>
    obtain ⟨q, e, h1⟩ := h
    exact ⟨q, e, F _ _ (ne_of h1 hb (by intro z; cases z)) h1⟩
theorem bnds_lead {D : Dy} {p t : Nat} {b : Bd} {p' h' : Int} (hp : p ≤ D.ks.length) (m : b ∈ bnds D p t) (e : b.lead = some (p', h')) : ∃ pn tn : Nat, p' = (pn : Int) ∧ h' = (tn : Int) - 1 ∧ pn ≤ D.ks.length ∧ (tn < t ∨ (tn = t ∧ p < pn)) := by
  cases t with
  | zero =>
    have e1 : b = ⟨"begin", none, 0⟩ := List.mem_singleton.mp m
    rw [e1] at e
    cases e
  | succ t =>
    have f1 : b = firstB D p t → ∃ pn tn : Nat, p' = (pn : Int) ∧ h' = (tn : Int) - 1 ∧ pn ≤ D.ks.length ∧ (tn < t + 1 ∨ (tn = t + 1 ∧ p < pn)) := fun z => by
      rw [z] at e
      unfold firstB at e
      by_cases c : p = 0
      · rw [if_pos c] at e
        cases e
      · rw [if_neg c] at e
        obtain ⟨rfl, rfl⟩ := Prod.mk.inj (Option.some.inj e)
        exact ⟨p - 1, t, by omega, rfl, by omega, .inl (by omega)⟩
    have f2 : ∀ x, b = ⟨"takes", some ((p : Int), (t : Int) - 1), x⟩ → ∃ pn tn : Nat, p' = (pn : Int) ∧ h' = (tn : Int) - 1 ∧ pn ≤ D.ks.length ∧ (tn < t + 1 ∨ (tn = t + 1 ∧ p < pn)) := fun x z => by
      rw [z] at e
      obtain ⟨rfl, rfl⟩ := Prod.mk.inj (Option.some.inj e)
      exact ⟨p, t, rfl, rfl, hp, .inl (by omega)⟩
    by_cases c : p = D.ks.length
    · rw [show bnds D p (t + 1) = [firstB D p t, ⟨"takes", some ((p : Int), (t : Int) - 1), D.ss.getD t 0⟩] from if_pos c] at m
      rcases List.mem_cons.mp m with z | z
      · exact f1 z
      · exact f2 _ (List.mem_singleton.mp z)
    · rw [show bnds D p (t + 1) = [firstB D p t, ⟨"takes", some ((p : Int), (t : Int) - 1), (kt D p).2.getD t 0⟩, ⟨"room", some ((p : Int) + 1, (t : Int)), (kt D p).1⟩] from if_neg c] at m
      rcases List.mem_cons.mp m with z | z
      · exact f1 z
      · rcases List.mem_cons.mp z with z | z
        · exact f2 _ z
        · rw [List.mem_singleton.mp z] at e
          obtain ⟨rfl, rfl⟩ := Prod.mk.inj (Option.some.inj e)
          exact ⟨p + 1, t + 1, by omega, by omega, by omega, .inr ⟨rfl, by omega⟩⟩
theorem bnds_len (D : Dy) (p t : Nat) : 0 < (bnds D p t).length := by
  cases t with
  | zero => exact Nat.zero_lt_succ _
  | succ t =>
    show 0 < (if p = D.ks.length then _ else _ : List Bd).length
    split <;> exact Nat.zero_lt_succ _
theorem bnds_len3 (D : Dy) (p t : Nat) : (bnds D p t).length ≤ 3 := by
  cases t with
  | zero => show 1 ≤ 3; decide
  | succ t =>
    show (if p = D.ks.length then _ else _ : List Bd).length ≤ 3
    split
    · show 2 ≤ 3
      decide
    · show 3 ≤ 3
      decide
/-- the first hour by which so many are struck -/
def FirstV (D : Dy) (m : Int) (v : V) : Prop := (∃ t : Nat, t < D.cs.length ∧ (∀ j, j < t → tk D (j + 1) D.ks.length < m) ∧ m ≤ tk D (t + 1) D.ks.length ∧ v = .int (t : Int)) ∨ ((∀ j, j < D.cs.length → tk D (j + 1) D.ks.length < m) ∧ v = .non)
/-- ladles that a day may have -/
def Ldl (ns : List Int) : Prop := ∀ z ∈ ns, 0 ≤ z ∧ z ≤ 1000000
structure DyNn (D : Dy) : Prop where
  cs : Ldl D.cs
  ks : ∀ k ∈ D.ks, 1 ≤ k.1 ∧ k.1 ≤ 1000000 ∧ Ldl k.2
  ss : Ldl D.ss
/-- kettles beside their lists -/
def KtF (K : PySem.W.Frag) (H : Hp) (p f : Addr) (a : Addr) (k : Int × List Int) : Prop := ∃ t, SqT K H a [.int k.1, .ref t] ∧ H t = some (.lst (k.2.map V.int)) ∧ t ≠ p ∧ t ≠ f
def PotsF (K : PySem.W.Frag) (H : Hp) (p f : Addr) (as : List Addr) (ks : List (Int × List Int)) : Prop := Paired (KtF K H p f) as ks
theorem KtF.same {K : PySem.W.Frag} {H H' : Hp} {p f a : Addr} {k : Int × List Int} (h : KtF K H p f a k) (s : Same H H') : KtF K H' p f a k := by
  obtain ⟨t, h1, h2, h3, h4⟩ := h
  exact ⟨t, Same.tup s h1, s _ _ h2, h3, h4⟩
theorem KtF.fr {K : PySem.W.Frag} {H H' : Hp} {p f a : Addr} {k : Int × List Int} {n : Nat} (h : KtF K H p f a k) (B : BoxAt H p n) (F : Fr p H H') : KtF K H' p f a k := by
  obtain ⟨t, h1, h2, h3, h4⟩ := h
  exact ⟨t, sqT_fr h1 B F, F _ _ h3 h2, h3, h4⟩
theorem KtF.put {K : PySem.W.Frag} {H : Hp} {p f a : Addr} {k : Int × List Int} {xs ys : List V} (h : KtF K H p f a k) (hf : H f = some (.lst xs)) : KtF K (upd H f (.lst ys)) p f a k := by
  obtain ⟨t, h1, h2, h3, h4⟩ := h
  exact ⟨t, sqT_frL h1 hf fr_upd, by rw [upd_ne h4]; exact h2, h3, h4⟩
theorem KtF.to {K : PySem.W.Frag} {H : Hp} {p f g a : Addr} {k : Int × List Int} (h : KtF K H p f a k) (n : H g = none) : KtF K H p g a k := by
  obtain ⟨t, h1, h2, h3, h4⟩ := h
  exact ⟨t, h1, h2, h3, ne_of_none h2 n⟩
theorem PotsF.map {K : PySem.W.Frag} {H H' : Hp} {p f g : Addr} {as : List Addr} {ks : List (Int × List Int)} (h : PotsF K H p f as ks) (m : ∀ a k, KtF K H p f a k → KtF K H' p g a k) : PotsF K H' p g as ks := by
  induction h with
  | nil => exact .nil
  | cons a _ ih => exact .cons (m _ _ a) ih
theorem PotsF.snoc {K : PySem.W.Frag} {H : Hp} {p f : Addr} {as : List Addr} {ks : List (Int × List Int)} {a : Addr} {k : Int × List Int} (h : PotsF K H p f as ks) (ha : KtF K H p f a k) : PotsF K H p f (as ++ [a]) (ks ++ [k]) := by
  induction h with
  | nil => exact .cons ha .nil
  | cons b _ ih => exact .cons b ih
theorem PotsF.get {K : PySem.W.Frag} {H : Hp} {p f : Addr} : ∀ {as : List Addr} {ks : List (Int × List Int)}, PotsF K H p f as ks → ∀ {j : Nat} {a : Addr}, as[j]? = some a → ∃ k, ks[j]? = some k ∧ KtF K H p f a k
  | [], _, _, j, _, e => by simp at e
  | _ :: _, _, .cons h _, 0, _, e => by cases e; exact ⟨_, rfl, h⟩
  | _ :: _, _, .cons _ h, j + 1, _, e => PotsF.get h (j := j) e
theorem PotsF.at_ {K : PySem.W.Frag} {H : Hp} {p f : Addr} {as : List Addr} {ks : List (Int × List Int)} (h : PotsF K H p f as ks) : ∀ (j : Nat) (a : Addr) (k : Int × List Int), as[j]? = some a → ks[j]? = some k → KtAt K H p a k := fun j a k e1 e2 => by
  obtain ⟨k', e3, t, h1, h2, h3, _⟩ := h.get e1
  rw [e2] at e3
  obtain rfl := Option.some.inj e3
  exact ⟨t, true, h1, SqL.of h2, h3⟩
theorem rep_ints (k : Nat) (z : Int) : (List.replicate ((k : Int)).toNat [V.int z]).flatten = (List.replicate k z).map V.int := by
  rw [Int.toNat_natCast, List.map_replicate]
  induction k with
  | zero => rfl
  | succ k ih => rw [List.replicate_succ, List.flatten_cons, ih, List.replicate_succ] <;> rfl
/-! tuple(x) of a list or a tuple -/
def rTupJ (K : PySem.W.Frag) : List V → Hp → VK → Prop := fun xs H Q => ∃ p ys, xs = [.ref p] ∧ ((SqL K H p ys ∧ ∀ l H', Same H H' → H l = none → H' l = some (.tup ys) → Q (.ref l) H') ∨ (SqT K H p ys ∧ Q (.ref p) H))
theorem tupJ {X : Cx} {K : PySem.W.Frag} (h : X.K = K) : CallR X (.type "tuple") (rTupJ K) := fun pins s σ H xs us Q I r ⟨p, ys, e, q⟩ =>
  call_tuple_of pins s σ H xs us Q I r ⟨p, ys, e, h ▸ q.imp (fun z => ⟨z.1, fun l hl => z.2 l _ (same_new hl) hl upd_same⟩) id⟩
/-! rows of numbers as data -/
theorem eqv_nums : ∀ (a b : List Int), PyData.eqvAll (a.map PyData.int) (b.map PyData.int) = decide (a = b)
  | [], [] => rfl
  | [], _ :: _ => rfl
  | _ :: _, [] => rfl
  | x :: a, y :: b => by
    show (PyData.eqv (.int x) (.int y) && PyData.eqvAll (a.map PyData.int) (b.map PyData.int)) = _
    rw [eqv_nums a b]
    show (decide (x = y) && _) = _
    by_cases c : x = y
    · subst c
      by_cases d : a = b
      · subst d
        simp
      · simp [d]
    · simp [c]
def din (ns : List Int) : PyData := .list (ns.map PyData.int)
theorem din_eqv (a b : List Int) : PyData.eqv (din a) (din b) = decide (a = b) := eqv_nums a b
theorem nums_dps {K : PySem.W.Frag} {H : Hp} : ∀ (ns : List Int), DpAll K H (ns.map V.int) (ns.map PyData.int)
  | [] => .nil
  | _ :: r => .cons (.int _) (nums_dps r)
theorem din_at {K : PySem.W.Frag} {H : Hp} {a : Addr} {ns : List Int} (h : H a = some (.lst (ns.map V.int))) : Dp K H (.ref a) (din ns) := .lst (SqL.of h) (nums_dps ns)
theorem nums_flat : ∀ (ns : List Int), PyData.canLayAll0 (ns.map PyData.int) = true ∧ PyData.depthAll (ns.map PyData.int) = 0
  | [] => ⟨rfl, rfl⟩
  | z :: r => by
    obtain ⟨h1, h2⟩ := nums_flat r
    refine ⟨?_, ?_⟩
    · show (PyData.canLay0 (.int z) && PyData.canLayAll0 (r.map PyData.int)) = true
      rw [h1] <;> rfl
    · show max (PyData.depth (.int z)) (PyData.depthAll (r.map PyData.int)) = 0
      rw [h2] <;> rfl
theorem din_shaped (ns : List Int) : SeqAt.shaped (din ns) = true := by
  obtain ⟨h1, h2⟩ := nums_flat ns
  show (PyData.canLayAll0 (ns.map PyData.int) && decide (PyData.depthAll (ns.map PyData.int) + 1 ≤ 64)) = true
  rw [h1, h2] <;> rfl
/-! the hours by which so many are struck -/
theorem filter_head {P : Nat → Bool} : ∀ (n t : Nat), t < n → P t = true → (∀ j, j < t → P j = false) → ∃ r, (List.range n).filter P = t :: r := fun n t lt pt no => by
  induction n with
  | zero => omega
  | succ n ih =>
    rw [List.range_succ, List.filter_append]
    by_cases c : t < n
    · obtain ⟨r, e⟩ := ih c
      rw [e]
      exact ⟨_, rfl⟩
    · have e : t = n := by omega
      subst e
      have e0 : (List.range t).filter P = [] := List.filter_eq_nil_iff.mpr fun j hj => by
        rw [no j (List.mem_range.mp hj)]
        exact Bool.false_ne_true
      rw [e0, List.nil_append, List.filter_cons, if_pos pt]
      exact ⟨_, rfl⟩
def hoursBy (D : Dy) (m : Int) : List Nat := (List.range D.cs.length).filter fun t => decide (m ≤ tk D (t + 1) D.ks.length)
theorem FirstV.hours {D : Dy} {m : Int} {v : V} (h : FirstV D m v) : (hoursBy D m = [] ∧ v = .non) ∨ ∃ t r, hoursBy D m = t :: r ∧ v = .int ((t : Nat) : Int) := by
  rcases h with ⟨t, lt, below, ge, rfl⟩ | ⟨below, rfl⟩
  · obtain ⟨r, e⟩ := filter_head (P := fun t => decide (m ≤ tk D (t + 1) D.ks.length)) D.cs.length t lt (decide_eq_true ge) fun j hj => decide_eq_false (by have := below j hj; omega)
    exact .inr ⟨t, r, e, rfl⟩
  · refine .inl ⟨List.filter_eq_nil_iff.mpr fun j hj => ?_, rfl⟩
    have := below j (List.mem_range.mp hj)
    rw [decide_eq_false (by omega)]
    exact Bool.false_ne_true
/-- what has been taken is neither below nought nor great -/
theorem csum_nn {D : Dy} (N : DyNn D) : ∀ t, 0 ≤ csum D t := fun t => by
  unfold csum
  have all : ∀ l : List Int, (∀ z ∈ l, 0 ≤ z) → 0 ≤ l.sum := fun l => by
    induction l with
    | nil => exact fun _ => Int.le_refl _
    | cons a r ih =>
      intro h
      have h1 := h a List.mem_cons_self
      have h2 := ih fun z hz => h z (List.mem_cons_of_mem _ hz)
      rw [List.sum_cons]
      omega
  exact all _ fun z hz => (N.cs z (List.mem_of_mem_take hz)).1
theorem ldl_at {ns : List Int} (h : Ldl ns) (t : Nat) : 0 ≤ ns.getD t 0 ∧ ns.getD t 0 ≤ 1000000 := by
  rw [List.getD_eq_getElem?_getD]
  cases e : ns[t]? with
  | none => exact ⟨by decide, by decide⟩
  | some z => exact h z (List.mem_of_getElem? e)
theorem kt_nn {D : Dy} (N : DyNn D) (p : Nat) : 0 ≤ (kt D p).1 ∧ Ldl (kt D p).2 := by
  unfold kt
  rw [List.getD_eq_getElem?_getD]
  cases e : D.ks[p]? with
  | none => exact ⟨by decide, fun z hz => absurd hz List.not_mem_nil⟩
  | some k =>
    have h := N.ks k (List.mem_of_getElem? e)
    exact ⟨by show 0 ≤ k.1; omega, h.2.2⟩
theorem tk_nn {D : Dy} (N : DyNn D) : ∀ t q p, p + q = D.ks.length → 0 ≤ tk D t p ∧ tk D t p ≤ 1000000 * t := fun t => by
  induction t with
  | zero =>
    intro q p _
    rw [tk_zero]
    omega
  | succ t ih =>
    intro q
    induction q with
    | zero =>
      intro p hp
      have e : p = D.ks.length := by omega
      subst e
      rw [tk_last]
      have h1 := ih 1 (D.ks.length - 1)
      have h0 := ih 0 D.ks.length rfl
      have s := ldl_at N.ss t
      by_cases c : D.ks.length = 0
      · rw [c] at h0 ⊢
        have e : tk D t (0 - 1) = tk D t 0 := rfl
        omega
      · have := h1 (by omega)
        omega
    | succ q ihq =>
      intro p hp
      rw [tk_at (by omega)]
      have h0 := ih (q + 1) p hp
      have h1 := ihq (p + 1) (by omega)
      have kn := kt_nn N p
      have s := ldl_at kn.2 t
      have c0 := csum_nn N (t + 1)
      by_cases c : p = 0
      · rw [if_pos c]
        omega
      · rw [if_neg c]
        have h2 := ih (q + 2) (p - 1) (by omega)
        omega
/-- a part of a row of numbers -/
theorem cut_nums (ns : List Int) (lo hi : Option Int) : ∃ ms : List Int, cutV (ns.map V.int) lo hi = ms.map V.int ∧ (∀ z ∈ ms, z ∈ ns) ∧ ms.length ≤ ns.length := by
  unfold cutV
  refine ⟨(ns.drop _).take _, by rw [List.map_take, List.map_drop], fun z hz => List.mem_of_mem_drop (List.mem_of_mem_take hz), ?_⟩
  rw [List.length_take, List.length_drop]
  omega
theorem rg_nums (a b : Int) : ∃ ms : List Int, rgV a b = ms.map V.int ∧ ms.length = (b - a).toNat := by
  refine ⟨(List.range (b - a).toNat).map fun i => a + (i : Nat), ?_, by rw [List.length_map, List.length_range]⟩
  unfold rgV
  rw [List.map_map] <;> rfl
/-- a day of tuples stands beside a list that is written -/
theorem DayAt.frT {K : PySem.W.Frag} {H H' : Hp} {p a q : Addr} {c k s : Addr} {as : List Addr} {D : Dy} {xs : List V} (h : DayAt K H p a ⟨c, k, s, false, false, false, as⟩ D) (F : Fr q H H') (hq : H q = some (.lst xs)) (tt : ∀ (j : Nat) (b : Addr) (k : Int × List Int), as[j]? = some b → D.ks[j]? = some k → ∃ t, SqT K H b [.int k.1, .ref t] ∧ SqT K H t (k.2.map V.int) ∧ t ≠ p) : DayAt K H' p a ⟨c, k, s, false, false, false, as⟩ D :=
  ⟨sqT_frL h.at_ hq F, ⟨sqT_frL h.cs.1 hq F, h.cs.2⟩, sqT_frL h.ks hq F, h.kp, ⟨sqT_frL h.ss.1 hq F, h.ss.2⟩, h.len, fun j b k e1 e2 => by
    obtain ⟨t, a1, a2, a3⟩ := tt j b k e1 e2
    exact ⟨t, false, sqT_frL a1 hq F, sqT_frL a2 hq F, a3⟩⟩
theorem same_new_fr {H0 H1 H2 : Hp} {p : Addr} (s : Same H0 H1) (n : H0 p = none) (f : Fr p H1 H2) : Same H0 H2 := fun c o e => f c o (ne_of_none e n) (s c o e)
end KR
/-! ### data of tuples, texts, numbers; repr of any of it -/
namespace KR
open PySem PySem.Spec PyProof.Rows L2
inductive Dg (K : PySem.W.Frag) (H : Hp) : Nat → V → PyData → Prop
  | non (n : Nat) : Dg K H n .non .none
  | int (n : Nat) (i : Int) : Dg K H n (.int i) (.int i)
  | str (n : Nat) (x : Str) : Dg K H n (.str x) (.str x)
  | tup {n : Nat} {a : Addr} {xs : List V} {ds : List PyData} : SqT K H a xs → xs.length = ds.length → (∀ (i : Nat) (x : V) (d : PyData), xs[i]? = some x → ds[i]? = some d → Dg K H n x d) → Dg K H (n + 1) (.ref a) (.tuple ds)
theorem Dg.on {K : PySem.W.Frag} {H H' : Hp} (k : ∀ a xs, SqT K H a xs → SqT K H' a xs) : ∀ {n : Nat} {v : V} {d : PyData}, Dg K H n v d → Dg K H' n v d := by
  intro n v d h
  induction h with
  | non n => exact .non n
  | int n i => exact .int n i
  | str n x => exact .str n x
  | tup h1 h2 _ ih => exact .tup (k _ _ h1) h2 ih
theorem Dg.same {K : PySem.W.Frag} {H H' : Hp} (s : Same H H') {n : Nat} {v : V} {d : PyData} (h : Dg K H n v d) : Dg K H' n v d := h.on fun _ _ q => Same.tup s q
theorem Dg.fr {K : PySem.W.Frag} {H H' : Hp} {p : Addr} {m n : Nat} {v : V} {d : PyData} (h : Dg K H n v d) (B : BoxAt H p m) (f : Fr p H H') : Dg K H' n v d := h.on fun _ _ q => sqT_fr q B f
theorem dps_of {K : PySem.W.Frag} {H : Hp} : ∀ {xs : List V} {ds : List PyData}, xs.length = ds.length → (∀ (i : Nat) (x : V) (d : PyData), xs[i]? = some x → ds[i]? = some d → Dp K H x d) → DpAll K H xs ds
  | [], [], _, _ => .nil
  | x :: xs, d :: ds, hl, h => .cons (h 0 x d rfl rfl) (dps_of (by rw [List.length_cons, List.length_cons] at hl; omega) fun i y e a b => h (i + 1) y e a b)
theorem Dg.dp {K : PySem.W.Frag} {H : Hp} {n : Nat} {v : V} {d : PyData} (h : Dg K H n v d) : Dp K H v d := by
  induction h with
  | non n => exact .non
  | int n i => exact .int i
  | str n x => exact .str x
  | tup h1 h2 _ ih => exact .tup h1 (dps_of h2 ih)
def DgAll (K : PySem.W.Frag) (H : Hp) (n : Nat) (xs : List V) (ds : List PyData) : Prop := xs.length = ds.length ∧ ∀ (i : Nat) (x : V) (d : PyData), xs[i]? = some x → ds[i]? = some d → Dg K H n x d
theorem DgAll.nil {K : PySem.W.Frag} {H : Hp} {n : Nat} : DgAll K H n [] [] := ⟨rfl, fun i x d h => by simp at h⟩
theorem DgAll.cons {K : PySem.W.Frag} {H : Hp} {n : Nat} {x : V} {d : PyData} {xs : List V} {ds : List PyData} (h : Dg K H n x d) (t : DgAll K H n xs ds) : DgAll K H n (x :: xs) (d :: ds) :=
  ⟨by rw [List.length_cons, List.length_cons, t.1], fun i u v hu hv => match i, hu, hv with
    | 0, hu, hv => by cases hu; cases hv; exact h
    | i + 1, hu, hv => t.2 i u v hu hv⟩
theorem DgAll.tup {K : PySem.W.Frag} {H : Hp} {n : Nat} {xs : List V} {ds : List PyData} {a : Addr} (t : DgAll K H n xs ds) (h : SqT K H a xs) : Dg K H (n + 1) (.ref a) (.tuple ds) := .tup h t.1 t.2
/-- data that can be shown -/
structure Fine (k w : Nat) (d : PyData) : Prop where
  lay : PyData.canLay0 d = true
  dep : PyData.depth d ≤ k
  wt : PyData.weight d ≤ w
  ish : PyData.intsShort 13 d = true
  sh : PyData.showable d = true
  nd : PyData.hasDict d = false
structure FineAll (k w : Nat) (ds : List PyData) : Prop where
  lay : PyData.canLayAll0 ds = true
  dep : PyData.depthAll ds ≤ k
  wt : PyData.weightAll ds ≤ w
  ish : PyData.intsShortAll 13 ds = true
  sh : PyData.showableAll ds = true
  nd : PyData.hasDictAll ds = false
theorem FineAll.nil (k : Nat) : FineAll k 0 [] := ⟨rfl, Nat.zero_le _, Nat.le_refl _, rfl, rfl, rfl⟩
theorem FineAll.cons {k a b : Nat} {d : PyData} {ds : List PyData} (h : Fine k a d) (t : FineAll k b ds) : FineAll k (a + 1 + b) (d :: ds) := by
  refine ⟨?_, ?_, ?_, ?_, ?_, ?_⟩
  · show (PyData.canLay0 d && PyData.canLayAll0 ds) = true
    rw [h.lay, t.lay] <;> rfl
  · show max (PyData.depth d) (PyData.depthAll ds) ≤ k
    have := h.dep
    have := t.dep
    omega
  · show PyData.weight d + 1 + PyData.weightAll ds ≤ a + 1 + b
    have := h.wt
    have := t.wt
    omega
  · show (PyData.intsShort 13 d && PyData.intsShortAll 13 ds) = true
    rw [h.ish, t.ish] <;> rfl
  · show (PyData.showable d && PyData.showableAll ds) = true
    rw [h.sh, t.sh] <;> rfl
  · show (PyData.hasDict d || PyData.hasDictAll ds) = false
    rw [h.nd, t.nd] <;> rfl
theorem FineAll.tup {k w : Nat} {ds : List PyData} (t : FineAll k w ds) : Fine (k + 1) w (.tuple ds) := ⟨t.lay, Nat.succ_le_succ t.dep, t.wt, t.ish, t.sh, t.nd⟩
theorem Fine.up {k k' w w' : Nat} {d : PyData} (h : Fine k w d) (h1 : k ≤ k') (h2 : w ≤ w') : Fine k' w' d := ⟨h.lay, Nat.le_trans h.dep h1, Nat.le_trans h.wt h2, h.ish, h.sh, h.nd⟩
theorem Fine.non (k : Nat) : Fine k 0 .none := ⟨rfl, Nat.zero_le _, Nat.le_refl _, rfl, rfl, rfl⟩
theorem nat_short : ∀ n < 1001, (PyData.shown (.int ((n : Nat) : Int))).length ≤ 13 ∧ PyData.weight (.int ((n : Nat) : Int)) ≤ 12 ∧ ((n : Nat) : Int).natAbs.log2 < 1920 := by decide +kernel
theorem Fine.int {i : Int} (k : Nat) (h0 : 0 ≤ i) (h1 : i ≤ 1000) : Fine k 12 (.int i) := by
  obtain ⟨n, rfl⟩ : ∃ n : Nat, i = (n : Int) := ⟨i.toNat, by omega⟩
  obtain ⟨e1, e2, e3⟩ := nat_short n (by omega)
  exact ⟨rfl, Nat.zero_le _, e2, decide_eq_true e1, decide_eq_true e3, rfl⟩
theorem Fine.minus (k : Nat) : Fine k 12 (.int (-1)) := ⟨rfl, Nat.zero_le _, by decide +kernel, by decide +kernel, by decide +kernel, rfl⟩
theorem Fine.str {x : Str} {n : Nat} (k : Nat) (h : x.length ≤ n) (c : ∀ c ∈ TL.tl x, c < 128) : Fine k n (.str x) := by
  refine ⟨?_, Nat.zero_le _, h, rfl, rfl, rfl⟩
  show PyData.strOk x = true
  unfold PyData.strOk
  rw [← Array.all_toList, List.all_eq_true]
  exact fun d hd => decide_eq_true (Nat.lt_trans (c d hd) (by decide))
theorem Fine.line {k w : Nat} {d : PyData} (h : Fine k w d) (hk : k ≤ 60) (hw : w ≤ 100000) : d.shown.length ≤ sizeLine := by
  have dep := h.dep
  have wt := h.wt
  have l : PyData.layable0 d = true := by
    show (PyData.canLay0 d && decide (PyData.depth d ≤ 64) && decide (PyData.weight d ≤ 2 ^ 20)) = true
    rw [h.lay, decide_eq_true (by omega), decide_eq_true (show PyData.weight d ≤ 2 ^ 20 by omega)] <;> rfl
  exact Nat.le_trans (shown_le13 l h.ish) (by decide)
/-- repr of any such data -/
def rReprV (K : PySem.W.Frag) : List V → Hp → VK → Prop := fun xs H Q => ∃ (v : V) (d : PyData) (k w : Nat), xs = [v] ∧ Dp K H v d ∧ Fine k w d ∧ k ≤ 60 ∧ w ≤ 100000 ∧ Q (.str d.shown) H
theorem cr_reprV {X : Cx} {K : PySem.W.Frag} (hK : X.K = K) (hg : X.A.guards = some []) (hu : X.A.units + 64 < cLine) : CallR X (.builtin "repr") (rReprV K) := by
  subst hK
  intro pn s σ H xs us Q I r want
  obtain ⟨v, d, k, w, rfl, dp, f, hk, hw, q⟩ := want
  have len := f.line hk hw
  have dep := f.dep
  cases r with
  | cons r1 r2 =>
    cases r2
    cases dp with
    | non =>
      cases r1
      exact PySem.P.repr_of_none ⟨.str _, H, I.tok _, ⟨_, rfl⟩, q⟩
    | bl b =>
      cases r1
      exact PySem.P.repr_of_bool ⟨.str _, H, I.tok _, ⟨_, rfl⟩, q⟩
    | int i =>
      obtain ⟨t, rfl⟩ := r1
      exact PySem.P.repr_of_int (of_decide_eq_true f.sh) ⟨.str _, H, I.tok _, ⟨_, rfl⟩, q⟩
    | str x =>
      obtain ⟨t, rfl⟩ := r1
      exact PySem.P.repr_of_str ⟨.str _, H, I.tok _, ⟨_, rfl⟩, q⟩ len
    | lst a1 a2 =>
      obtain ⟨as, rd⟩ := Dp.reads I _ _ _ (Dp.lst a1 a2) r1
      cases r1
      exact repr_of_reads' rd f.sh (PyData.noDict_hsm f.nd) hg (by omega) (fun _ _ e => e) (fun h' u tk hkk => ⟨.str _, H, I.kept (fun b o e => hkk b o e), ⟨_, rfl⟩, q⟩) len
    | tup a1 a2 =>
      obtain ⟨as, rd⟩ := Dp.reads I _ _ _ (Dp.tup a1 a2) r1
      cases r1
      exact repr_of_reads' rd f.sh (PyData.noDict_hsm f.nd) hg (by omega) (fun _ _ e => e) (fun h' u tk hkk => ⟨.str _, H, I.kept (fun b o e => hkk b o e), ⟨_, rfl⟩, q⟩) len
end KR
/-! ### plans of a day: a range that is kept; data of days -/
namespace KR
open PySem PySem.Spec PyProof.Rows L2
/-- a comprehension in a comprehension -/
theorem blkOk_in {N : List Str} {outer scope sc : Scope} {own : List (Str × Nat)} {cl : List (Str × Addr)} {C : Addr} {env : Env} (hs : env.scope = sc) (h : blkC N (relS outer sc) scope own = true) : BlkOk N (compEnvC outer cl C env).scope scope own := by
  subst hs
  exact blkOk_by h
/-- range(n) as a value -/
def tRngV (ta : TE) : TE := fun σ H Q => ta σ H fun x H1 => ∃ j : Int, x = .int j ∧ ∀ a, H1 a = none → Q (.ref a) (upd H1 a (.rng 0 j))
theorem pe_rngV {X : Cx} {a : Expr} {ta : TE} {p pos : Pos} (hg : Gl X "range") (hm : X.mg "range" = none) (ha : PE X a ta) (na : starEach [a] X.env = (false, eval a X.env) :: starEach [] X.env := by rfl) : PE X (.Call (.Name "range" p) [a] [] pos) (tRngV ta) := by
  refine ⟨fun pins s σ H Q I h => ?_⟩
  refine Call_ (ld_blt I hg hm boot_range (PyProof.Rows.callWith_type1 (one_arg ha I h (fun v s2 x H2 I2 r q => ?_) na) na))
  obtain ⟨n, rfl, q⟩ := q
  obtain ⟨t, rfl⟩ := r
  exact call_range_1 ⟨.ref s2.heap.objs.size, upd H2 s2.heap.objs.size (.rng 0 n), I2.laid (fun b u e => Heap.get?_push_of_some _ e) (Nat.le_refl _) ⟨_, _, _, Heap.get?_push_size _ rfl⟩, rfl, q _ (I2.hok.fresh (Nat.le_refl _))⟩
/-- a kept range, walked -/
def iRngV (te : TE) : TI := fun σ H R => te σ H fun x H1 => ∃ (a : Addr) (lo hi : Int), x = .ref a ∧ H1 a = some (.rng lo hi) ∧ (-(2 ^ 62) ≤ lo ∧ lo < 2 ^ 62 ∧ -(2 ^ 62) ≤ hi ∧ hi < 2 ^ 62) ∧ R (Itr lo (hi - lo).toNat) H1
theorem pi_rngV {X : Cx} {tg e : Expr} {te : TE} (he : PE X e te) : PI X tg e (iRngV te) := by
  refine ⟨fun pins s σ H R I h => ?_⟩
  refine thn (he.run pins s σ H _ I h) fun v s1 ⟨x, H1, I1, r1, q1⟩ => ?_
  obtain ⟨a, lo, hi, e, ha, ⟨h1, h2, h3, h4⟩, q⟩ := q1
  subst e
  cases r1
  obtain ⟨t, u, w, g⟩ := I1.hok a _ ha
  refine wpAny_pyIter_range (show IsRange s1.heap a lo hi 1 t u w from g) (small_one h1 h2 h3 h4) ?_
  refine pi_one (tk := s1.toks) I1 _ (turn_range _ lo (hi - lo).toNat) ?_ q
  have e1 : lo + ((0 : Nat) : Int) * 1 = lo := by simp
  have e2 : (((hi - lo).toNat : Nat) : Int) - ((0 : Nat) : Int) = Builtin.Range.rangeSize lo hi 1 := by rw [rangeSize_one]; split <;> omega
  show IsRangeIter _ _ (lo + ((0 : Nat) : Int) * 1) ((((hi - lo).toNat : Nat) : Int) - ((0 : Nat) : Int)) 1
  rw [e1, e2]
  exact Heap.get?_push_size _ rfl
/-! days as data that can be shown -/
theorem Fine.ldl {i : Int} (k : Nat) (h0 : 0 ≤ i) (h1 : i ≤ 1000000) : Fine k 20 (.int i) := by
  have n : i.natAbs < 2 ^ 20 := by omega
  have l : i.natAbs ≠ 0 → i.natAbs.log2 < 20 := fun z => (Nat.log2_lt z).mpr n
  refine ⟨rfl, Nat.zero_le _, ?_, decide_eq_true (PyData.shown_int_le (by omega)), decide_eq_true ?_, rfl⟩
  · show (if i == 0 then 0 else i.natAbs.log2 + 1) ≤ 20
    by_cases c : i = 0
    · rw [c]
      decide
    · rw [if_neg (by simpa using c)]
      have := l (by omega)
      omega
  · by_cases c : i.natAbs = 0
    · rw [c]
      decide
    · have := l c
      omega
theorem FineAll.ldl (k : Nat) : ∀ {ns : List Int}, Ldl ns → FineAll k (21 * ns.length) (ns.map PyData.int)
  | [], _ => FineAll.nil k
  | z :: r, h => by
    have a := Fine.ldl k (h z List.mem_cons_self).1 (h z List.mem_cons_self).2
    have b := FineAll.cons a (FineAll.ldl k (ns := r) fun y hy => h y (List.mem_cons_of_mem _ hy))
    have e : 20 + 1 + 21 * r.length = 21 * (z :: r).length := by rw [List.length_cons]; omega
    rw [e] at b
    exact b
theorem FineAll.lst {k w : Nat} {ds : List PyData} (t : FineAll k w ds) : Fine (k + 1) w (.list ds) := ⟨t.lay, Nat.succ_le_succ t.dep, t.wt, t.ish, t.sh, t.nd⟩
theorem ldl_dp {K : PySem.W.Frag} {H : Hp} {p t : Addr} {ns : List Int} {b : Bool} (h : IsB' K H p t ns b) (L : Ldl ns) (l : ns.length ≤ 48) : ∃ d, Fine 1 1008 d ∧ ∀ H', Same H H' → Dp K H' (.ref t) d := by
  have f := FineAll.ldl 0 L
  cases b with
  | true => exact ⟨.list (ns.map PyData.int), (FineAll.lst f).up (Nat.le_refl _) (by omega), fun H' s => .lst (h.same s).1 (nums_dps ns)⟩
  | false => exact ⟨.tuple (ns.map PyData.int), (FineAll.tup f).up (Nat.le_refl _) (by omega), fun H' s => .tup (h.same s).1 (nums_dps ns)⟩
theorem kts_dp {K : PySem.W.Frag} {H : Hp} {p : Addr} : ∀ (as : List Addr) (ks : List (Int × List Int)), as.length = ks.length → (∀ (j : Nat) (a : Addr) (k : Int × List Int), as[j]? = some a → ks[j]? = some k → KtAt K H p a k) → (∀ k ∈ ks, 0 ≤ k.1 ∧ k.1 ≤ 1000000 ∧ Ldl k.2 ∧ k.2.length ≤ 48) → ∃ ds, FineAll 2 (1100 * ks.length) ds ∧ ∀ H', Same H H' → DpAll K H' (as.map V.ref) ds
  | [], [], _, _, _ => ⟨[], FineAll.nil 2, fun _ _ => .nil⟩
  | a :: as, k :: ks, l, at_, ok => by
    obtain ⟨ds, f, dp⟩ := kts_dp as ks (by rw [List.length_cons, List.length_cons] at l; omega) (fun j a k e1 e2 => at_ (j + 1) a k e1 e2) fun k hk => ok k (List.mem_cons_of_mem _ hk)
    obtain ⟨t, b, h1, h2⟩ := (at_ 0 a k rfl rfl).ex
    obtain ⟨o1, o2, o3, o4⟩ := ok k List.mem_cons_self
    obtain ⟨dt, ft, dpt⟩ := ldl_dp h2 o3 o4
    have fk := FineAll.tup (FineAll.cons (Fine.ldl 1 o1 o2) (FineAll.cons ft (FineAll.nil 1)))
    have fa := FineAll.cons (fk.up (w' := 1099) (Nat.le_refl _) (by omega)) f
    refine ⟨.tuple [.int k.1, dt] :: ds, ?_, fun H' s => .cons (.tup (Same.tup s h1) (.cons (.int _) (.cons (dpt H' s) .nil))) (dp H' s)⟩
    have e : 1099 + 1 + 1100 * ks.length = 1100 * (k :: ks).length := by rw [List.length_cons]; omega
    rw [e] at fa
    exact fa
theorem DayAt.shows {K : PySem.W.Frag} {H : Hp} {p a : Addr} {x : DyP} {D : Dy} (h : DayAt K H p a x D) (O : DyOk D) (N : DyNn D) : ∃ d, Fine 4 20000 d ∧ ∀ H', Same H H' → Dp K H' (.ref a) d := by
  have h2 := O.h2
  have k2 := O.k2
  obtain ⟨dc, fc, dpc⟩ := ldl_dp h.cs N.cs h2
  obtain ⟨dss, fs, dps⟩ := ldl_dp h.ss N.ss (by rw [O.sl]; exact h2)
  obtain ⟨dk, fk, dpk⟩ := kts_dp x.as D.ks h.len h.kt fun k hk => ⟨by have := (N.ks k hk).1; omega, (N.ks k hk).2.1, (N.ks k hk).2.2, by rw [O.ts k hk]; exact h2⟩
  have mid : ∃ d2, Fine 3 (1100 * D.ks.length) d2 ∧ PyData.depth d2 ≤ 3 ∧ ∀ H', Same H H' → Dp K H' (.ref x.k) d2 := by
    have hk := h.ks
    cases e : x.pk with
    | true =>
      rw [e] at hk
      exact ⟨.list dk, FineAll.lst fk, (FineAll.lst fk).dep, fun H' s => .lst (Same.seq s hk) (dpk H' s)⟩
    | false =>
      rw [e] at hk
      exact ⟨.tuple dk, FineAll.tup fk, (FineAll.tup fk).dep, fun H' s => .tup (Same.tup s hk) (dpk H' s)⟩
  obtain ⟨d2, f2, _, dp2⟩ := mid
  refine ⟨.tuple [dc, d2, dss], ?_, fun H' s => .tup (Same.tup s h.at_) (.cons (dpc H' s) (.cons (dp2 H' s) (.cons (dps H' s) .nil)))⟩
  have f := FineAll.tup (FineAll.cons (fc.up (k' := 3) (by decide) (Nat.le_refl _)) (FineAll.cons f2 (FineAll.cons (fs.up (k' := 3) (by decide) (Nat.le_refl _)) (FineAll.nil 3))))
  exact f.up (Nat.le_refl _) (by omega)
/-- a plan as data -/
def planD (D : Dy) : PyData := .list ((List.range (D.ks.length + 1)).map fun j => din (rowI D j))
theorem nums_dk {K : PySem.W.Frag} {H : Hp} {r : Addr} {ns : List Int} (n : Nat) (h : H r = some (.lst (ns.map V.int))) (l : ns.length ≤ 100000) : Dk K H (n + 2) (.ref r) (din ns) :=
  .lst h (by rw [List.length_map, List.length_map]) (by rw [List.length_map]; exact l) fun i x d e1 e2 => by
    rw [List.getElem?_map] at e1 e2
    obtain ⟨z, ez, rfl⟩ := Option.map_eq_some_iff.mp e1
    rw [ez] at e2
    cases e2
    exact .int n z
theorem plan_dk {K : PySem.W.Frag} {H : Hp} {f : Addr} {rs : List Addr} {D : Dy} (O : DyOk D) (hf : H f = some (.lst (rs.map V.ref))) (lr : rs.length = D.ks.length + 1) (rows : ∀ (j : Nat) (r : Addr), rs[j]? = some r → H r = some (.lst ((rowI D j).map V.int))) : Dk K H 5 (.ref f) (planD D) := by
  have k2 := O.k2
  have h2 := O.h2
  refine .lst hf (by rw [List.length_map, List.length_map, List.length_range, lr]) (by rw [List.length_map]; omega) fun i x d e1 e2 => ?_
  rw [List.getElem?_map] at e1 e2
  obtain ⟨r, er, rfl⟩ := Option.map_eq_some_iff.mp e1
  obtain ⟨j, ej, rfl⟩ := Option.map_eq_some_iff.mp e2
  obtain ⟨hi, rfl⟩ := List.getElem?_eq_some_iff.mp ej
  rw [List.getElem_range]
  exact nums_dk 2 (rows i r er) (by rw [row_len]; omega)
/-- how many are struck in all -/
def mostD (D : Dy) : Int := tk D D.cs.length D.ks.length
end KR
/-! ### things of any make, and xs[a:c] = ys -/
namespace KR
open PySem PySem.Spec PyProof.Rows L2
/-- xs[a:c] = ys, ys another list -/
def gSlS (to tl th : TE) : TG := fun v σ H Q => to σ H fun x H1 => tl σ H1 fun a H2 => th σ H2 fun c H3 => ∃ (l b : Addr) (xs ys : List V) (i j : Int), x = .ref l ∧ v = .ref b ∧ a = .int i ∧ c = .int j ∧ H3 l = some (.lst xs) ∧ H3 b = some (.lst ys) ∧ l ≠ b ∧ 0 ≤ i ∧ i ≤ j ∧ j ≤ xs.length ∧ xs.length + ys.length ≤ sizeLine ∧ Q σ (upd H3 l (.lst (xs.take i.toNat ++ ys ++ xs.drop j.toNat)))
theorem pg_slS {X : Cx} {o lo hi : Expr} {to tl th : TE} {p2 pos : Pos} (ho : PE X o to) (hl : PE X lo tl) (hh : PE X hi th)
    (ha : ∀ v, assign (.Subscript o (.Slice (some lo) (some hi) none p2) pos) X.env v = (do
      let ov ← holding [v] (eval o X.env)
      let iv ← holding [v, ov] (eval (.Slice (some lo) (some hi) none p2) X.env)
      standAt pos
      holding [v, ov, iv] (setItem ov iv v)
      release [iv, v, ov] []) := by intro _; rfl) : PG X (.Subscript o (.Slice (some lo) (some hi) none p2) pos) (gSlS to tl th) := by
  refine ⟨fun pins s σ H v u Q I r h => ?_⟩
  rw [ha]
  refine wpAny_bind (wpAny_holding (thn (ho.run pins s σ H _ I h) fun ov s1 ⟨x, H1, I1, r1, q1⟩ => ?_))
  refine wpAny_bind (wpAny_holding ?_)
  refine wpAny_Slice ?_
  rw [evalPart_some]
  refine thn (hl.run pins s1 σ H1 _ I1 q1) fun vl s2 ⟨a, H2, I2, ra, q2⟩ => ?_
  rw [evalPart_some]
  refine thn (hh.run pins s2 σ H2 _ I2 q2) fun vu s3 ⟨c, H3, I3, rc, q3⟩ => ?_
  rw [evalPart_none]
  refine wpAny_pure ?_
  obtain ⟨l, b, xs, ys, i, j, rfl, rfl, rfl, rfl, hx, hb, ne, i0, ij, jl, z, q⟩ := q3
  have I4 : Inv X pins σ H3 { s3 with heap := s3.heap.push { cls := .type "slice", data := .fields #[vl, vu, .none] } } := I3.kept (t' := s3.toks) fun b ob q => Heap.get?_push_of_some _ q
  obtain rfl : ov = .ref l := r1
  obtain rfl : u = .ref b := r
  refine wpAny_bind (wpAny_standAt (wpAny_bind (wpAny_holding ?_)))
  refine set_slice I4 hx hb ne (Heap.IsSliceOf.new ..) ra rc i0 ij jl z fun s5 I5 => ?_
  exact wpAny_release ⟨σ, _, I5, q⟩
/-- things whose lists are none of ours to write: ints to a bound, truths, None, texts, rows of such -/
inductive Tg (K : PySem.W.Frag) (p : Addr → Prop) (H : Hp) (B : Nat) : Nat → V → PyData → Prop
  | non (n : Nat) : Tg K p H B n .non .none
  | bl (n : Nat) (b : Bool) : Tg K p H B n (.bl b) (.bool b)
  | int (n : Nat) (i : Int) (h : i.natAbs ≤ B) : Tg K p H B n (.int i) (.int i)
  | str (n : Nat) (x : Str) (w : Nat) (l : x.length ≤ 10) (c : ∀ c ∈ TL.tl x, c < 128) : Tg K p H B n (.str x) (.str x)
  | lst {n : Nat} {a : Addr} {xs : List V} {ds : List PyData} : H a = some (.lst xs) → ¬ p a → xs.length = ds.length → (∀ (i : Nat) (x : V) (d : PyData), xs[i]? = some x → ds[i]? = some d → Tg K p H B n x d) → Tg K p H B (n + 1) (.ref a) (.list ds)
  | tup {n : Nat} {a : Addr} {xs : List V} {ds : List PyData} : SqT K H a xs → xs.length = ds.length → (∀ (i : Nat) (x : V) (d : PyData), xs[i]? = some x → ds[i]? = some d → Tg K p H B n x d) → Tg K p H B (n + 1) (.ref a) (.tuple ds)
theorem Tg.same {K : PySem.W.Frag} {p : Addr → Prop} {B : Nat} {H H' : Hp} (s : Same H H') : ∀ {n : Nat} {v : V} {d : PyData}, Tg K p H B n v d → Tg K p H' B n v d := by
  intro n v d h
  induction h with
  | non n => exact .non n
  | bl n b => exact .bl n b
  | int n i h => exact .int n i h
  | str n x w l c => exact .str n x w l c
  | lst h1 h2 h3 _ ih => exact .lst (s _ _ h1) h2 h3 ih
  | tup h1 h2 _ ih => exact .tup (Same.tup s h1) h2 ih
theorem Tg.fr {K : PySem.W.Frag} {p : Addr → Prop} {q : Addr} (hq : p q) {B m : Nat} {H H' : Hp} (b : BoxAt H q m) (F : Fr q H H') : ∀ {n : Nat} {v : V} {d : PyData}, Tg K p H B n v d → Tg K p H' B n v d := by
  intro n v d h
  induction h with
  | non n => exact .non n
  | bl n b => exact .bl n b
  | int n i h => exact .int n i h
  | str n x w l c => exact .str n x w l c
  | lst h1 h2 h3 _ ih => exact .lst (F _ _ (fun z => h2 (z ▸ hq)) h1) h2 h3 ih
  | tup h1 h2 _ ih => exact .tup (sqT_fr h1 b F) h2 ih
theorem Tg.up {K : PySem.W.Frag} {p : Addr → Prop} {B B' : Nat} {H : Hp} (hB : B ≤ B') : ∀ {n : Nat} {v : V} {d : PyData}, Tg K p H B n v d → ∀ {m : Nat}, n ≤ m → Tg K p H B' m v d := by
  intro n v d h
  induction h with
  | non n => exact fun _ => .non _
  | bl n b => exact fun _ => .bl _ b
  | int n i h => exact fun _ => .int _ i (Nat.le_trans h hB)
  | str n x w l c => exact fun _ => .str _ x w l c
  | lst h1 h2 h3 _ ih =>
    intro m le
    obtain ⟨k, rfl⟩ : ∃ k, m = k + 1 := ⟨m - 1, by omega⟩
    exact .lst h1 h2 h3 fun i x d a b => ih i x d a b (by omega)
  | tup h1 h2 _ ih =>
    intro m le
    obtain ⟨k, rfl⟩ : ∃ k, m = k + 1 := ⟨m - 1, by omega⟩
    exact .tup h1 h2 fun i x d a b => ih i x d a b (by omega)
theorem Tg.dp {K : PySem.W.Frag} {p : Addr → Prop} {B : Nat} {H : Hp} {n : Nat} {v : V} {d : PyData} (h : Tg K p H B n v d) : Dp K H v d := by
  induction h with
  | non n => exact .non
  | bl n b => exact .bl b
  | int n i h => exact .int i
  | str n x w l c => exact .str x
  | lst h1 h2 h3 _ ih => exact .lst (SqL.of h1) (dps_of h3 ih)
  | tup h1 h2 _ ih => exact .tup h1 (dps_of h2 ih)
/-- how much there is to a thing -/
theorem Tg.fine {K : PySem.W.Frag} {p : Addr → Prop} {B : Nat} {H : Hp} (b12 : B < 10 ^ 12) {n : Nat} {v : V} {d : PyData} (h : Tg K p H B n v d) : ∃ w, Fine n w d := by
  have many : ∀ {n : Nat} {xs : List V} {ds : List PyData}, xs.length = ds.length → (∀ (i : Nat) (x : V) (d : PyData), xs[i]? = some x → ds[i]? = some d → ∃ w, Fine n w d) → ∃ w, FineAll n w ds := fun {n} => by
    intro xs
    induction xs with
    | nil =>
      intro ds l _
      cases ds with
      | nil => exact ⟨0, FineAll.nil n⟩
      | cons d ds => cases l
    | cons x xs ih =>
      intro ds l at_
      cases ds with
      | nil => cases l
      | cons d ds =>
        obtain ⟨w1, f1⟩ := at_ 0 x d rfl rfl
        obtain ⟨w2, f2⟩ := ih (by rw [List.length_cons, List.length_cons] at l; omega) fun i x d e1 e2 => at_ (i + 1) x d e1 e2
        exact ⟨_, FineAll.cons f1 f2⟩
  induction h with
  | non n => exact ⟨0, Fine.non n⟩
  | bl n b => exact ⟨0, ⟨rfl, Nat.zero_le _, Nat.le_refl _, rfl, rfl, rfl⟩⟩
  | int n i h =>
    have z : i.natAbs < 10 ^ 12 := by omega
    have e : (10 : Nat) ^ 12 < 2 ^ 40 := by decide
    refine ⟨PyData.weight (.int i), ⟨rfl, Nat.zero_le _, Nat.le_refl _, decide_eq_true (PyData.shown_int_le z), decide_eq_true ?_, rfl⟩⟩
    by_cases c : i.natAbs = 0
    · rw [c]
      decide
    · have := (Nat.log2_lt c).mpr (Nat.lt_trans z e)
      omega
  | str n x w l c => exact ⟨10, Fine.str n l c⟩
  | lst h1 h2 h3 _ ih =>
    obtain ⟨w, f⟩ := many h3 ih
    exact ⟨w, FineAll.lst f⟩
  | tup h1 h2 _ ih =>
    obtain ⟨w, f⟩ := many h2 ih
    exact ⟨w, FineAll.tup f⟩
/-- rows of things -/
def TgAll (K : PySem.W.Frag) (p : Addr → Prop) (H : Hp) (B n : Nat) (xs : List V) (ds : List PyData) : Prop := xs.length = ds.length ∧ ∀ (i : Nat) (x : V) (d : PyData), xs[i]? = some x → ds[i]? = some d → Tg K p H B n x d
theorem TgAll.nil {K : PySem.W.Frag} {p : Addr → Prop} {H : Hp} {B n : Nat} : TgAll K p H B n [] [] := ⟨rfl, fun i x d h => by simp at h⟩
theorem TgAll.cons {K : PySem.W.Frag} {p : Addr → Prop} {H : Hp} {B n : Nat} {x : V} {d : PyData} {xs : List V} {ds : List PyData} (h : Tg K p H B n x d) (t : TgAll K p H B n xs ds) : TgAll K p H B n (x :: xs) (d :: ds) :=
  ⟨by rw [List.length_cons, List.length_cons, t.1], fun i u v hu hv => match i, hu, hv with
    | 0, hu, hv => by cases hu; cases hv; exact h
    | i + 1, hu, hv => t.2 i u v hu hv⟩
theorem TgAll.tail {K : PySem.W.Frag} {p : Addr → Prop} {H : Hp} {B n : Nat} {x : V} {d : PyData} {xs : List V} {ds : List PyData} (t : TgAll K p H B n (x :: xs) (d :: ds)) : Tg K p H B n x d ∧ TgAll K p H B n xs ds :=
  ⟨t.2 0 x d rfl rfl, by have := t.1; rw [List.length_cons, List.length_cons] at this; omega, fun i u v hu hv => t.2 (i + 1) u v hu hv⟩
theorem TgAll.app {K : PySem.W.Frag} {p : Addr → Prop} {H : Hp} {B n : Nat} : ∀ {xs : List V} {ds : List PyData} {ys : List V} {es : List PyData}, TgAll K p H B n xs ds → TgAll K p H B n ys es → TgAll K p H B n (xs ++ ys) (ds ++ es)
  | [], [], _, _, _, h => h
  | [], _ :: _, _, _, h, _ => by have := h.1; cases this
  | _ :: _, [], _, _, h, _ => by have := h.1; cases this
  | _ :: _, _ :: _, _, _, h, h' => .cons h.tail.1 (TgAll.app h.tail.2 h')
theorem TgAll.take {K : PySem.W.Frag} {p : Addr → Prop} {H : Hp} {B n : Nat} {xs : List V} {ds : List PyData} (h : TgAll K p H B n xs ds) (k : Nat) : TgAll K p H B n (xs.take k) (ds.take k) :=
  ⟨by rw [List.length_take, List.length_take, h.1], fun i x d e1 e2 => by
    rw [List.getElem?_take] at e1 e2
    split at e1
    · rename_i c
      rw [if_pos c] at e2
      exact h.2 i x d e1 e2
    · cases e1⟩
theorem TgAll.drop {K : PySem.W.Frag} {p : Addr → Prop} {H : Hp} {B n : Nat} {xs : List V} {ds : List PyData} (h : TgAll K p H B n xs ds) (k : Nat) : TgAll K p H B n (xs.drop k) (ds.drop k) :=
  ⟨by rw [List.length_drop, List.length_drop, h.1], fun i x d e1 e2 => by
    rw [List.getElem?_drop] at e1 e2
    exact h.2 _ x d e1 e2⟩
theorem TgAll.rev {K : PySem.W.Frag} {p : Addr → Prop} {H : Hp} {B n : Nat} : ∀ {xs : List V} {ds : List PyData}, TgAll K p H B n xs ds → TgAll K p H B n xs.reverse ds.reverse
  | [], [], _ => .nil
  | [], _ :: _, h => by have := h.1; cases this
  | _ :: _, [], h => by have := h.1; cases this
  | _ :: _, _ :: _, h => by
    rw [List.reverse_cons, List.reverse_cons]
    exact TgAll.app (TgAll.rev h.tail.2) (.cons h.tail.1 .nil)
theorem TgAll.same {K : PySem.W.Frag} {p : Addr → Prop} {H H' : Hp} {B n : Nat} {xs : List V} {ds : List PyData} (h : TgAll K p H B n xs ds) (s : Same H H') : TgAll K p H' B n xs ds := ⟨h.1, fun i x d e1 e2 => (h.2 i x d e1 e2).same s⟩
theorem TgAll.fr {K : PySem.W.Frag} {p : Addr → Prop} {H H' : Hp} {B n m : Nat} {xs : List V} {ds : List PyData} {q : Addr} (hq : p q) (h : TgAll K p H B n xs ds) (b : BoxAt H q m) (F : Fr q H H') : TgAll K p H' B n xs ds := ⟨h.1, fun i x d e1 e2 => (h.2 i x d e1 e2).fr hq b F⟩
theorem TgAll.up {K : PySem.W.Frag} {p : Addr → Prop} {H : Hp} {B B' n m : Nat} {xs : List V} {ds : List PyData} (h : TgAll K p H B n xs ds) (hB : B ≤ B') (le : n ≤ m) : TgAll K p H B' m xs ds := ⟨h.1, fun i x d e1 e2 => (h.2 i x d e1 e2).up hB le⟩
/-- numbers and truths as numbers -/
def numOf : V → Option Int
  | .int i => some i
  | .bl b => some (if b = true then 1 else 0)
  | _ => none
def rNb (f : Int → Int → Int) : R2 := fun x y H Q => ∃ i j, numOf x = some i ∧ y = .int j ∧ Q (.int (f i j)) H
theorem op_addNb {X : Cx} : OpR X (binaryOp .Add) (rNb fun i j => i + j) := by
  intro pins s σ H x y v u Q I rx ry ⟨i, j, e, e2, q⟩
  cases x <;> try (cases e; done)
  case bl b =>
    cases e
    subst e2
    obtain ⟨t, rfl⟩ := ry
    cases rx
    exact PySem.IntBool.add_bool_int ⟨.int _, H, I.tok _, ⟨_, rfl⟩, q⟩
  case int i => cases e; exact op_add pins s σ H _ y v u Q I rx ry ⟨_, j, rfl, e2, q⟩
theorem op_subNb {X : Cx} : OpR X (binaryOp .Sub) (rNb fun i j => i - j) := by
  intro pins s σ H x y v u Q I rx ry ⟨i, j, e, e2, q⟩
  cases x <;> try (cases e; done)
  case bl b =>
    cases e
    subst e2
    obtain ⟨t, rfl⟩ := ry
    cases rx
    exact PySem.IntBool.sub_bool_int ⟨.int _, H, I.tok _, ⟨_, rfl⟩, q⟩
  case int i => cases e; exact op_sub pins s σ H _ y v u Q I rx ry ⟨_, j, rfl, e2, q⟩
/-- how a thing looks: a leaf, or a row -/
theorem Tg.look {K : PySem.W.Frag} {p : Addr → Prop} {q : Addr} (hq : p q) {B : Nat} {H : Hp} {n : Nat} {v : V} {d : PyData} (hB : 1 ≤ B) (h : Tg K p H B n v d) :
    (∃ (t : String) (bi : Bool), (∀ H2, TyX K H2 v (.type t)) ∧ kitB t "list" = some false ∧ kitB t "tuple" = some false ∧ kitB t "int" = some bi ∧ (bi = true → (∃ i, numOf v = some i ∧ i.natAbs ≤ B) ∧ SeqAt.shaped d = true)) ∨
    (∃ (t : String) (bl bt : Bool) (a : Addr) (xs : List V) (ds : List PyData) (m : Nat), v = .ref a ∧ n = m + 1 ∧ (∀ (H' : Hp) (mm : Nat), BoxAt H q mm → Fr q H H' → TyX K H' v (.type t)) ∧ kitB t "list" = some bl ∧ kitB t "tuple" = some bt ∧ (bl = false → bt = true) ∧ (SqL K H a xs ∨ SqT K H a xs) ∧ TgAll K p H B m xs ds ∧ PyData.weight d = PyData.weightAll ds) := by
  cases h with
  | non n => exact .inl ⟨"NoneType", false, fun _ => .base .non, by decide +kernel, by decide +kernel, by decide +kernel, fun z => nomatch z⟩
  | bl n b => exact .inl ⟨"bool", true, fun _ => .base (.bl b), by decide +kernel, by decide +kernel, by decide +kernel, fun _ => ⟨⟨_, rfl, by cases b <;> simp <;> omega⟩, rfl⟩⟩
  | int n i h => exact .inl ⟨"int", true, fun _ => .base (.int i), by decide +kernel, by decide +kernel, by decide +kernel, fun _ => ⟨⟨_, rfl, h⟩, rfl⟩⟩
  | str n x w l c => exact .inl ⟨"str", false, fun _ => .base (.str x), by decide +kernel, by decide +kernel, by decide +kernel, fun z => nomatch z⟩
  | lst h1 h2 h3 h4 => exact .inr ⟨"list", true, false, _, _, _, _, rfl, rfl, fun H' mm b F => .base (.lst (F _ _ (fun z => h2 (z ▸ hq)) h1)), by decide +kernel, by decide +kernel, (fun z => nomatch z), .inl (SqL.of h1), ⟨h3, h4⟩, rfl⟩
  | tup h1 h2 h3 => exact .inr ⟨"tuple", false, true, _, _, _, _, rfl, rfl, fun H' mm b F => sqT_ty (sqT_fr h1 b F), by decide +kernel, by decide +kernel, fun _ => rfl, .inr h1, ⟨h2, h3⟩, rfl⟩
theorem wt_int {i : Int} (h : i.natAbs < 2 ^ 21) : PyData.weight (.int i) ≤ 21 := by
  show (if i == 0 then 0 else i.natAbs.log2 + 1) ≤ 21
  by_cases c : i = 0
  · rw [c]
    decide
  · rw [if_neg (by simpa using c)]
    have := (Nat.log2_lt (show i.natAbs ≠ 0 by omega)).mpr h
    omega
theorem TgAll.at_ {K : PySem.W.Frag} {p : Addr → Prop} {H : Hp} {B n : Nat} {xs : List V} {ds : List PyData} (h : TgAll K p H B n xs ds) {i : Nat} (lt : i < xs.length) : ∃ x d, xs[i]? = some x ∧ ds[i]? = some d ∧ Tg K p H B n x d := by
  have l2 : i < ds.length := by rw [← h.1]; exact lt
  exact ⟨xs[i], ds[i], List.getElem?_eq_getElem lt, List.getElem?_eq_getElem l2, h.2 i _ _ (List.getElem?_eq_getElem lt) (List.getElem?_eq_getElem l2)⟩
theorem wa_app : ∀ (a b : List PyData), PyData.weightAll (a ++ b) = PyData.weightAll a + PyData.weightAll b
  | [], b => by rw [List.nil_append]; show _ = 0 + _; omega
  | x :: a, b => by
    show PyData.weight x + 1 + PyData.weightAll (a ++ b) = (PyData.weight x + 1 + PyData.weightAll a) + _
    rw [wa_app a b]
    omega
theorem wa_cut (a : List PyData) (k : Nat) : PyData.weightAll (a.take k) + PyData.weightAll (a.drop k) = PyData.weightAll a := by
  rw [← wa_app, List.take_append_drop]
theorem wa_rev : ∀ (a : List PyData), PyData.weightAll a.reverse = PyData.weightAll a
  | [] => rfl
  | x :: a => by
    rw [List.reverse_cons, wa_app, wa_rev a]
    show _ + (PyData.weight x + 1 + 0) = PyData.weight x + 1 + _
    omega
theorem wa_at {a : List PyData} {k : Nat} {d : PyData} (h : a[k]? = some d) : PyData.weightAll (a.take k) + (PyData.weight d + 1) + PyData.weightAll (a.drop (k + 1)) = PyData.weightAll a := by
  obtain ⟨lt, e⟩ := List.getElem?_eq_some_iff.mp h
  have h1 := wa_cut a k
  rw [List.drop_eq_getElem_cons lt, e] at h1
  have h2 : PyData.weightAll (d :: a.drop (k + 1)) = PyData.weight d + 1 + PyData.weightAll (a.drop (k + 1)) := rfl
  rw [h2] at h1
  omega
theorem TgAll.set {K : PySem.W.Frag} {p : Addr → Prop} {H : Hp} {B n : Nat} {xs : List V} {ds : List PyData} (h : TgAll K p H B n xs ds) {k : Nat} {x : V} {d : PyData} (hx : Tg K p H B n x d) : TgAll K p H B n (xs.set k x) (ds.set k d) := by
  refine ⟨by rw [List.length_set, List.length_set]; exact h.1, fun i y e e1 e2 => ?_⟩
  rw [List.getElem?_set] at e1 e2
  by_cases c : k = i
  · subst c
    rw [if_pos rfl] at e1 e2
    split at e1
    · cases e1
      split at e2
      · cases e2
        exact hx
      · cases e2
    · cases e1
  · rw [if_neg c] at e1 e2
    exact h.2 i y e e1 e2
theorem wa_set {a : List PyData} {k : Nat} {d e : PyData} (h : a[k]? = some d) : PyData.weightAll (a.set k e) + PyData.weight d = PyData.weightAll a + PyData.weight e := by
  obtain ⟨lt, _⟩ := List.getElem?_eq_some_iff.mp h
  have h1 := wa_at h
  rw [List.set_eq_take_append_cons_drop, if_pos lt, wa_app]
  have h2 : PyData.weightAll (e :: a.drop (k + 1)) = PyData.weight e + 1 + PyData.weightAll (a.drop (k + 1)) := rfl
  rw [h2]
  omega
/-- a row of things whose list is written anew -/
theorem TgAll.put {K : PySem.W.Frag} {p : Addr → Prop} {H0 H : Hp} {B n : Nat} {xs ys : List V} {ds : List PyData} {r : Addr} (h : TgAll K p H0 B n xs ds) (s : Same H0 H) (nr : H0 r = none) : TgAll K p (upd H r (.lst ys)) B n xs ds := h.same (Same.put s nr)
/-- a part of a row of things -/
theorem TgAll.cut {K : PySem.W.Frag} {p : Addr → Prop} {H : Hp} {B n : Nat} {xs : List V} {ds : List PyData} (h : TgAll K p H B n xs ds) (lo hi : Option Int) : ∃ es, TgAll K p H B n (cutV xs lo hi) es ∧ PyData.weightAll es ≤ PyData.weightAll ds := by
  unfold cutV
  refine ⟨_, (h.drop _).take _, ?_⟩
  have h1 := wa_cut (ds.drop (HT.sIx xs.length 0 lo)) (HT.sIx xs.length xs.length hi - HT.sIx xs.length 0 lo)
  have h2 := wa_cut ds (HT.sIx xs.length 0 lo)
  omega
theorem wa_len : ∀ l : List PyData, l.length ≤ PyData.weightAll l
  | [] => Nat.le_refl _
  | y :: l => by
    have := wa_len l
    show l.length + 1 ≤ PyData.weight y + 1 + PyData.weightAll l
    omega
/-- things that avoid more -/
theorem Tg.avoid {K : PySem.W.Frag} {p : Addr → Prop} {r : Addr} {B : Nat} {H0 : Hp} (s : H0 r = none) : ∀ {n : Nat} {v : V} {d : PyData}, Tg K p H0 B n v d → Tg K (fun a => p a ∨ a = r) H0 B n v d := by
  intro n v d h
  induction h with
  | non n => exact .non n
  | bl n b => exact .bl n b
  | int n i h => exact .int n i h
  | str n x w l c => exact .str n x w l c
  | lst h1 h2 h3 _ ih => exact .lst h1 (fun z => z.elim h2 (ne_of_none h1 s)) h3 ih
  | tup h1 h2 _ ih => exact .tup h1 h2 ih
theorem Tg.less {K : PySem.W.Frag} {p p' : Addr → Prop} (le : ∀ a, p' a → p a) {B : Nat} {H : Hp} : ∀ {n : Nat} {v : V} {d : PyData}, Tg K p H B n v d → Tg K p' H B n v d := by
  intro n v d h
  induction h with
  | non n => exact .non n
  | bl n b => exact .bl n b
  | int n i h => exact .int n i h
  | str n x w l c => exact .str n x w l c
  | lst h1 h2 h3 _ ih => exact .lst h1 (fun z => h2 (le _ z)) h3 ih
  | tup h1 h2 _ ih => exact .tup h1 h2 ih
/-- a list that things avoid is written -/
theorem Tg.wr {K : PySem.W.Frag} {p : Addr → Prop} {r : Addr} (hr : p r) {B : Nat} {H : Hp} {xs ys : List V} (h0 : H r = some (.lst xs)) : ∀ {n : Nat} {v : V} {d : PyData}, Tg K p H B n v d → Tg K p (upd H r (.lst ys)) B n v d := by
  intro n v d h
  induction h with
  | non n => exact .non n
  | bl n b => exact .bl n b
  | int n i h => exact .int n i h
  | str n x w l c => exact .str n x w l c
  | lst h1 h2 h3 _ ih => exact .lst ((upd_ne (fun z => h2 (by rw [z]; exact hr))).trans h1) h2 h3 ih
  | tup h1 h2 _ ih => exact .tup (sqT_frL h1 h0 fr_upd) h2 ih
theorem TgAll.wr {K : PySem.W.Frag} {p : Addr → Prop} {r : Addr} (hr : p r) {B n : Nat} {H : Hp} {xs ys : List V} (h0 : H r = some (.lst xs)) {zs : List V} {ds : List PyData} (h : TgAll K p H B n zs ds) : TgAll K p (upd H r (.lst ys)) B n zs ds := ⟨h.1, fun i x d e1 e2 => (h.2 i x d e1 e2).wr hr h0⟩
theorem TgAll.less {K : PySem.W.Frag} {p p' : Addr → Prop} (le : ∀ a, p' a → p a) {B n : Nat} {H : Hp} {zs : List V} {ds : List PyData} (h : TgAll K p H B n zs ds) : TgAll K p' H B n zs ds := ⟨h.1, fun i x d e1 e2 => (h.2 i x d e1 e2).less le⟩
end KR
/-! ### what a thing of any make is -/
namespace KR
open PySem PySem.Spec PyProof.Rows L2
def isL : PyData → Bool
  | .list _ => true
  | _ => false
def isT : PyData → Bool
  | .tuple _ => true
  | _ => false
def isS : PyData → Bool
  | .str _ => true
  | _ => false
def isI : PyData → Bool
  | .int _ => true
  | _ => false
def isBo : PyData → Bool
  | .bool _ => true
  | _ => false
theorem Tg.ty {K : PySem.W.Frag} {p : Addr → Prop} {H : Hp} {B n : Nat} {v : V} {d : PyData} (h : Tg K p H B n v d) : ∃ t : String, TyX K H v (.type t) ∧ kitB t "list" = some (isL d) ∧ kitB t "tuple" = some (isT d) ∧ kitB t "int" = some (isI d || isBo d) ∧ kitB t "bool" = some (isBo d) ∧ kitB t "str" = some (isS d) := by
  cases h with
  | non n => exact ⟨"NoneType", .base .non, by show kitB "NoneType" "list" = some false; decide +kernel, by show kitB "NoneType" "tuple" = some false; decide +kernel, by show kitB "NoneType" "int" = some false; decide +kernel, by show kitB "NoneType" "bool" = some false; decide +kernel, by show kitB "NoneType" "str" = some false; decide +kernel⟩
  | bl n b => exact ⟨"bool", .base (.bl b), by show kitB "bool" "list" = some false; decide +kernel, by show kitB "bool" "tuple" = some false; decide +kernel, by show kitB "bool" "int" = some true; decide +kernel, by show kitB "bool" "bool" = some true; decide +kernel, by show kitB "bool" "str" = some false; decide +kernel⟩
  | int n i h => exact ⟨"int", .base (.int i), by show kitB "int" "list" = some false; decide +kernel, by show kitB "int" "tuple" = some false; decide +kernel, by show kitB "int" "int" = some true; decide +kernel, by show kitB "int" "bool" = some false; decide +kernel, by show kitB "int" "str" = some false; decide +kernel⟩
  | str n x w l c => exact ⟨"str", .base (.str x), by show kitB "str" "list" = some false; decide +kernel, by show kitB "str" "tuple" = some false; decide +kernel, by show kitB "str" "int" = some false; decide +kernel, by show kitB "str" "bool" = some false; decide +kernel, by show kitB "str" "str" = some true; decide +kernel⟩
  | lst h1 h2 h3 h4 => exact ⟨"list", .base (.lst h1), by show kitB "list" "list" = some true; decide +kernel, by show kitB "list" "tuple" = some false; decide +kernel, by show kitB "list" "int" = some false; decide +kernel, by show kitB "list" "bool" = some false; decide +kernel, by show kitB "list" "str" = some false; decide +kernel⟩
  | tup h1 h2 h3 => exact ⟨"tuple", sqT_ty h1, by show kitB "tuple" "list" = some false; decide +kernel, by show kitB "tuple" "tuple" = some true; decide +kernel, by show kitB "tuple" "int" = some false; decide +kernel, by show kitB "tuple" "bool" = some false; decide +kernel, by show kitB "tuple" "str" = some false; decide +kernel⟩
theorem Tg.tupI {K : PySem.W.Frag} {p : Addr → Prop} {H : Hp} {B n : Nat} {v : V} {d : PyData} (h : Tg K p H B n v d) (e : isT d = true) : ∃ (a : Addr) (xs : List V) (ds : List PyData) (m : Nat), v = .ref a ∧ d = .tuple ds ∧ n = m + 1 ∧ SqT K H a xs ∧ TgAll K p H B m xs ds := by
  cases h <;> try (cases e; done)
  case tup h1 h2 h3 => exact ⟨_, _, _, _, rfl, rfl, rfl, h1, h2, h3⟩
theorem Tg.lstI {K : PySem.W.Frag} {p : Addr → Prop} {H : Hp} {B n : Nat} {v : V} {d : PyData} (h : Tg K p H B n v d) (e : isL d = true) : ∃ (a : Addr) (xs : List V) (ds : List PyData) (m : Nat), v = .ref a ∧ d = .list ds ∧ n = m + 1 ∧ H a = some (.lst xs) ∧ TgAll K p H B m xs ds := by
  cases h <;> try (cases e; done)
  case lst h1 h2 h3 h4 => exact ⟨_, _, _, _, rfl, rfl, rfl, h1, h3, h4⟩
theorem Tg.intI {K : PySem.W.Frag} {p : Addr → Prop} {H : Hp} {B n : Nat} {v : V} {d : PyData} (h : Tg K p H B n v d) (e : isI d = true) : ∃ i : Int, v = .int i ∧ d = .int i ∧ i.natAbs ≤ B := by
  cases h <;> try (cases e; done)
  case int i h => exact ⟨i, rfl, rfl, h⟩
theorem Tg.strI {K : PySem.W.Frag} {p : Addr → Prop} {H : Hp} {B n : Nat} {v : V} {d : PyData} (h : Tg K p H B n v d) (e : isS d = true) : ∃ x : Str, v = .str x ∧ d = .str x := by
  cases h <;> try (cases e; done)
  case str x _ l c => exact ⟨x, rfl, rfl⟩
theorem boI {d : PyData} (h : isBo d = true) : isI d = false := by
  cases d <;> first | rfl | exact nomatch h
theorem TgAll.l {K : PySem.W.Frag} {p : Addr → Prop} {H : Hp} {B n : Nat} {a : Addr} {xs : List V} {ds : List PyData} (t : TgAll K p H B n xs ds) (h : H a = some (.lst xs)) (na : ¬ p a) : Tg K p H B (n + 1) (.ref a) (.list ds) := .lst h na t.1 t.2
theorem TgAll.t {K : PySem.W.Frag} {p : Addr → Prop} {H : Hp} {B n : Nat} {a : Addr} {xs : List V} {ds : List PyData} (t : TgAll K p H B n xs ds) (h : SqT K H a xs) : Tg K p H B (n + 1) (.ref a) (.tuple ds) := .tup h t.1 t.2
theorem Tg.show_ {K : PySem.W.Frag} {p : Addr → Prop} {H : Hp} {B n w : Nat} (b12 : B < 10 ^ 12) {v : V} {d : PyData} (h : Tg K p H B n v d) (le : PyData.weight d ≤ w) : Fine n w d := by
  obtain ⟨w', f⟩ := h.fine b12
  exact ⟨f.lay, f.dep, le, f.ish, f.sh, f.nd⟩
end KR
/-! ### str of any such data -/
namespace KR
open PySem PySem.Spec PyProof.Rows L2
def strD : PyData → Str
  | .str x => x
  | d => d.shown
def rStrV (K : PySem.W.Frag) : List V → Hp → VK → Prop := fun xs H Q => ∃ (v : V) (d : PyData), xs = [v] ∧ Dp K H v d ∧ (isS d = true ∨ ∃ k w : Nat, Fine k w d ∧ k ≤ 60 ∧ w ≤ 100000) ∧ Q (.str (strD d)) H
theorem strD_small {K : PySem.W.Frag} {p : Addr → Prop} {H : Hp} {B n : Nat} {v : V} {d : PyData} (h : Tg K p H B n v d) (hB : B < 10 ^ 7) (nl : isL d = false) (nt : isT d = false) : (strD d).length ≤ 10 ∧ ∀ c ∈ TL.tl (strD d), c < 128 := by
  cases h with
  | non n => exact ⟨by decide +kernel, by decide +kernel⟩
  | bl n b => cases b <;> exact ⟨by decide +kernel, by decide +kernel⟩
  | int n i h =>
    refine ⟨?_, fun c hc => ?_⟩
    · show (PyData.int i).shown.length ≤ 10
      rw [PyData.shown_int]
      have e := int_text_length_le10 (a := i) (k := 7) (by decide) (by omega)
      show (Str.ofString (toString i)).length ≤ 10
      rw [PySem.ofString_length]
      omega
    · exact Nat.lt_of_not_le fun z => shown_int_free' (k := c) ⟨by omega, .inr (by omega)⟩ i hc
  | str n x w l c => exact ⟨l, c⟩
  | lst h1 h2 h3 h4 => exact nomatch nl
  | tup h1 h2 h3 => exact nomatch nt
/-- xs[a:c] = ys, c beyond the end too -/
theorem boundsC {a c n : Nat} (ha : a ≤ n) : sliceBounds (some (a : Int)) (some (c : Int)) none n = ((a : Int), ((min c n : Nat) : Int), 1) := by
  obtain ⟨e1, e2, e3⟩ := L2.slice_bounds (some (a : Int)) (some (c : Int)) n
  have s1 : HT.sIx n 0 (some (a : Int)) = a := by show (if (a : Int) < 0 then ((a : Int) + (n : Int)).toNat else min (a : Int).toNat n) = a; rw [if_neg (by omega)]; omega
  have s2 : HT.sIx n n (some (c : Int)) = min c n := by show (if (c : Int) < 0 then ((c : Int) + (n : Int)).toNat else min (c : Int).toNat n) = min c n; rw [if_neg (by omega)]; omega
  rw [s1] at e1
  rw [s2] at e2
  exact Prod.ext e1 (Prod.ext e2 e3)
theorem put_sliceC {X : Cx} {pins : List (Addr × Obj)} {s : Shared} {σ : L2.St} {H : Hp} {l b sl : Addr} {xs ys : List V} {a c : Nat} {vl vu : Value} {Q : Unit → Shared → Prop} (I : Inv X pins σ H s)
    (hH : H l = some (.lst xs)) (hB : H b = some (.lst ys)) (ne : l ≠ b) (hs : s.heap.IsSliceOf sl vl vu .none) (ra : RelV (.int a) vl) (rc : RelV (.int c) vu) (hac : a ≤ c) (ha : a ≤ xs.length)
    (hz : xs.length + ys.length ≤ sizeLine) (h : ∀ s', Inv X pins σ (upd H l (.lst (xs.take a ++ ys ++ xs.drop c))) s' → Q () s') :
    wpAny (model X.prog X.w) X.A (setItem (.ref l) (.ref sl) (.ref b)) Q X.xe s := by
  obtain ⟨ta, rfl⟩ := ra
  obtain ⟨tc, rfl⟩ := rc
  obtain ⟨z1, us, m1, r1, l1, g1⟩ := I.lstM hH
  obtain ⟨z2, ws, m2, r2, l2, g2⟩ := I.lstM hB
  have n1 : us.toArray.size = xs.length := by rw [List.size_toArray]; exact l1.symm
  have fit : us.toArray.size + ws.toArray.size ≤ sizeLine := by rw [List.size_toArray, List.size_toArray]; omega
  have isl := PySem.IsL.isList g1
  have isb := PySem.IsL.isList g2
  obtain ⟨so, gs, cs, ds⟩ := id hs
  have other : Builtin.List.listSameRef (.ref l) (.ref b) = false := beq_eq_false_iff_ne.mpr ne
  have top : (max (a : Int) ((min c us.toArray.size : Nat) : Int)).toNat = min c us.toArray.size := by omega
  have size' : ((fun q : Array Value => q.extract 0 a ++ ws.toArray ++ q.extract (min c us.toArray.size) q.size) us.toArray).size ≤ sizeLine + 1 := by
    simp only [Array.size_append, Array.size_extract]
    omega
  have back : Inv X pins σ (upd H l (.lst (xs.take a ++ ys ++ xs.drop c))) { s with heap := s.heap.update l (Obj.mapSeq fun q => q.extract 0 a ++ ws.toArray ++ q.extract (min c us.toArray.size) q.size) } := by
    refine I.lset (its' := us.take a ++ ws ++ us.drop c) (t' := s.toks) hH g1 ?_ (Vals.append (Vals.append (r1.take _) r2) (r1.drop _)) ?_
    · rw [show us.drop c = us.drop (min c us.toArray.size) by
        by_cases q : c ≤ us.length
        · rw [List.size_toArray, Nat.min_eq_left q]
        · rw [List.size_toArray, Nat.min_eq_right (by omega), List.drop_of_length_le (by omega), List.drop_of_length_le (Nat.le_refl _)]]
      exact L2.splice_eq us ws a _
    · rw [List.length_append, List.length_append, List.length_take, List.length_drop]
      omega
  unfold setItem
  refine wpAny_holding (wpAny_bind (wpAny_sequenceKey isl.typeIs (by decide) ?_))
  refine wpAny_bind (wpAny_callSpecial?_slot (name := Str.ofString "__setitem__") isl.typeIs PySem.slot_list_setitem
    (wpAny_call_entry PySem.slot_list_setitem isl.typeIs PySem.entry_list_setitem ?_ (PySem.args_list_setitem _ _ _)))
  show wpAny _ _ (Builtin.List.listSubscript? (.ref sl) >>= _) _ _ s
  refine wpAny_bind ?_
  unfold Builtin.List.listSubscript?
  refine wpAny_bind (wpAny_specialOf ⟨so, gs, cs⟩ PySem.slice_no_index ?_)
  simp only [Option.isNone_none, if_true]
  refine wpAny_pure ?_
  show wpAny _ _ (typeOf (.ref sl) >>= _) _ _ s
  refine wpAny_bind (wpAny_typeOf ⟨so, gs, cs⟩ ?_)
  rw [if_neg (by decide), listSliceParts_eq]
  refine wpAny_bind (wpAny_bind (wpAny_field gs ds (x := .none) rfl (wpAny_bind (wpAny_listPart .none ?_))))
  rw [if_neg (show ¬ ((rawPart none == rawInt 0) = true) from Bool.false_ne_true)]
  refine wpAny_bind (wpAny_field gs ds rfl (wpAny_bind (wpAny_listPart (.int _ _) ?_)))
  refine wpAny_bind (wpAny_field gs ds rfl (wpAny_bind (wpAny_listPart (.int _ _) (wpAny_pure ?_))))
  rw [other]
  refine wpAny_bind (m := Builtin.List.listAllItems (.ref b) "must assign iterable to extended slice") ?_
  unfold Builtin.List.listAllItems
  refine wpAny_bind (wpAny_typeOf isb.typeIs ?_)
  rw [if_pos (by decide)]
  unfold Builtin.List.listItems
  refine wpAny_bind (wpAny_seqItems g2 rfl (wpAny_pure ?_))
  refine wpAny_bind (wpAny_bind (wpAny_seqItems g1 rfl (wpAny_pure ?_)))
  refine wpAny_bind (wpAny_of_eq ((sliceIndices_raw (some (a : Int)) (some (c : Int)) none us.toArray.size (by simp)).trans (congrArg (pure : Int × Int × Int → Sem (Int × Int × Int)) (boundsC (by omega)))) ?_)
  show wpAny _ _ (if ((1 : Int) == 1) = true then _ else _) _ _ s
  rw [if_pos (by decide)]
  refine wpAny_bind (wpAny_rule ?_)
  rw [if_neg (by rw [L2.notLongL fit]; exact Bool.false_ne_true)]
  show wpAny _ _ (updateSeq l (fun q => q.extract 0 ((a : Int)).toNat ++ ws.toArray ++ q.extract (max (a : Int) ((min c us.toArray.size : Nat) : Int)).toNat q.size) >>= _) _ _ s
  rw [top, Int.toNat_natCast]
  refine wpAny_bind (wpAny_updateSeq (hz := Nat.le_trans (Nat.le_add_right _ _) fit) (_hz' := size') g1 rfl ?_)
  refine wpAny_bind (wpAny_letGo ?_)
  exact wpAny_pure ⟨.none, rfl, wpAny_pure (h _ back)⟩
def gSlC (to tl th : TE) : TG := fun v σ H Q => to σ H fun x H1 => tl σ H1 fun a H2 => th σ H2 fun c H3 => ∃ (l b : Addr) (xs ys : List V) (i j : Nat), x = .ref l ∧ v = .ref b ∧ a = .int i ∧ c = .int j ∧ H3 l = some (.lst xs) ∧ H3 b = some (.lst ys) ∧ l ≠ b ∧ i ≤ j ∧ i ≤ xs.length ∧ xs.length + ys.length ≤ sizeLine ∧ Q σ (upd H3 l (.lst (xs.take i ++ ys ++ xs.drop j)))
theorem pg_slC {X : Cx} {o lo hi : Expr} {to tl th : TE} {p2 pos : Pos} (ho : PE X o to) (hl : PE X lo tl) (hh : PE X hi th)
    (ha : ∀ v, assign (.Subscript o (.Slice (some lo) (some hi) none p2) pos) X.env v = (do
      let ov ← holding [v] (eval o X.env)
      let iv ← holding [v, ov] (eval (.Slice (some lo) (some hi) none p2) X.env)
      standAt pos
      holding [v, ov, iv] (setItem ov iv v)
      release [iv, v, ov] []) := by intro _; rfl) : PG X (.Subscript o (.Slice (some lo) (some hi) none p2) pos) (gSlC to tl th) := by
  refine ⟨fun pins s σ H v u Q I r h => ?_⟩
  rw [ha]
  refine wpAny_bind (wpAny_holding (thn (ho.run pins s σ H _ I h) fun ov s1 ⟨x, H1, I1, r1, q1⟩ => ?_))
  refine wpAny_bind (wpAny_holding ?_)
  refine wpAny_Slice ?_
  rw [evalPart_some]
  refine thn (hl.run pins s1 σ H1 _ I1 q1) fun vl s2 ⟨a, H2, I2, ra, q2⟩ => ?_
  rw [evalPart_some]
  refine thn (hh.run pins s2 σ H2 _ I2 q2) fun vu s3 ⟨c, H3, I3, rc, q3⟩ => ?_
  rw [evalPart_none]
  refine wpAny_pure ?_
  obtain ⟨l, b, xs, ys, i, j, rfl, rfl, rfl, rfl, hx, hb, ne, ij, il, z, q⟩ := q3
  have I4 : Inv X pins σ H3 { s3 with heap := s3.heap.push { cls := .type "slice", data := .fields #[vl, vu, .none] } } := I3.kept (t' := s3.toks) fun b ob q => Heap.get?_push_of_some _ q
  obtain rfl : ov = .ref l := r1
  obtain rfl : u = .ref b := r
  refine wpAny_bind (wpAny_standAt (wpAny_bind (wpAny_holding ?_)))
  refine put_sliceC I4 hx hb ne (Heap.IsSliceOf.new ..) ra rc ij il z fun s5 I5 => ?_
  exact wpAny_release ⟨σ, _, I5, q⟩
end KR
namespace KR
open PySem PySem.Spec PyProof.Rows L2
theorem cr_strV {X : Cx} {K : PySem.W.Frag} (hK : X.K = K) (hg : X.A.guards = some []) (hu : X.A.units + 64 < cLine) : CallR X (.type "str") (rStrV K) := by
  subst hK
  intro pn s σ H xs us Q I r want
  obtain ⟨v, d, rfl, dp, fine, q⟩ := want
  cases r with
  | cons r1 r2 =>
    cases r2
    cases dp with
    | non =>
      cases r1
      exact PySem.P.str_of_none ⟨.str _, H, I.tok _, ⟨_, rfl⟩, q⟩
    | bl b =>
      cases r1
      exact PySem.P.str_of_bool ⟨.str _, H, I.tok _, ⟨_, rfl⟩, q⟩
    | int i =>
      obtain ⟨t, rfl⟩ := r1
      obtain z | ⟨k, w, f, hk, hw⟩ := fine
      · cases z
      exact PySem.P.str_of_int (of_decide_eq_true f.sh) ⟨.str _, H, I.tok _, ⟨_, rfl⟩, q⟩
    | str x =>
      obtain ⟨t, rfl⟩ := r1
      exact PySem.P.str_of_str ⟨.str _, H, I, ⟨_, rfl⟩, q⟩
    | lst a1 a2 =>
      obtain z | ⟨k, w, f, hk, hw⟩ := fine
      · cases z
      have len := f.line hk hw
      have dep := f.dep
      obtain ⟨as, rd⟩ := Dp.reads I _ _ _ (Dp.lst a1 a2) r1
      cases r1
      exact str_of_reads rd f.sh (PyData.noDict_hsm f.nd) hg (by omega) (fun _ _ e => e) (fun h' u tk hkk => ⟨.str _, H, I.kept (fun b o e => hkk b o e), ⟨_, rfl⟩, q⟩) len
    | tup a1 a2 =>
      obtain z | ⟨k, w, f, hk, hw⟩ := fine
      · cases z
      have len := f.line hk hw
      have dep := f.dep
      obtain ⟨as, rd⟩ := Dp.reads I _ _ _ (Dp.tup a1 a2) r1
      cases r1
      exact str_of_reads rd f.sh (PyData.noDict_hsm f.nd) hg (by omega) (fun _ _ e => e) (fun h' u tk hkk => ⟨.str _, H, I.kept (fun b o e => hkk b o e), ⟨_, rfl⟩, q⟩) len
end KR
/-! ### whether a thing is a day -/
namespace KR
open PySem PySem.Spec PyProof.Rows L2
theorem Tg.sm {K : PySem.W.Frag} {p : Addr → Prop} {B : Nat} {H H' : Hp} (s : Sm H H') : ∀ {n : Nat} {v : V} {d : PyData}, Tg K p H B n v d → Tg K p H' B n v d := by
  intro n v d h
  induction h with
  | non n => exact .non n
  | bl n b => exact .bl n b
  | int n i h => exact .int n i h
  | str n x w l c => exact .str n x w l c
  | lst h1 h2 h3 _ ih => exact .lst (s.lst h1) h2 h3 ih
  | tup h1 h2 _ ih => exact .tup (s.tup h1) h2 ih
theorem TgAll.sm {K : PySem.W.Frag} {p : Addr → Prop} {B n : Nat} {H H' : Hp} {xs : List V} {ds : List PyData} (h : TgAll K p H B n xs ds) (s : Sm H H') : TgAll K p H' B n xs ds := ⟨h.1, fun i x d e1 e2 => (h.2 i x d e1 e2).sm s⟩
def numIn (lo hi : Int) : PyData → Bool
  | .int i => decide (lo ≤ i) && decide (i ≤ hi)
  | _ => false
def ladB (h : Int) : PyData → Bool
  | .list xs => decide ((xs.length : Int) = h) && xs.all (numIn 0 1000000)
  | _ => false
def potB (h : Int) : PyData → Bool
  | .tuple [r, t] => numIn 1 1000000 r && ladB h t
  | _ => false
def isDayD : PyData → Bool
  | .tuple [.list cs, .list ks, s] => (decide (1 ≤ cs.length) && decide (cs.length ≤ 48)) && (decide (1 ≤ ks.length) && decide (ks.length ≤ 8)) && (ladB (cs.length : Int) (.list cs) && ladB (cs.length : Int) s) && ks.all (potB (cs.length : Int))
  | _ => false
theorem numIn_no {lo hi : Int} {d : PyData} (h : isI d = false) : numIn lo hi d = false := by
  cases d <;> first | rfl | exact nomatch h
theorem ladB_no {h : Int} {d : PyData} (n : isL d = false) : ladB h d = false := by
  cases d <;> first | rfl | exact nomatch n
theorem potB_no {h : Int} {d : PyData} (n : isT d = false) : potB h d = false := by
  cases d <;> first | rfl | exact nomatch n
theorem potB_len {h : Int} {ds : List PyData} (n : ds.length ≠ 2) : potB h (.tuple ds) = false := by
  match ds, n with
  | [], _ => rfl
  | [_], _ => rfl
  | [_, _], n => exact absurd rfl n
  | _ :: _ :: _ :: _, _ => rfl
theorem isDayD_no {d : PyData} (n : isT d = false) : isDayD d = false := by
  cases d <;> first | rfl | exact nomatch n
theorem isDayD_len {ds : List PyData} (n : ds.length ≠ 3) : isDayD (.tuple ds) = false := by
  match ds, n with
  | [], _ => rfl
  | [a], _ => cases a <;> rfl
  | [a, b], _ => cases a <;> first | rfl | (cases b <;> rfl)
  | [_, _, _], n => exact absurd rfl n
  | a :: b :: c :: e :: r, _ => cases a <;> first | rfl | (cases b <;> first | rfl | (cases c <;> rfl))
theorem isDayD_c {a b c : PyData} (n : isL a = false ∨ isL b = false) : isDayD (.tuple [a, b, c]) = false := by
  rcases n with n | n
  · cases a <;> first | rfl | exact nomatch n
  · cases a <;> first | rfl | (cases b <;> first | rfl | exact nomatch n)
theorem all_at {α : Type} {f : α → Bool} {l : List α} {i : Nat} {x : α} (h : l[i]? = some x) (n : f x = false) : l.all f = false := by
  rw [List.all_eq_false]
  exact ⟨x, List.mem_of_getElem? h, by rw [n]; exact Bool.false_ne_true⟩
theorem all_up {α : Type} {f : α → Bool} {l : List α} {i : Nat} {x : α} (t : (l.take i).all f = true) (h : l[i]? = some x) (y : f x = true) : (l.take (i + 1)).all f = true := by
  rw [take_one h, List.all_append, t]
  show (true && (f x && true)) = true
  rw [y] <;> rfl
theorem two {K : PySem.W.Frag} {Av : Addr → Prop} {H : Hp} {B n : Nat} {xs : List V} {ds : List PyData} (t : TgAll K Av H B n xs ds) (l : xs.length = 2) : ∃ x1 x2 d1 d2, xs = [x1, x2] ∧ ds = [d1, d2] ∧ Tg K Av H B n x1 d1 ∧ Tg K Av H B n x2 d2 := by
  match xs, ds, t, l with
  | [a, b], [d, e], t, _ => exact ⟨a, b, d, e, rfl, rfl, t.tail.1, t.tail.2.tail.1⟩
  | [a, b], [], t, _ => exact nomatch t.1
  | [a, b], [d], t, _ => exact nomatch t.1
  | [a, b], d :: e :: f :: r, t, _ => exact nomatch t.1
theorem threeT {K : PySem.W.Frag} {Av : Addr → Prop} {H : Hp} {B n : Nat} {xs : List V} {ds : List PyData} (t : TgAll K Av H B n xs ds) (l : xs.length = 3) : ∃ x1 x2 x3 d1 d2 d3, xs = [x1, x2, x3] ∧ ds = [d1, d2, d3] ∧ Tg K Av H B n x1 d1 ∧ Tg K Av H B n x2 d2 ∧ Tg K Av H B n x3 d3 := by
  match xs, ds, t, l with
  | [a, b, c], [d, e, f], t, _ => exact ⟨a, b, c, d, e, f, rfl, rfl, t.tail.1, t.tail.2.tail.1, t.tail.2.tail.2.tail.1⟩
  | [a, b, c], [], t, _ => exact nomatch t.1
  | [a, b, c], [d], t, _ => exact nomatch t.1
  | [a, b, c], [d, e], t, _ => exact nomatch t.1
  | [a, b, c], d :: e :: f :: g :: r, t, _ => exact nomatch t.1
/-- days as things -/
def potE (k : Int × List Int) : PyData := .tuple [.int k.1, din k.2]
def dayE (D : Dy) : PyData := .tuple [din D.cs, .list (D.ks.map potE), din D.ss]
theorem ldl_tg {K : PySem.W.Frag} {Av : Addr → Prop} {H : Hp} {n : Nat} {ns : List Int} (L : Ldl ns) : TgAll K Av H 1000000 n (ns.map V.int) (ns.map PyData.int) := by
  refine ⟨by rw [List.length_map, List.length_map], fun i x d e1 e2 => ?_⟩
  rw [List.getElem?_map] at e1 e2
  obtain ⟨z, ez, rfl⟩ := Option.map_eq_some_iff.mp e1
  rw [ez] at e2
  cases e2
  have := L z (List.mem_of_getElem? ez)
  exact .int _ _ (by omega)
theorem ldlL_tg {K : PySem.W.Frag} {Av : Addr → Prop} {H : Hp} {n : Nat} {a : Addr} {ns : List Int} (L : Ldl ns) (h : H a = some (.lst (ns.map V.int))) (na : ¬ Av a) : Tg K Av H 1000000 (n + 1) (.ref a) (din ns) := (ldl_tg L).l h na
theorem pots_tg {K : PySem.W.Frag} {H : Hp} {p f : Addr} {as : List Addr} {ks : List (Int × List Int)} (h : PotsF K H p f as ks) (ok : ∀ k ∈ ks, 1 ≤ k.1 ∧ k.1 ≤ 1000000 ∧ Ldl k.2) : TgAll K (fun a => a = p) H 1000000 2 (as.map V.ref) (ks.map potE) := by
  refine ⟨by rw [List.length_map, List.length_map, Paired.length h], fun i x d e1 e2 => ?_⟩
  rw [List.getElem?_map] at e1 e2
  obtain ⟨a, ea, rfl⟩ := Option.map_eq_some_iff.mp e1
  obtain ⟨k, ek, rfl⟩ := Option.map_eq_some_iff.mp e2
  obtain ⟨k', ek', t, h1, h2, h3, _⟩ := h.get ea
  rw [ek] at ek'
  cases ek'
  obtain ⟨o1, o2, o3⟩ := ok k (List.mem_of_getElem? ek)
  exact (TgAll.cons (.int _ _ (by omega)) (.cons (ldlL_tg (n := 0) o3 h2 h3) .nil)).t h1
theorem nums_in {ns : List Int} (L : Ldl ns) : (ns.map PyData.int).all (numIn 0 1000000) = true := by
  rw [List.all_eq_true]
  intro d hd
  obtain ⟨z, hz, rfl⟩ := List.mem_map.mp hd
  have := L z hz
  show (decide (0 ≤ z) && decide (z ≤ 1000000)) = true
  rw [decide_eq_true this.1, decide_eq_true this.2] <;> rfl
theorem ladB_din {h : Int} {ns : List Int} (L : Ldl ns) (l : (ns.length : Int) = h) : ladB h (din ns) = true := by
  show (decide (((ns.map PyData.int).length : Int) = h) && (ns.map PyData.int).all (numIn 0 1000000)) = true
  rw [nums_in L, decide_eq_true (by rw [List.length_map]; exact l)] <;> rfl
theorem dayE_is {D : Dy} (O : DyOk D) (N : DyNn D) : isDayD (dayE D) = true := by
  have h1 := O.h1
  have h2 := O.h2
  have k1 := O.k1
  have k2 := O.k2
  have e : ((D.cs.map PyData.int).length : Int) = (D.cs.length : Int) := by rw [List.length_map]
  show ((decide (1 ≤ (D.cs.map PyData.int).length) && decide ((D.cs.map PyData.int).length ≤ 48)) && (decide (1 ≤ (D.ks.map potE).length) && decide ((D.ks.map potE).length ≤ 8)) && (ladB ((D.cs.map PyData.int).length : Int) (din D.cs) && ladB ((D.cs.map PyData.int).length : Int) (din D.ss)) && (D.ks.map potE).all (potB ((D.cs.map PyData.int).length : Int))) = true
  rw [e, ladB_din N.cs rfl, ladB_din N.ss (by rw [O.sl]), List.length_map, List.length_map, decide_eq_true h1, decide_eq_true h2, decide_eq_true k1, decide_eq_true k2]
  show (D.ks.map potE).all (potB (D.cs.length : Int)) = true
  rw [List.all_eq_true]
  intro d hd
  obtain ⟨k, hk, rfl⟩ := List.mem_map.mp hd
  obtain ⟨o1, o2, o3⟩ := N.ks k hk
  show ((decide (1 ≤ k.1) && decide (k.1 ≤ 1000000)) && ladB (D.cs.length : Int) (din k.2)) = true
  rw [ladB_din o3 (by rw [O.ts k hk]), decide_eq_true o1, decide_eq_true o2] <;> rfl
theorem wa_ldl : ∀ {ns : List Int}, Ldl ns → PyData.weightAll (ns.map PyData.int) ≤ 21 * ns.length
  | [], _ => Nat.zero_le _
  | z :: r, L => by
    have a := (Fine.ldl 0 (L z List.mem_cons_self).1 (L z List.mem_cons_self).2).wt
    have b := wa_ldl (ns := r) fun y hy => L y (List.mem_cons_of_mem _ hy)
    rw [List.map_cons, List.length_cons]
    show PyData.weight (.int z) + 1 + PyData.weightAll (r.map PyData.int) ≤ _
    omega
theorem wa_pots : ∀ {ks : List (Int × List Int)}, (∀ k ∈ ks, 1 ≤ k.1 ∧ k.1 ≤ 1000000 ∧ Ldl k.2) → (∀ k ∈ ks, k.2.length ≤ 48) → PyData.weightAll (ks.map potE) ≤ 1031 * ks.length
  | [], _, _ => Nat.zero_le _
  | k :: r, ok, l => by
    obtain ⟨o1, o2, o3⟩ := ok k List.mem_cons_self
    have a := (Fine.ldl 0 (i := k.1) (by omega) o2).wt
    have b := wa_pots (ks := r) (fun y hy => ok y (List.mem_cons_of_mem _ hy)) fun y hy => l y (List.mem_cons_of_mem _ hy)
    have c := wa_ldl o3
    have e := l k List.mem_cons_self
    rw [List.map_cons, List.length_cons]
    show (PyData.weight (.int k.1) + 1 + (PyData.weightAll (k.2.map PyData.int) + 1 + 0)) + 1 + PyData.weightAll (r.map potE) ≤ _
    omega
theorem dayE_wt {D : Dy} (O : DyOk D) (N : DyNn D) : PyData.weight (dayE D) ≤ 10300 := by
  have h2 := O.h2
  have k2 := O.k2
  have sl := O.sl
  have a := wa_ldl N.cs
  have b := wa_ldl N.ss
  have c := wa_pots N.ks fun k hk => by rw [O.ts k hk]; exact h2
  show PyData.weightAll (D.cs.map PyData.int) + 1 + (PyData.weightAll (D.ks.map potE) + 1 + (PyData.weightAll (D.ss.map PyData.int) + 1 + 0)) ≤ _
  omega
theorem sqT_fs {K : PySem.W.Frag} {H H' : Hp} {a p : Addr} {n : Nat} {xs : List V} (h : SqT K H a xs) (B : BoxAt H p n) (F : Fs p H H') : SqT K H' a xs := by
  obtain ⟨x, y, z, hb, _⟩ := B
  have ne : ∀ {o : HO}, H a = some o → (∀ l, o ≠ .lst l) → a ≠ p := fun {o} e n z => by
    rw [z, hb] at e
    exact n _ (Option.some.inj e).symm
  rcases h with (h | ⟨o, h⟩) | h
  · exact .inl (.inl (F.keep _ _ (ne h nofun) h nofun))
  · exact .inl (.inr ⟨o, F.keep _ _ (ne h nofun) h nofun⟩)
  · exact .inr h
theorem Tg.fs {K : PySem.W.Frag} {p : Addr → Prop} {q : Addr} (hq : p q) {B m : Nat} {H H' : Hp} (b : BoxAt H q m) (F : Fs q H H') : ∀ {n : Nat} {v : V} {d : PyData}, Tg K p H B n v d → Tg K p H' B n v d := by
  intro n v d h
  induction h with
  | non n => exact .non n
  | bl n b => exact .bl n b
  | int n i h => exact .int n i h
  | str n x w l c => exact .str n x w l c
  | lst h1 h2 h3 _ ih => exact .lst (F.keep _ _ (fun z => h2 (z ▸ hq)) h1 nofun) h2 h3 ih
  | tup h1 h2 _ ih => exact .tup (sqT_fs h1 b F) h2 ih
theorem sm_new_fs {H0 H1 H2 : Hp} {p : Addr} (s : Same H0 H1) (n : H0 p = none) (F : Fs p H1 H2) : Sm H0 H2 := by
  refine ⟨fun b o h no => F.keep b o (ne_of_none h n) (s _ _ h) no, fun b t => ?_⟩
  obtain ⟨q, e⟩ := tab_at t
  exact F.tab b (ne_of_none e n) ((Sm.of s).tab b t)
theorem rep_one (k : Nat) (v : V) : (List.replicate ((k : Int)).toNat [v]).flatten = List.replicate k v := by
  rw [Int.toNat_natCast]
  induction k with
  | zero => rfl
  | succ k ih =>
    rw [List.replicate_succ, List.replicate_succ, List.flatten_cons, ih] <;> rfl
theorem rep_tg {K : PySem.W.Frag} {p : Addr → Prop} {B n k : Nat} {H : Hp} {v : V} {d : PyData} (h : Tg K p H B n v d) : TgAll K p H B n (List.replicate k v) (List.replicate k d) := by
  refine ⟨by rw [List.length_replicate, List.length_replicate], fun i x e e1 e2 => ?_⟩
  have a := List.mem_of_getElem? e1
  have b := List.mem_of_getElem? e2
  rw [List.eq_of_mem_replicate a, List.eq_of_mem_replicate b]
  exact h
theorem day_tgL {K : PySem.W.Frag} {p : Addr → Prop} {H : Hp} {t1 g t2 d : Addr} {cs ss : List Int} {ks : List (Int × List Int)} {xs : List V} (L1 : Ldl cs) (L2 : Ldl ss) (h1 : H t1 = some (.lst (cs.map V.int))) (n1 : ¬ p t1) (hg : H g = some (.lst xs)) (ng : ¬ p g) (hk : TgAll K p H 1000000 2 xs (ks.map potE)) (h2 : H t2 = some (.lst (ss.map V.int))) (n2 : ¬ p t2)
    (hd : SqT K H d [.ref t1, .ref g, .ref t2]) : Tg K p H 1000000 4 (.ref d) (dayE ⟨cs, ks, ss⟩) :=
  (TgAll.cons ((ldlL_tg (n := 0) L1 h1 n1).up (Nat.le_refl _) (by decide)) (.cons (hk.l hg ng) (.cons ((ldlL_tg (n := 0) L2 h2 n2).up (Nat.le_refl _) (by decide)) .nil))).t hd
theorem pot_tg {K : PySem.W.Frag} {p : Addr → Prop} {H : Hp} {u t : Addr} {r : Int} {ns : List Int} (r0 : 1 ≤ r) (r1 : r ≤ 1000000) (L : Ldl ns) (ht : H t = some (.lst (ns.map V.int))) (nt : ¬ p t) (hu : SqT K H u [.int r, .ref t]) : Tg K p H 1000000 2 (.ref u) (potE (r, ns)) :=
  (TgAll.cons (.int _ _ (by omega)) (.cons (ldlL_tg (n := 0) L ht nt) .nil)).t hu
theorem ldl_rep {k : Nat} {z : Int} (h0 : 0 ≤ z) (h1 : z ≤ 1000000) : Ldl (List.replicate k z) := fun y hy => by
  rw [List.eq_of_mem_replicate hy]
  exact ⟨h0, h1⟩
theorem dayE_wt2 {D : Dy} (L1 : Ldl D.cs) (L2 : Ldl D.ss) (N : ∀ k ∈ D.ks, 1 ≤ k.1 ∧ k.1 ≤ 1000000 ∧ Ldl k.2) (h : ∀ k ∈ D.ks, k.2.length ≤ 49) : PyData.weight (dayE D) ≤ 21 * D.cs.length + 1052 * D.ks.length + 21 * D.ss.length + 3 := by
  have a := wa_ldl L1
  have b := wa_ldl L2
  have c : ∀ {ks : List (Int × List Int)}, (∀ k ∈ ks, 1 ≤ k.1 ∧ k.1 ≤ 1000000 ∧ Ldl k.2) → (∀ k ∈ ks, k.2.length ≤ 49) → PyData.weightAll (ks.map potE) ≤ 1052 * ks.length := fun {ks} => by
    induction ks with
    | nil => exact fun _ _ => Nat.zero_le _
    | cons k r ih =>
      intro ok l
      obtain ⟨o1, o2, o3⟩ := ok k List.mem_cons_self
      have a := (Fine.ldl 0 (i := k.1) (by omega) o2).wt
      have b := ih (fun y hy => ok y (List.mem_cons_of_mem _ hy)) fun y hy => l y (List.mem_cons_of_mem _ hy)
      have c := wa_ldl o3
      have e := l k List.mem_cons_self
      rw [List.map_cons, List.length_cons]
      show (PyData.weight (.int k.1) + 1 + (PyData.weightAll (k.2.map PyData.int) + 1 + 0)) + 1 + PyData.weightAll (r.map potE) ≤ _
      omega
  have c := c N h
  show PyData.weightAll (D.cs.map PyData.int) + 1 + (PyData.weightAll (D.ks.map potE) + 1 + (PyData.weightAll (D.ss.map PyData.int) + 1 + 0)) ≤ _
  omega
end KR
/-! ### a < b < c <= d; a row's parts -/
namespace KR
open PySem PySem.Spec PyProof.Rows L2
section
variable {X : Cx} {a b c d : Expr} {ta tb tc td : TE} {pos : Pos}
def tChain3 (r r' r2 : R2) (ta tb tc td : TE) : TE := fun σ H Q => ta σ H fun x H1 => tb σ H1 fun y H2 => r x y H2 fun z H3 => ∃ k, z = .bl k ∧
  (if k = true then tc σ H3 fun u H4 => r' y u H4 fun z H5 => ∃ k, z = .bl k ∧ (if k = true then td σ H5 fun v H6 => r2 u v H6 Q else Q (.bl false) H5) else Q (.bl false) H3)
theorem pe_chain3 {op op' op2 : CmpOp} {r r' r2 : R2} (ho : OpR X (compareOp op) r) (ho' : OpR X (compareOp op') r') (ho2 : OpR X (compareOp op2) r2) (ha : PE X a ta) (hb : PE X b tb) (hc : PE X c tc) (hd : PE X d td)
    (hm : lastMarks [op, op', op2] [b, c, d] = false := by with_unfolding_all rfl) : PE X (.Compare a [op, op', op2] [b, c, d] pos) (tChain3 r r' r2 ta tb tc td) := by
  constructor
  intro pins s σ H Q I h
  refine Compare_chain (thn (ha.run pins s σ H _ I h) fun v s1 ⟨x, H1, I1, r1, q1⟩ => chain_link (thn (hb.run pins s1 σ H1 _ I1 q1) fun u s2 ⟨y, H2, I2, r2', q2⟩ => thn (ho pins s2 σ H2 x y v u _ I2 r1 r2' q2) fun e s3 ⟨z, H3, I3, r3, k, ez, q3⟩ => ?_)) hm
  subst ez
  cases r3
  refine wpAny_truthy_bool ?_
  cases k with
  | false => exact ite_ff ⟨.bl false, H3, I3, rfl, q3⟩
  | true =>
    refine ite_tt (chain_link (thn (hc.run pins s3 σ H3 _ I3 q3) fun u2 s4 ⟨y2, H4, I4, r4, q4⟩ => thn (ho' pins s4 σ H4 y y2 u u2 _ I4 r2' r4 q4) fun e2 s5 ⟨z2, H5, I5, r5, k2, ez2, q5⟩ => ?_))
    subst ez2
    cases r5
    refine wpAny_truthy_bool ?_
    cases k2 with
    | false => exact ite_ff ⟨.bl false, H5, I5, rfl, q5⟩
    | true => exact ite_tt (chain_last (thn (hd.run pins s5 σ H5 _ I5 q5) fun u3 s6 ⟨y3, H6, I6, r6, q6⟩ => ho2 pins s6 σ H6 y2 y3 u2 u3 Q I6 r4 r6 q6))
end
end KR
/-! ### whether a thing is a list of kinds -/
namespace KR
open PySem PySem.Spec PyProof.Rows L2
/-- a number less a number or truth -/
def rNbI (f : Int → Int → Int) : R2 := fun x y H Q => ∃ i j, x = .int i ∧ numOf y = some j ∧ Q (.int (f i j)) H
theorem op_subIb {X : Cx} : OpR X (binaryOp .Sub) (rNbI fun i j => i - j) := by
  intro pins s σ H x y v u Q I rx ry ⟨i, j, e, e2, q⟩
  subst e
  cases y <;> try (cases e2; done)
  case bl b =>
    cases e2
    obtain ⟨t, rfl⟩ := rx
    cases ry
    exact PySem.IntBool.sub_int_bool ⟨.int _, H, I.tok _, ⟨_, rfl⟩, q⟩
  case int j' =>
    cases e2
    exact op_sub pins s σ H _ _ v u Q I rx ry ⟨i, _, rfl, rfl, q⟩
/-- how a thing looks: a leaf, or a row -/
theorem Tg.look2 {K : PySem.W.Frag} {p : Addr → Prop} {q : Addr} (hq : p q) {B : Nat} {H : Hp} {n : Nat} {v : V} {d : PyData} (hB : 1 ≤ B) (h : Tg K p H B n v d) :
    (∃ (t : String) (bi : Bool), isL d = false ∧ isT d = false ∧ (∀ H2, TyX K H2 v (.type t)) ∧ kitB t "list" = some false ∧ kitB t "tuple" = some false ∧ kitB t "int" = some bi ∧ (bi = true → (∃ i, numOf v = some i ∧ i.natAbs ≤ B) ∧ SeqAt.shaped d = true)) ∨
    (∃ (t : String) (bl bt : Bool) (a : Addr) (xs : List V) (ds : List PyData) (m : Nat), v = .ref a ∧ n = m + 1 ∧ (∀ (H' : Hp) (mm : Nat), BoxAt H q mm → Fr q H H' → TyX K H' v (.type t)) ∧ kitB t "list" = some bl ∧ kitB t "tuple" = some bt ∧ (bl = false → bt = true) ∧ (SqL K H a xs ∨ SqT K H a xs) ∧ TgAll K p H B m xs ds ∧ PyData.weight d = PyData.weightAll ds) := by
  cases h with
  | non n => exact .inl ⟨"NoneType", false, rfl, rfl, fun _ => .base .non, by decide +kernel, by decide +kernel, by decide +kernel, fun z => nomatch z⟩
  | bl n b => exact .inl ⟨"bool", true, rfl, rfl, fun _ => .base (.bl b), by decide +kernel, by decide +kernel, by decide +kernel, fun _ => ⟨⟨_, rfl, by cases b <;> simp <;> omega⟩, rfl⟩⟩
  | int n i h => exact .inl ⟨"int", true, rfl, rfl, fun _ => .base (.int i), by decide +kernel, by decide +kernel, by decide +kernel, fun _ => ⟨⟨_, rfl, h⟩, rfl⟩⟩
  | str n x w l c => exact .inl ⟨"str", false, rfl, rfl, fun _ => .base (.str x), by decide +kernel, by decide +kernel, by decide +kernel, fun z => nomatch z⟩
  | lst h1 h2 h3 h4 => exact .inr ⟨"list", true, false, _, _, _, _, rfl, rfl, fun H' mm b F => .base (.lst (F _ _ (fun z => h2 (z ▸ hq)) h1)), by decide +kernel, by decide +kernel, (fun z => nomatch z), .inl (SqL.of h1), ⟨h3, h4⟩, rfl⟩
  | tup h1 h2 h3 => exact .inr ⟨"tuple", false, true, _, _, _, _, rfl, rfl, fun H' mm b F => sqT_ty (sqT_fr h1 b F), by decide +kernel, by decide +kernel, fun _ => rfl, .inr h1, ⟨h2, h3⟩, rfl⟩
/-- a tuple of the law's own making times a number, once too (then it is the tuple itself) -/
theorem tuple_mul1 (l : Addr) (items : Array Value) (n : Nat) (dd : Option Addr) (sl : Array (Option Value)) (u : Tok) :
    Meets (Builtin.«tuple.__mul__» ⟨[.ref l, .int 1 u], []⟩) (fun _ R s => s.heap.get? l = some { cls := .type "tuple", dict := dd, data := .seq items n, slots := sl } ∧ R (.ok (.ret (.ref l))) s) :=
  .of_wp fun prog w A R s h => by
    obtain ⟨hp, g, d, tk, os⟩ := s
    obtain ⟨hl, h⟩ := h
    have f1 := AutoSeq1.idx_int
    wp_walk using AutoSeq1.wpAny_loadPart' hl
    exact ⟨_, rfl, h⟩
def rRepJ (K : PySem.W.Frag) : R2 := fun x y H Q => ∃ (l : Addr) (k : Nat) (xs : List V), x = .ref l ∧ y = .int (k : Int) ∧ H l = some (.tup xs) ∧ xs ≠ [] ∧ 1 ≤ k ∧ k ≤ 1000 ∧ xs.length ≤ 1000 ∧ ∀ p H', Same H H' → SqT K H' p (List.replicate k xs).flatten → Q (.ref p) H'
theorem op_repJ {X : Cx} {K : PySem.W.Frag} (hK : X.K = K) : OpR X (binaryOp .Mult) (rRepJ K) := by
  subst hK
  intro pins s σ H x y v u Q I rx ry h
  obtain ⟨l, k, xs, rfl, rfl, hl, hne, h1, h2, hz, q⟩ := h
  by_cases c : 2 ≤ k
  · refine op_repT pins s σ H _ _ v u Q I rx ry ⟨l, (k : Int), xs, rfl, rfl, SqT.of hl, hne, by omega, by omega, hz, fun p np => q p _ (same_new np) (SqT.of ?_)⟩
    rw [Int.toNat_natCast]
    exact upd_same
  · obtain rfl : k = 1 := by omega
    have q := q l H (.refl _) (by rw [List.replicate_one, List.flatten_cons, List.flatten_nil, List.append_nil]; exact SqT.of hl)
    cases rx
    obtain ⟨t, rfl⟩ := ry
    obtain ⟨its, r, ⟨⟨cls, dd, data, sl⟩, ho, hc, n, hd⟩, hs⟩ := I.tuple (SqT.of hl)
    simp only at hc hd
    subst hc hd
    refine wpAny_binaryOp_repeat_ref (T := "tuple") (U := "int") (by decide) ⟨_, ho, rfl⟩ (fun s' => typeIs_int s' _ t) noFill_tuple_mul F.fills_int_mul F.slot_int_rmul repeat_tuple F.slot_int_index.lookup
      (call_meets F.slot_int_rmul (typeIs_int s _ t) F.entry_int_rmul (F.args_int_rmul_2 _ _) (int_rmul_tuple _ t l its.toArray n dd sl)
        ⟨ho, rfl, ⟨_, ho, rfl⟩, call_meets F.slot_tuple_mul ⟨_, ho, rfl⟩ F.entry_tuple_mul (F.args_tuple_mul_2 _ _) (tuple_mul1 l its.toArray n dd sl t) ⟨ho, ?_⟩⟩)
    exact ⟨.ref l, H, I, rfl, q⟩
theorem wa_bd {w : Nat} : ∀ {ds : List PyData}, (∀ d ∈ ds, PyData.weight d ≤ w) → PyData.weightAll ds ≤ (w + 1) * ds.length
  | [], _ => Nat.zero_le _
  | d :: ds, h => by
    have a := h d List.mem_cons_self
    have b := wa_bd (ds := ds) fun y hy => h y (List.mem_cons_of_mem _ hy)
    show PyData.weight d + 1 + PyData.weightAll ds ≤ (w + 1) * (ds.length + 1)
    rw [Nat.mul_succ]
    omega
def fracD : PyData → Bool
  | .tuple [.int a, .int b] => decide (0 < b) && decide (Nat.gcd a.natAbs b.natAbs = 1)
  | _ => false
def rngD : PyData → Bool
  | .tuple [.int a, .int b] => decide (0 ≤ a) && (decide (a ≤ b) && decide (b ≤ 12))
  | _ => false
def partD (d : PyData) : Bool := fracD d && rngD d
def ratD : PyData → Rat
  | .tuple [.int a, .int b] => rq a b
  | _ => 0
def goesD (n : Int) : PyData → Bool
  | .tuple ps => (decide ((ps.length : Int) = n) && ps.all partD) && decide (zsum (ps.map ratD) ≤ 1)
  | _ => false
def kindD (n : Int) : PyData → Bool
  | .tuple [f, d, g] => numIn 0 1000000 f && (partD d && goesD n g)
  | _ => false
def kindsD : PyData → Bool
  | .list ks => (decide (1 ≤ ks.length) && decide (ks.length ≤ 6)) && ks.all (kindD (ks.length : Int))
  | _ => false
theorem fracD_no {d : PyData} (n : isT d = false) : fracD d = false := by
  cases d <;> first | rfl | exact nomatch n
theorem partD_no {d : PyData} (n : isT d = false) : partD d = false := by
  unfold partD
  rw [fracD_no n] <;> rfl
theorem goesD_no {d : PyData} {m : Int} (n : isT d = false) : goesD m d = false := by
  cases d <;> first | rfl | exact nomatch n
theorem kindD_no {d : PyData} {m : Int} (n : isT d = false) : kindD m d = false := by
  cases d <;> first | rfl | exact nomatch n
theorem kindsD_no {d : PyData} (n : isL d = false) : kindsD d = false := by
  cases d <;> first | rfl | exact nomatch n
theorem fracD_len {ds : List PyData} (n : ds.length ≠ 2) : fracD (.tuple ds) = false := by
  match ds, n with
  | [], _ => rfl
  | [a], _ => cases a <;> rfl
  | [_, _], n => exact absurd rfl n
  | a :: b :: c :: r, _ => cases a <;> first | rfl | (cases b <;> rfl)
theorem partD_len {ds : List PyData} (n : ds.length ≠ 2) : partD (.tuple ds) = false := by
  unfold partD
  rw [fracD_len n] <;> rfl
theorem kindD_len {ds : List PyData} {m : Int} (n : ds.length ≠ 3) : kindD m (.tuple ds) = false := by
  match ds, n with
  | [], _ => rfl
  | [_], _ => rfl
  | [_, _], _ => rfl
  | [_, _, _], n => exact absurd rfl n
  | _ :: _ :: _ :: _ :: _, _ => rfl
theorem fracD_i {a b : PyData} (n : isI a = false ∨ isI b = false) : fracD (.tuple [a, b]) = false := by
  rcases n with n | n
  · cases a <;> first | rfl | exact nomatch n
  · cases a <;> first | rfl | (cases b <;> first | rfl | exact nomatch n)
theorem partD_i {a b : PyData} (n : isI a = false ∨ isI b = false) : partD (.tuple [a, b]) = false := by
  unfold partD
  rw [fracD_i n] <;> rfl
theorem low_self {a b : Int} (h : IsLow a b) : (rq a b).num = a ∧ ((rq a b).den : Int) = b := by
  have hb : b ≠ 0 := by have := h.pos; omega
  have e1 := rq_low (t := a) hb
  have e2 := low_eq hb h (rfl : a * b = a * b)
  rw [e2] at e1
  injection e1 with e3 e4
  exact ⟨e3.symm, e4.symm⟩
theorem dq_self {a b : Int} (h : IsLow a b) : dq (rq a b) = .tuple [.int a, .int b] := by
  obtain ⟨e1, e2⟩ := low_self h
  unfold dq
  rw [e1, e2]
theorem partD_mk {a b : Int} (h : partD (.tuple [.int a, .int b]) = true) : IsLow a b ∧ 0 ≤ a ∧ a ≤ b ∧ b ≤ 12 := by
  have h : ((decide (0 < b) && decide (Nat.gcd a.natAbs b.natAbs = 1)) && (decide (0 ≤ a) && (decide (a ≤ b) && decide (b ≤ 12)))) = true := h
  simp only [Bool.and_eq_true, decide_eq_true_eq] at h
  obtain ⟨⟨h1, h2⟩, h3, h4, h5⟩ := h
  exact ⟨⟨h1, h2⟩, h3, h4, h5⟩
theorem part_of {a b : Int} (h : IsLow a b) (h3 : 0 ≤ a) (h4 : a ≤ b) (h5 : b ≤ 12) : Part (rq a b) :=
  ⟨rq_nn h3 h.pos, rq_le_one h4 h.pos, by have := (low_self h).2; omega⟩
theorem part_num {q : Rat} (h : Part q) : 0 ≤ q.num ∧ q.num ≤ (q.den : Int) ∧ (q.den : Int) ≤ 12 :=
  ⟨Rat.num_nonneg.mpr h.lo, (le_one_iff q).mpr h.hi, by have := h.bt; omega⟩
theorem partD_dq {q : Rat} (h : Part q) : partD (dq q) = true := by
  obtain ⟨h1, h2, h3⟩ := part_num h
  have l := rat_low q
  show ((decide (0 < (q.den : Int)) && decide (Nat.gcd q.num.natAbs (q.den : Int).natAbs = 1)) && (decide (0 ≤ q.num) && (decide (q.num ≤ (q.den : Int)) && decide ((q.den : Int) ≤ 12)))) = true
  rw [decide_eq_true l.pos, decide_eq_true l.cop, decide_eq_true h1, decide_eq_true h2, decide_eq_true h3] <;> rfl
theorem ratD_dq (q : Rat) : ratD (dq q) = q := rq_self q
theorem Tg.part {K : PySem.W.Frag} {Av : Addr → Prop} {H : Hp} {B n : Nat} {v : V} {d : PyData} (h : Tg K Av H B n v d) (e : partD d = true) : ∃ (a : Addr) (q : Rat), v = .ref a ∧ d = dq q ∧ FrQ K H a q ∧ Part q := by
  have it : isT d = true := by
    cases c : isT d with
    | true => rfl
    | false =>
      rw [partD_no c] at e
      cases e
  obtain ⟨a, xs, ds, m, rfl, rfl, rfl, sq, tg⟩ := h.tupI it
  have l2 : xs.length = 2 := by
    by_cases c : xs.length = 2
    · exact c
    · rw [partD_len (by rw [← tg.1]; exact c)] at e
      cases e
  obtain ⟨x1, x2, d1, d2, rfl, rfl, g1, g2⟩ := two tg l2
  have i1 : isI d1 = true := by
    cases c : isI d1 with
    | true => rfl
    | false =>
      rw [partD_i (.inl c)] at e
      cases e
  have i2 : isI d2 = true := by
    cases c : isI d2 with
    | true => rfl
    | false =>
      rw [partD_i (.inr c)] at e
      cases e
  obtain ⟨i, rfl, rfl, _⟩ := g1.intI i1
  obtain ⟨j, rfl, rfl, _⟩ := g2.intI i2
  obtain ⟨lo, h3, h4, h5⟩ := partD_mk e
  refine ⟨a, rq i j, rfl, (dq_self lo).symm, ?_, part_of lo h3 h4 h5⟩
  obtain ⟨e1, e2⟩ := low_self lo
  show SqT K H a [.int (rq i j).num, .int ((rq i j).den : Int)]
  rw [e1, e2]
  exact sq
theorem TgAll.parts {K : PySem.W.Frag} {Av : Addr → Prop} {H : Hp} {B n : Nat} : ∀ {xs : List V} {ds : List PyData}, TgAll K Av H B n xs ds → ds.all partD = true → ∃ l : List Fz, xs = rz l ∧ FL K H l ∧ (∀ z ∈ l, Part z.2) ∧ l.map (·.2) = ds.map ratD
  | [], [], _, _ => ⟨[], rfl, FL.nil, fun z hz => absurd hz List.not_mem_nil, rfl⟩
  | [], _ :: _, h, _ => by have := h.1; cases this
  | _ :: _, [], h, _ => by have := h.1; cases this
  | x :: xs, d :: ds, h, al => by
    rw [List.all_cons, Bool.and_eq_true] at al
    obtain ⟨t1, t2⟩ := h.tail
    obtain ⟨a, q, rfl, rfl, fq, pq⟩ := t1.part al.1
    obtain ⟨l, rfl, fl, pa, e⟩ := TgAll.parts t2 al.2
    refine ⟨(a, q) :: l, rfl, fun z hz => ?_, fun z hz => ?_, ?_⟩
    · rcases List.mem_cons.mp hz with m | m
      · rw [m]
        exact fq
      · exact fl z m
    · rcases List.mem_cons.mp hz with m | m
      · rw [m]
        exact pq
      · exact pa z m
    · rw [List.map_cons, List.map_cons, e, ratD_dq]
/-- kinds as things -/
def kindE (k : Kn) : PyData := .tuple [.int k.fresh, dq k.drip, .tuple (k.goes.map fun z => dq z.2)]
theorem dq_tg {K : PySem.W.Frag} {Av : Addr → Prop} {H : Hp} {n : Nat} {a : Addr} {q : Rat} (h : FrQ K H a q) (p : Part q) : Tg K Av H 1000001 (n + 1) (.ref a) (dq q) := by
  obtain ⟨h1, h2, h3⟩ := part_num p
  exact (TgAll.cons (.int _ _ (by omega)) (.cons (.int _ _ (by omega)) .nil)).t h
theorem goes_tg {K : PySem.W.Frag} {Av : Addr → Prop} {H : Hp} {n : Nat} : ∀ {l : List Fz}, FL K H l → (∀ z ∈ l, Part z.2) → TgAll K Av H 1000001 (n + 1) (rz l) (l.map fun z => dq z.2)
  | [], _, _ => .nil
  | z :: l, f, p => .cons (dq_tg (f z List.mem_cons_self) (p z List.mem_cons_self)) (goes_tg (fun y hy => f y (List.mem_cons_of_mem _ hy)) fun y hy => p y (List.mem_cons_of_mem _ hy))
theorem kn_tg {K : PySem.W.Frag} {Av : Addr → Prop} {H : Hp} {n : Nat} {k : Kn} (h : KnOk K H n k) : Tg K Av H 1000001 3 (.ref k.a) (kindE k) := by
  have h0 := h.f0
  have h1 := h.f1
  exact (TgAll.cons (.int _ _ (by omega)) (.cons (dq_tg h.dr h.pd) (.cons ((goes_tg (n := 0) h.go.fl h.go.pa).t h.gs) .nil))).t h.at_
theorem kns_tg {K : PySem.W.Frag} {Av : Addr → Prop} {H : Hp} {n : Nat} : ∀ {ks : List Kn}, KnL K H n ks → TgAll K Av H 1000001 3 (rk ks) (ks.map kindE)
  | [], _ => .nil
  | k :: ks, h => .cons (kn_tg (h k List.mem_cons_self)) (kns_tg fun y hy => h y (List.mem_cons_of_mem _ hy))
theorem parts_all {l : List Fz} (h : ∀ z ∈ l, Part z.2) : (l.map fun z => dq z.2).all partD = true := by
  rw [List.all_eq_true]
  intro d hd
  obtain ⟨z, hz, rfl⟩ := List.mem_map.mp hd
  exact partD_dq (h z hz)
theorem parts_rat (l : List Fz) : (l.map fun z => dq z.2).map ratD = l.map (·.2) := by
  rw [List.map_map]
  exact List.map_congr_left fun z _ => ratD_dq z.2
theorem goesD_is {m : Int} {l : List Fz} (e : (l.length : Int) = m) (p : ∀ z ∈ l, Part z.2) (one : zsum (l.map (·.2)) ≤ 1) : goesD m (.tuple (l.map fun z => dq z.2)) = true := by
  show ((decide (((l.map fun z => dq z.2).length : Int) = m) && (l.map fun z => dq z.2).all partD) && decide (zsum ((l.map fun z => dq z.2).map ratD) ≤ 1)) = true
  rw [parts_all p, parts_rat, decide_eq_true one, decide_eq_true (by rw [List.length_map]; exact e)] <;> rfl
theorem numIn_is {lo hi i : Int} (h1 : lo ≤ i) (h2 : i ≤ hi) : numIn lo hi (.int i) = true := by
  show (decide (lo ≤ i) && decide (i ≤ hi)) = true
  rw [decide_eq_true h1, decide_eq_true h2] <;> rfl
theorem kinds_is {K : PySem.W.Frag} {H : Hp} {ks : List Kn} (h : KnL K H ks.length ks) (l1 : 1 ≤ ks.length) (l6 : ks.length ≤ 6) : kindsD (.list (ks.map kindE)) = true := by
  show ((decide (1 ≤ (ks.map kindE).length) && decide ((ks.map kindE).length ≤ 6)) && (ks.map kindE).all (kindD ((ks.map kindE).length : Int))) = true
  rw [List.length_map, decide_eq_true l1, decide_eq_true l6]
  show (ks.map kindE).all (kindD (ks.length : Int)) = true
  rw [List.all_eq_true]
  intro d hd
  obtain ⟨k, hk, rfl⟩ := List.mem_map.mp hd
  have o := h k hk
  show (numIn 0 1000000 (.int k.fresh) && (partD (dq k.drip) && goesD (ks.length : Int) (.tuple (k.goes.map fun z => dq z.2)))) = true
  rw [numIn_is o.f0 o.f1, partD_dq o.pd, goesD_is (by rw [o.go.len]) o.go.pa o.go.one] <;> rfl
theorem dq_wt {q : Rat} (h : Part q) : PyData.weight (dq q) ≤ 44 := by
  obtain ⟨h1, h2, h3⟩ := part_num h
  have a := wt_int (i := q.num) (by omega)
  have b := wt_int (i := (q.den : Int)) (by omega)
  show PyData.weight (.int q.num) + 1 + (PyData.weight (.int (q.den : Int)) + 1 + 0) ≤ 44
  omega
theorem goes_wt : ∀ {l : List Fz}, (∀ z ∈ l, Part z.2) → PyData.weightAll (l.map fun z => dq z.2) ≤ 45 * l.length
  | [], _ => Nat.zero_le _
  | z :: l, p => by
    have a := dq_wt (p z List.mem_cons_self)
    have b := goes_wt (l := l) fun y hy => p y (List.mem_cons_of_mem _ hy)
    show PyData.weight (dq z.2) + 1 + PyData.weightAll (l.map fun z => dq z.2) ≤ 45 * (l.length + 1)
    omega
theorem kinds_wa {K : PySem.W.Frag} {H : Hp} {n : Nat} (n6 : n ≤ 6) : ∀ {ks : List Kn}, KnL K H n ks → PyData.weightAll (ks.map kindE) ≤ 340 * ks.length
  | [], _ => Nat.zero_le _
  | k :: ks, h => by
    have o := h k List.mem_cons_self
    have h0 := o.f0
    have h1 := o.f1
    have a := wt_int (i := k.fresh) (by omega)
    have b := dq_wt o.pd
    have c := goes_wt o.go.pa
    have l := o.go.len
    have d := kinds_wa n6 (ks := ks) fun y hy => h y (List.mem_cons_of_mem _ hy)
    show (PyData.weight (.int k.fresh) + 1 + (PyData.weight (dq k.drip) + 1 + (PyData.weightAll (k.goes.map fun z => dq z.2) + 1 + 0))) + 1 + PyData.weightAll (ks.map kindE) ≤ 340 * (ks.length + 1)
    omega
/-- things, and texts of any length -/
def TgS (K : PySem.W.Frag) (Av : Addr → Prop) (H : Hp) (B n : Nat) (v : V) (d : PyData) : Prop := Tg K Av H B n v d ∨ ∃ x : Str, v = .str x ∧ d = .str x
theorem TgS.kl {K : PySem.W.Frag} {Av : Addr → Prop} {H : Hp} {B n : Nat} {v : V} {d : PyData} (h : TgS K Av H B n v d) : ∃ t : String, TyX K H v (.type t) ∧ kitB t "list" = some (isL d) ∧ kitB t "tuple" = some (isT d) := by
  rcases h with h | ⟨x, rfl, rfl⟩
  · obtain ⟨t, h1, h2, h3, _⟩ := h.ty
    exact ⟨t, h1, h2, h3⟩
  · exact ⟨"str", .base (.str x), by show kitB "str" "list" = some false; decide +kernel, by show kitB "str" "tuple" = some false; decide +kernel⟩
theorem TgS.tg {K : PySem.W.Frag} {Av : Addr → Prop} {H : Hp} {B n : Nat} {v : V} {d : PyData} (h : TgS K Av H B n v d) (e : isL d = true ∨ isT d = true) : Tg K Av H B n v d := by
  rcases h with h | ⟨x, rfl, rfl⟩
  · exact h
  · rcases e with e | e <;> cases e
theorem TgS.sm {K : PySem.W.Frag} {Av : Addr → Prop} {H H' : Hp} {B n : Nat} {v : V} {d : PyData} (h : TgS K Av H B n v d) (s : Sm H H') : TgS K Av H' B n v d := h.imp (fun t => t.sm s) id
theorem TgS.dp {K : PySem.W.Frag} {Av : Addr → Prop} {H : Hp} {B n : Nat} {v : V} {d : PyData} (h : TgS K Av H B n v d) : Dp K H v d := by
  rcases h with h | ⟨x, rfl, rfl⟩
  · exact h.dp
  · exact .str x
end KR
namespace KR
open PySem PySem.Spec PyProof.Rows L2
theorem TgAll.dps_ {K : PySem.W.Frag} {Av : Addr → Prop} {H : Hp} {B n : Nat} : ∀ {xs : List V} {ds : List PyData}, TgAll K Av H B n xs ds → DpAll K H xs ds
  | [], [], _ => .nil
  | [], _ :: _, h => by have := h.1; cases this
  | _ :: _, [], h => by have := h.1; cases this
  | _ :: _, _ :: _, h => .cons h.tail.1.dp h.tail.2.dps_
theorem ixN_at' {n i : Nat} (h : i < n) : ixN n (i : Int) = some i := by
  unfold ixN
  rw [if_pos (by omega), if_pos (by omega), Int.toNat_natCast]
end KR
namespace KR
open PySem PySem.Spec PyProof.Rows L2
def top (i : Nat) : Stmt := PySem.Challenge.pw_kettlerow_k51_kinds_or_not.main.body.getD i (.Pass ⟨0, 0, 0, 0⟩)
abbrev s_p_is_number : Stmt := top 2
theorem sc_p_is_number : FnScope ["thing"] ["thing"] (defScope s_p_is_number) := ⟨rfl, rfl, rfl, by decide +kernel, rfl, by decide +kernel, by decide +kernel⟩
abbrev s_p_is_number_within : Stmt := top 3
theorem sc_p_is_number_within : FnScope ["thing", "least", "most"] ["thing", "least", "most"] (defScope s_p_is_number_within) := ⟨rfl, rfl, rfl, by decide +kernel, rfl, by decide +kernel, by decide +kernel⟩
abbrev s_p_is_frac : Stmt := top 7
theorem sc_p_is_frac : FnScope ["thing", "top", "bottom"] ["thing"] (defScope s_p_is_frac) := ⟨rfl, rfl, rfl, by decide +kernel, rfl, by decide +kernel, by decide +kernel⟩
abbrev s_p_frac_of : Stmt := top 8
theorem sc_p_frac_of : FnScope ["top", "bottom", "common"] ["top", "bottom"] (defScope s_p_frac_of) := ⟨rfl, rfl, rfl, by decide +kernel, rfl, by decide +kernel, by decide +kernel⟩
abbrev s_p_sum_of : Stmt := top 9
theorem sc_p_sum_of : FnScope ["one", "other"] ["one", "other"] (defScope s_p_sum_of) := ⟨rfl, rfl, rfl, by decide +kernel, rfl, by decide +kernel, by decide +kernel⟩
abbrev s_p_sum_of_all : Stmt := top 10
theorem sc_p_sum_of_all : FnScope ["ones", "whole", "one"] ["ones"] (defScope s_p_sum_of_all) := ⟨rfl, rfl, rfl, by decide +kernel, rfl, by decide +kernel, by decide +kernel⟩
abbrev s_p_is_lesser : Stmt := top 11
theorem sc_p_is_lesser : FnScope ["one", "other"] ["one", "other"] (defScope s_p_is_lesser) := ⟨rfl, rfl, rfl, by decide +kernel, rfl, by decide +kernel, by decide +kernel⟩
abbrev s_p_are_kinds : Stmt := top 16
theorem sc_p_are_kinds : FnScope ["thing", "kind"] ["thing"] (defScope s_p_are_kinds) := ⟨rfl, rfl, rfl, by decide +kernel, rfl, by decide +kernel, by decide +kernel⟩
abbrev s_p__is_kind : Stmt := top 17
theorem sc_p__is_kind : FnScope ["thing", "many", "fresh", "drip", "goes"] ["thing", "many"] (defScope s_p__is_kind) := ⟨rfl, rfl, rfl, by decide +kernel, rfl, by decide +kernel, by decide +kernel⟩
abbrev s_p__are_goes : Stmt := top 18
theorem sc_p__are_goes : FnScope ["thing", "many", "part"] ["thing", "many"] (defScope s_p__are_goes) := ⟨rfl, rfl, rfl, by decide +kernel, rfl, by decide +kernel, by decide +kernel⟩
abbrev s_p__is_part : Stmt := top 19
theorem sc_p__is_part : FnScope ["thing"] ["thing"] (defScope s_p__is_part) := ⟨rfl, rfl, rfl, by decide +kernel, rfl, by decide +kernel, by decide +kernel⟩
abbrev s_l_cell_at : Stmt := top 21
theorem sc_l_cell_at : FnScope ["_law_script", "_law_k"] ["_law_script", "_law_k"] (defScope s_l_cell_at) := ⟨rfl, rfl, rfl, by decide +kernel, rfl, by decide +kernel, by decide +kernel⟩
abbrev s_l_box : Stmt := top 22
theorem sc_l_box : FnScope ["_law_script", "_law_k", "_law_cell"] ["_law_script", "_law_k"] (defScope s_l_box) := ⟨rfl, rfl, rfl, by decide +kernel, rfl, by decide +kernel, by decide +kernel⟩
abbrev s_l_take : Stmt := top 23
theorem sc_l_take : FnScope ["_law_box_here", "_law_many", "_law_found", "_law_once_here", "_law_twice"] ["_law_box_here", "_law_many"] (defScope s_l_take) := ⟨rfl, rfl, rfl, by decide +kernel, rfl, by decide +kernel, by decide +kernel⟩
abbrev s_l_low : Stmt := top 24
theorem sc_l_low : FnScope ["_law_top", "_law_bottom", "_law_one", "_law_other"] ["_law_top", "_law_bottom"] (defScope s_l_low) := ⟨rfl, rfl, rfl, by decide +kernel, rfl, by decide +kernel, by decide +kernel⟩
abbrev s_l_plus : Stmt := top 25
theorem sc_l_plus : FnScope ["_law_one", "_law_other"] ["_law_one", "_law_other"] (defScope s_l_plus) := ⟨rfl, rfl, rfl, by decide +kernel, rfl, by decide +kernel, by decide +kernel⟩
abbrev s_l_all : Stmt := top 27
theorem sc_l_all : FnScope ["_law_fracs", "_law_found", "_law_one"] ["_law_fracs"] (defScope s_l_all) := ⟨rfl, rfl, rfl, by decide +kernel, rfl, by decide +kernel, by decide +kernel⟩
abbrev s_l_goes : Stmt := top 30
theorem sc_l_goes : FnScope ["_law_box_here", "_law_many", "_law_bottom", "_law_way", "_law_left", "_law_found", "_law_turn", "_law_at", "_law_own", "_law_some", "_law_whole", "_law_top"] ["_law_box_here", "_law_many"] (defScope s_l_goes) := ⟨rfl, rfl, rfl, by decide +kernel, rfl, by decide +kernel, by decide +kernel⟩
abbrev s_l_kinds : Stmt := top 31
theorem sc_l_kinds : FnScope ["_law_box_here", "_law_many", "_law_found", "_law_turn", "_law_fresh", "_law_bottom", "_law_drip"] ["_law_box_here", "_law_many"] (defScope s_l_kinds) := ⟨rfl, rfl, rfl, by decide +kernel, rfl, by decide +kernel, by decide +kernel⟩
abbrev s_l_bent : Stmt := top 34
theorem sc_l_bent : FnScope ["_law_box_here", "_law_thing", "_law_deep", "_law_base", "_law_some", "_law_row", "_law_at", "_law_way"] ["_law_box_here", "_law_thing", "_law_deep"] (defScope s_l_bent) := ⟨rfl, rfl, rfl, by decide +kernel, rfl, by decide +kernel, by decide +kernel⟩
abbrev s_l_is_whole : Stmt := top 35
theorem sc_l_is_whole : FnScope ["_law_thing"] ["_law_thing"] (defScope s_l_is_whole) := ⟨rfl, rfl, rfl, by decide +kernel, rfl, by decide +kernel, by decide +kernel⟩
abbrev s_l_is_part : Stmt := top 36
theorem sc_l_is_part : FnScope ["_law_thing", "_law_one"] ["_law_thing"] (defScope s_l_is_part) := ⟨rfl, rfl, rfl, by decide +kernel, rfl, by decide +kernel, by decide +kernel⟩
abbrev s_l_due : Stmt := top 37
theorem sc_l_due : FnScope ["_law_thing", "_law_one", "_law_part", "_law_whole"] ["_law_thing"] (defScope s_l_due) := ⟨rfl, rfl, rfl, by decide +kernel, rfl, by decide +kernel, by decide +kernel⟩
abbrev s_l_edge : Stmt := top 38
theorem sc_l_edge : FnScope ["_law_box_here", "_law_many", "_law_fresh", "_law_drip", "_law_first", "_law_rest"] ["_law_box_here", "_law_many"] (defScope s_l_edge) := ⟨rfl, rfl, rfl, by decide +kernel, rfl, by decide +kernel, by decide +kernel⟩
abbrev s_l_odd : Stmt := top 39
theorem sc_l_odd : FnScope ["_law_box_here", "_law_kinds_here", "_law_some"] ["_law_box_here", "_law_kinds_here"] (defScope s_l_odd) := ⟨rfl, rfl, rfl, by decide +kernel, rfl, by decide +kernel, by decide +kernel⟩
abbrev s_l_right : Stmt := top 40
theorem sc_l_right : FnScope ["_law_box_here", "_law_kinds_here", "_law_turn", "_law_thing", "_law_written", "_law_found"] ["_law_box_here"] (defScope s_l_right) := ⟨rfl, rfl, rfl, by decide +kernel, rfl, by decide +kernel, by decide +kernel⟩
abbrev s_p_law : Stmt := top 41
theorem sc_p_law : FnScope ["_law_script", "_law_k"] ["_law_script"] (defScope s_p_law) := ⟨rfl, rfl, rfl, by decide +kernel, rfl, by decide +kernel, by decide +kernel⟩
structure All (K : PySem.W.Frag) (mg : Str → Option Value) where
  f_p_is_number : Addr
  fd_p_is_number : FuncData
  d_p_is_number : Def K mg "is_number" s_p_is_number f_p_is_number fd_p_is_number ["thing"]
  f_p_is_number_within : Addr
  fd_p_is_number_within : FuncData
  d_p_is_number_within : Def K mg "is_number_within" s_p_is_number_within f_p_is_number_within fd_p_is_number_within ["thing", "least", "most"]
  f_p_is_frac : Addr
  fd_p_is_frac : FuncData
  d_p_is_frac : Def K mg "is_frac" s_p_is_frac f_p_is_frac fd_p_is_frac ["thing"]
  f_p_frac_of : Addr
  fd_p_frac_of : FuncData
  d_p_frac_of : Def K mg "frac_of" s_p_frac_of f_p_frac_of fd_p_frac_of ["top", "bottom"]
  f_p_sum_of : Addr
  fd_p_sum_of : FuncData
  d_p_sum_of : Def K mg "sum_of" s_p_sum_of f_p_sum_of fd_p_sum_of ["one", "other"]
  f_p_sum_of_all : Addr
  fd_p_sum_of_all : FuncData
  d_p_sum_of_all : Def K mg "sum_of_all" s_p_sum_of_all f_p_sum_of_all fd_p_sum_of_all ["ones"]
  f_p_is_lesser : Addr
  fd_p_is_lesser : FuncData
  d_p_is_lesser : Def K mg "is_lesser" s_p_is_lesser f_p_is_lesser fd_p_is_lesser ["one", "other"]
  f_p_are_kinds : Addr
  fd_p_are_kinds : FuncData
  d_p_are_kinds : Def K mg "are_kinds" s_p_are_kinds f_p_are_kinds fd_p_are_kinds ["thing"]
  f_p__is_kind : Addr
  fd_p__is_kind : FuncData
  d_p__is_kind : Def K mg "_is_kind" s_p__is_kind f_p__is_kind fd_p__is_kind ["thing", "many"]
  f_p__are_goes : Addr
  fd_p__are_goes : FuncData
  d_p__are_goes : Def K mg "_are_goes" s_p__are_goes f_p__are_goes fd_p__are_goes ["thing", "many"]
  f_p__is_part : Addr
  fd_p__is_part : FuncData
  d_p__is_part : Def K mg "_is_part" s_p__is_part f_p__is_part fd_p__is_part ["thing"]
  f_l_cell_at : Addr
  fd_l_cell_at : FuncData
  d_l_cell_at : Def K mg "_law_cell_at" s_l_cell_at f_l_cell_at fd_l_cell_at ["_law_script", "_law_k"]
  f_l_box : Addr
  fd_l_box : FuncData
  d_l_box : Def K mg "_law_box" s_l_box f_l_box fd_l_box ["_law_script", "_law_k"]
  f_l_take : Addr
  fd_l_take : FuncData
  d_l_take : Def K mg "_law_take" s_l_take f_l_take fd_l_take ["_law_box_here", "_law_many"]
  f_l_low : Addr
  fd_l_low : FuncData
  d_l_low : Def K mg "_law_low" s_l_low f_l_low fd_l_low ["_law_top", "_law_bottom"]
  f_l_plus : Addr
  fd_l_plus : FuncData
  d_l_plus : Def K mg "_law_plus" s_l_plus f_l_plus fd_l_plus ["_law_one", "_law_other"]
  f_l_all : Addr
  fd_l_all : FuncData
  d_l_all : Def K mg "_law_all" s_l_all f_l_all fd_l_all ["_law_fracs"]
  f_l_goes : Addr
  fd_l_goes : FuncData
  d_l_goes : Def K mg "_law_goes" s_l_goes f_l_goes fd_l_goes ["_law_box_here", "_law_many"]
  f_l_kinds : Addr
  fd_l_kinds : FuncData
  d_l_kinds : Def K mg "_law_kinds" s_l_kinds f_l_kinds fd_l_kinds ["_law_box_here", "_law_many"]
  f_l_bent : Addr
  fd_l_bent : FuncData
  d_l_bent : Def K mg "_law_bent" s_l_bent f_l_bent fd_l_bent ["_law_box_here", "_law_thing", "_law_deep"]
  f_l_is_whole : Addr
  fd_l_is_whole : FuncData
  d_l_is_whole : Def K mg "_law_is_whole" s_l_is_whole f_l_is_whole fd_l_is_whole ["_law_thing"]
  f_l_is_part : Addr
  fd_l_is_part : FuncData
  d_l_is_part : Def K mg "_law_is_part" s_l_is_part f_l_is_part fd_l_is_part ["_law_thing"]
  f_l_due : Addr
  fd_l_due : FuncData
  d_l_due : Def K mg "_law_due" s_l_due f_l_due fd_l_due ["_law_thing"]
  f_l_edge : Addr
  fd_l_edge : FuncData
  d_l_edge : Def K mg "_law_edge" s_l_edge f_l_edge fd_l_edge ["_law_box_here", "_law_many"]
  f_l_odd : Addr
  fd_l_odd : FuncData
  d_l_odd : Def K mg "_law_odd" s_l_odd f_l_odd fd_l_odd ["_law_box_here", "_law_kinds_here"]
  f_l_right : Addr
  fd_l_right : FuncData
  d_l_right : Def K mg "_law_right" s_l_right f_l_right fd_l_right ["_law_box_here"]
  f_p_law : Addr
  fd_p_law : FuncData
  d_p_law : Def K mg "law" s_p_law f_p_law fd_p_law ["_law_script"]
  b_abs : mg "abs" = none
  b_all : mg "all" = none
  b_bool : mg "bool" = none
  b_int : mg "int" = none
  b_isinstance : mg "isinstance" = none
  b_len : mg "len" = none
  b_list : mg "list" = none
  b_min : mg "min" = none
  b_range : mg "range" = none
  b_str : mg "str" = none
  b_tuple : mg "tuple" = none
  m_gcd : mg "gcd" = some (.builtin "math.gcd")
  t_MOST_KINDS : Tok
  c_MOST_KINDS : mg "MOST_KINDS" = some (.int 6 t_MOST_KINDS)
  t_MOST_FRESH : Tok
  c_MOST_FRESH : mg "MOST_FRESH" = some (.int 1000000 t_MOST_FRESH)
  t_MOST_BOTTOM : Tok
  c_MOST_BOTTOM : mg "MOST_BOTTOM" = some (.int 12 t_MOST_BOTTOM)
  c_p__are_goes : Addr
  P_p__are_goes : Addr
  k_p__are_goes : FunC K "_are_goes" "_are_goes" s_p__are_goes f_p__are_goes fd_p__are_goes c_p__are_goes
  c_p_are_kinds : Addr
  P_p_are_kinds : Addr
  k_p_are_kinds : FunC K "are_kinds" "are_kinds" s_p_are_kinds f_p_are_kinds fd_p_are_kinds c_p_are_kinds
  C_NOUGHT : Addr
  g_NOUGHT : mg "NOUGHT" = some (.ref C_NOUGHT)
  q_NOUGHT : ∀ H, SqT K H C_NOUGHT [.int 0, .int 1]
  C_ONE : Addr
  g_ONE : mg "ONE" = some (.ref C_ONE)
  q_ONE : ∀ H, SqT K H C_ONE [.int 1, .int 1]
def All.Ps {K : PySem.W.Frag} {mg : Str → Option Value} (T : All K mg) : List Addr := [T.P_p__are_goes, T.P_p_are_kinds]
structure Tabs {K : PySem.W.Frag} {mg : Str → Option Value} (T : All K mg) (base : Heap) : Prop where
  t_p__are_goes : GxR.TabB base mg T.c_p__are_goes T.P_p__are_goes
  t_p_are_kinds : GxR.TabB base mg T.c_p_are_kinds T.P_p_are_kinds
end KR
namespace KR
open PySem PySem.Spec PyProof.Rows L2
section
variable {P : Program} {w : World} {K : PySem.W.Frag} {mg : Str → Option Value} {base : Heap}
def sp_l_cell_at (K : PySem.W.Frag) : Sp := fun vs H Q _ => ∃ (a : Addr) (ns : List Int) (k : Int), vs = [.ref a, .int k] ∧ SqL K H a (ns.map V.int) ∧ 0 ≤ k ∧ ∀ z : Int, Q (.int z) H
theorem ok_l_cell_at (T : All K mg) : FnOk P w K mg base CX0 1 T.f_l_cell_at T.fd_l_cell_at ["_law_script", "_law_k"] (sp_l_cell_at K) := by
  refine T.d_l_cell_at.fn.ok sc_l_cell_at (fun vs H Q E h => ?_) (fun cdv A outer s H vs Q E hr h => ?_)
  · obtain ⟨a, ns, k, rfl, _⟩ := h
    rfl
  · obtain ⟨a, ns, k, rfl, hS, h0, q⟩ := h
    refine ⟨_, (pss_cons (ps_if (pt_cmpR op_lt (pv 1) (pe_callB (lenQ (K := K) rfl) (by rfl) T.b_len PySem.boot_len (pa_cons (pv 0) pa_nil)) (nomark _)) (pss_one (ps_ret (pe_ix (ixL (K := K) rfl) (pv 0) (pv 1) (fun _ _ => rfl)))) pss_nil)
      (pss_one (ps_ret pe_int))), ?_⟩
    refine ⟨_, rfl, _, rfl, a, _, rfl, .inl hS, _, _, rfl, rfl, _, rfl, ite2 (fun c => ?_) (fun c => ?_)⟩
    · have c1 : k < ((ns.map V.int).length : Int) := of_decide_eq_true c
      rw [List.length_map] at c1
      refine ⟨_, rfl, _, rfl, a, _, k, _, rfl, rfl, hS, at_of (j := k.toNat) (by omega) (by rw [List.getElem?_map, List.getElem?_eq_getElem (show k.toNat < ns.length by omega)]; rfl), ?_⟩
      exact q _
    · exact q _

end
end KR
namespace KR
open PySem PySem.Spec PyProof.Rows L2
section
variable {P : Program} {w : World} {K : PySem.W.Frag} {mg : Str → Option Value} {base : Heap}
def sp_l_box (K : PySem.W.Frag) : Sp := fun vs H Q _ => ∃ (a : Addr) (ns : List Int) (k : Int), vs = [.ref a, .int k] ∧ SqL K H a (ns.map V.int) ∧ 0 ≤ k ∧ k ≤ 63 ∧ ∀ p H', Same H H' → H p = none → BoxAt H' p 0 → Q (.ref p) H'
theorem ok_l_box (T : All K mg) : FnOk P w K mg base CX0 2 T.f_l_box T.fd_l_box ["_law_script", "_law_k"] (sp_l_box K) := by
  refine T.d_l_box.fn.ok sc_l_box (fun vs H Q E h => ?_) (fun cdv A outer s H vs Q E hr h => ?_)
  · obtain ⟨a, ns, k, rfl, _⟩ := h
    rfl
  · obtain ⟨a, ns, k, rfl, hS, h0, h1, q⟩ := h
    refine ⟨_, (pss_cons (ps_set (i := 2) sc_l_box.nd rfl (by first | exact Or.inl rfl | exact Or.inr rfl) (pe_call (ok_l_cell_at T) hr (by rfl) T.d_l_cell_at.mg T.d_l_cell_at.fn.kp T.d_l_cell_at.b .nil pass0 (pa_cons (pv 0) (pa_cons (pv 1) pa_nil))))
      (pss_one (ps_ret (pe_lstI (pa_cons (pe_op op_mulX (pe_callB call_abs (by rfl) T.b_abs (by decide +kernel) (pa_cons (pv 2) pa_nil)) (pe_callTy call_int1 (by rfl) T.b_int (by decide +kernel) (pa_cons (pe_cmpR op_ge (pe_callB call_abs (by rfl) T.b_abs (by decide +kernel) (pa_cons (pv 2) pa_nil)) (pe_op op_pow pe_int pe_int) (nomark _)) pa_nil))) (pa_cons (pe_op op_add (pe_op op_add (pe_op op_mod (pv 2) pe_int) (pe_op op_mulX pe_int (pv 1))) pe_int) (pa_cons pe_int pa_nil))))))), ?_⟩
    refine ⟨_, rfl, _, rfl, a, ns, k, rfl, hS, h0, fun z => ?_⟩
    refine ⟨_, rfl, _, rfl, _, rfl, _, rfl, _, _, rfl, rfl, ⟨by decide, by decide, by decide⟩, _, _, rfl, rfl, .inr ⟨_, rfl, ?_⟩⟩
    refine ⟨_, _, rfl, rfl, mulR bit_lt, ?_⟩
    refine ⟨_, rfl, _, _, rfl, rfl, (by show (0 : Int) < 2305843009213693951; decide), _, rfl, _, _, rfl, rfl, mulL (by decide), _, _, rfl, rfl, _, _, rfl, rfl, rfl, fun p H1 s1 hp h1 => ?_⟩
    refine q p _ s1 hp ⟨_, _, _, h1, ?_, ?_, ?_, by decide, by decide⟩
    · refine Int.mul_nonneg (by split <;> omega) bit_nn
    · omega
    · omega

end
end KR
namespace KR
open PySem PySem.Spec PyProof.Rows L2
section
variable {P : Program} {w : World} {K : PySem.W.Frag} {mg : Str → Option Value} {base : Heap}
def sp_l_take : Sp := fun vs H Q _ => ∃ (p : Addr) (m : Int) (n : Nat), vs = [.ref p, .int m] ∧ BoxAt H p n ∧ n ≤ 1000000000 ∧ 0 < m ∧ m.natAbs < 2 ^ 200 ∧ ∀ (z : Int) (H' : Hp), 0 ≤ z → z < m → BoxAt H' p (n + 1) → Fr p H H' → Q (.int z) H'
theorem ok_l_take (T : All K mg) : FnOk P w K mg base CX0 1 T.f_l_take T.fd_l_take ["_law_box_here", "_law_many"] sp_l_take := by
  refine T.d_l_take.fn.ok sc_l_take (fun vs H Q E h => ?_) (fun cdv A outer s H vs Q E hr h => ?_)
  · obtain ⟨p, m, n, rfl, _⟩ := h
    rfl
  · obtain ⟨p, m, n, rfl, hB, hn, h0, hm, q⟩ := h
    obtain ⟨a, b, c, hp, ha, hb, hb2, hc, hcn⟩ := hB
    refine ⟨_, (pss_cons (ps_if (pt_cmpR op_gt (pe_ix (ixL (K := K) rfl) (pv 0) pe_int (fun _ _ => rfl)) pe_int (nomark _)) (pss_cons (ps_set (i := 2) sc_l_take.nd rfl (by first | exact Or.inl rfl | exact Or.inr rfl) (pe_op op_mod (pe_ix (ixL (K := K) rfl) (pv 0) pe_int (fun _ _ => rfl)) (pv 1)))
      (pss_cons (ps_asg (pe_op op_fdivW (pe_ix (ixL (K := K) rfl) (pv 0) pe_int (fun _ _ => rfl)) (pv 1)) (pg_sub (pv 0) pe_int set_list))
      (pss_one (ps_ret (pv 2))))) pss_nil)
      (pss_cons (ps_asg (pe_op op_add (pe_ix (ixL (K := K) rfl) (pv 0) pe_int (fun _ _ => rfl)) pe_int) (pg_sub (pv 0) pe_int set_list))
      (pss_cons (ps_set (i := 3) sc_l_take.nd rfl (by first | exact Or.inl rfl | exact Or.inr rfl) (pe_op op_mod (pe_op op_mulX (pe_op op_add (pe_ix (ixL (K := K) rfl) (pv 0) pe_int (fun _ _ => rfl)) (pe_op op_mulX pe_int (pe_ix (ixL (K := K) rfl) (pv 0) pe_int (fun _ _ => rfl)))) (pe_op op_add pe_int (pe_ix (ixL (K := K) rfl) (pv 0) pe_int (fun _ _ => rfl)))) pe_int))
      (pss_cons (ps_set (i := 4) sc_l_take.nd rfl (by first | exact Or.inl rfl | exact Or.inr rfl) (pe_op op_mod (pe_op op_mulX (pe_op op_add (pv 3) (pe_ix (ixL (K := K) rfl) (pv 0) pe_int (fun _ _ => rfl))) (pe_op op_add (pe_op op_mod (pv 3) pe_int) pe_int)) pe_int))
      (pss_one (ps_ret (pe_op op_mod (pe_op op_fdivW (pe_op op_mod (pe_op op_add (pe_op op_mulX (pv 4) pe_int) (pv 3)) pe_int) pe_int) (pv 1)))))))), ?_⟩
    refine ⟨_, rfl, p, _, 0, _, rfl, rfl, SqL.of hp, at0, _, _, rfl, rfl, _, rfl, ite2 (fun c1 => ?_) (fun c1 => ?_)⟩
    · refine ⟨_, rfl, p, _, 0, _, rfl, rfl, SqL.of hp, at0, _, rfl, _, _, rfl, rfl, h0, ?_⟩
      refine ⟨_, rfl, p, _, 0, _, rfl, rfl, SqL.of hp, at0, _, rfl, _, _, rfl, rfl, wide_div h0 hm (by decide) (by decide), ?_⟩
      refine ⟨_, rfl, p, _, 0, 0, rfl, rfl, hp, rfl, ?_⟩
      refine ⟨_, rfl, ?_⟩
      refine q _ _ (Int.emod_nonneg _ (by omega)) (Int.emod_lt_of_pos _ h0) ⟨_, _, _, upd_same, ?_, hb, hb2, hc, by omega⟩ (Fr.put Fr.refl)
      exact Int.ediv_nonneg ha (by omega)
    · refine ⟨_, rfl, p, _, 2, _, rfl, rfl, SqL.of hp, at2, _, _, rfl, rfl, _, rfl, p, _, 2, 2, rfl, rfl, hp, rfl, ?_⟩
      have hp2 : (upd H p (.lst [.int a, .int b, .int (c + 1)])) p = some (.lst [.int a, .int b, .int (c + 1)]) := upd_same
      refine ⟨_, rfl, p, _, 1, _, rfl, rfl, SqL.of hp2, at1, _, rfl, p, _, 2, _, rfl, rfl, SqL.of hp2, at2, _, _, rfl, rfl, mulL (by decide), _, _, rfl, rfl, ?_⟩
      refine ⟨_, rfl, p, _, 2, _, rfl, rfl, SqL.of hp2, at2, _, _, rfl, rfl, _, _, rfl, rfl, mulL (by omega), _, _, rfl, rfl, (by show (0 : Int) < 2147483647; decide), ?_⟩
      generalize e1 : (b + 48271 * (c + 1)) * (39373 + (c + 1)) % 2147483647 = o
      have o1 : 0 ≤ o ∧ o < 2147483647 := by omega
      refine ⟨_, rfl, _, rfl, p, _, 2, _, rfl, rfl, SqL.of hp2, at2, _, _, rfl, rfl, _, rfl, _, _, rfl, rfl, (by show (0 : Int) < 40009; decide), _, _, rfl, rfl, _, _, rfl, rfl, mulL (by omega), _, _, rfl, rfl, (by show (0 : Int) < 2147483629; decide), ?_⟩
      generalize e2 : (o + (c + 1)) * (o % 40009 + 7) % 2147483629 = t
      have t1 : 0 ≤ t ∧ t < 2147483629 := by omega
      refine ⟨_, rfl, _, _, rfl, rfl, mulL (by omega), _, rfl, _, _, rfl, rfl, _, _, rfl, rfl, (by show (0 : Int) < 2147483587; decide), _, _, rfl, rfl, wide_div (b := 10) (by decide) (by decide) (by decide) (by decide), _, rfl, _, _, rfl, rfl, h0, ?_⟩
      exact q _ _ (Int.emod_nonneg _ (by omega)) (Int.emod_lt_of_pos _ h0) ⟨_, _, _, upd_same, ha, hb, hb2, by omega, by omega⟩ (Fr.put Fr.refl)

end
end KR
namespace KR
open PySem PySem.Spec PyProof.Rows L2
section
variable {P : Program} {w : World} {K : PySem.W.Frag} {mg : Str → Option Value} {base : Heap}
theorem ok0_l_low (T : All K mg) : FnOk P w K mg base CX0 1 T.f_l_low T.fd_l_low ["_law_top", "_law_bottom"] sp_lowV := by
  refine T.d_l_low.fn.ok sc_l_low (fun vs H Q E h => ?_) (fun cdv A outer s H vs Q E hr h => ?_)
  · obtain ⟨t, b, rfl, _⟩ := h
    rfl
  · obtain ⟨t, b, rfl, hb, ht, hb2, q⟩ := h
    refine ⟨_, (pss_cons (ps_par (i := 2) (j := 3) (by rfl) sc_l_low.nd rfl rfl (by decide) rfl rfl (pa_cons (pe_callB call_abs (by rfl) T.b_abs (by decide +kernel) (pa_cons (pv 0) pa_nil)) (pa_cons (pe_callB call_abs (by rfl) T.b_abs (by decide +kernel) (pa_cons (pv 1) pa_nil)) pa_nil)) (by rfl))
      (pss_cons (ps_while PassesOwn.never (pt_cmpR op_gt (pv 3) pe_int (nomark _)) (pss_one (ps_par (i := 2) (j := 3) (by rfl) sc_l_low.nd rfl rfl (by decide) rfl rfl (pa_cons (pv 3) (pa_cons (pe_op op_mod (pv 2) (pv 3)) pa_nil)) (by rfl))))
      (pss_one (ps_ret (pe_tupI (pa_cons (pe_op op_mulX (pe_op op_fdivW (pv 0) (pv 2)) (pe_op op_sub pe_int (pe_op op_mulX pe_int (pe_callTy call_int1 (by rfl) T.b_int (by decide +kernel) (pa_cons (pe_cmpR op_lt (pv 1) pe_int (nomark _)) pa_nil))))) (pa_cons (pe_op op_fdivW (pe_callB call_abs (by rfl) T.b_abs (by decide +kernel) (pa_cons (pv 1) pa_nil)) (pv 2)) pa_nil))))))), ?_⟩
    have abs_ : ∀ z : Int, (if z < 0 then -z else z) = (z.natAbs : Int) := fun z => by split <;> omega
    refine ⟨_, rfl, _, rfl, _, rfl, _, rfl, _, _, rfl, ?_⟩
    rw [abs_, abs_]
    refine ⟨fun m σ H' => ∃ x y : Nat, σ = [some (.int t), some (.int b), some (.int x), some (.int y)] ∧ H' = H ∧ Nat.gcd x y = Nat.gcd t.natAbs b.natAbs ∧ m = y, ⟨_, _, _, rfl, rfl, rfl, rfl⟩, ?_⟩
    rintro m σ H' ⟨x, y, rfl, rfl, hg, rfl⟩
    refine ⟨_, rfl, _, _, rfl, rfl, _, rfl, ite2 (fun c => ?_) (fun c => ?_)⟩
    · have c1 : (0 : Int) < m := of_decide_eq_true c
      refine ⟨fun σ' H1 => ∃ x' y' : Nat, σ' = [some (.int t), some (.int b), some (.int x'), some (.int y')] ∧ H1 = H' ∧ Nat.gcd x' y' = Nat.gcd t.natAbs b.natAbs ∧ y' < m, fun σ' H1 ⟨x', y', e1, e2, e3, e4⟩ => ⟨y', e4, x', y', e1, e2, e3, rfl⟩, ?_⟩
      refine ⟨_, rfl, _, rfl, _, rfl, _, _, rfl, rfl, c1, _, _, rfl, ?_⟩
      refine ⟨m, x % m, by rw [Int.natCast_emod]; rfl, rfl, ?_, Nat.mod_lt _ (by omega)⟩
      rw [← hg, Nat.gcd_comm x m, Nat.gcd_rec m x, Nat.gcd_comm]
    · have c1 : ¬ (0 : Int) < m := of_decide_eq_false (Bool.eq_false_iff.mpr c)
      have m0 : m = 0 := by omega
      subst m0
      rw [Nat.gcd_zero_right] at hg
      have x0 : 0 < x := by
        rw [hg]
        exact Nat.gcd_pos_of_pos_right _ (by omega)
      have x1 : (x : Int).natAbs < 2 ^ 8900 := by
        rw [Int.natAbs_natCast, hg]
        exact Nat.lt_of_le_of_lt (Nat.le_of_dvd (by omega) (Nat.gcd_dvd_right _ _)) hb2
      refine ⟨_, rfl, _, rfl, _, _, rfl, rfl, wide_div (b := 8900) (by omega) x1 (by decide) (by decide), _, rfl, _, _, rfl, rfl, .inr ⟨_, rfl, ?_⟩⟩
      refine ⟨_, _, rfl, rfl, mulL (by decide), _, _, rfl, rfl, _, _, rfl, rfl, mulR (by rcases bit_or (c := decide (b < 0) = true) with z | z <;> rw [z] <;> decide), ?_⟩
      refine ⟨_, rfl, _, rfl, _, rfl, _, _, rfl, rfl, wide_div (b := 8900) (by omega) x1 (by decide) (by decide), rfl, fun p H1 s1 hp h1 => ?_⟩
      have e1 : t / (x : Int) * (1 - 2 * (if decide (b < 0) = true then 1 else 0)) = (low t b).1 := by
        unfold low
        rw [hg]
        by_cases z : b < 0
        · rw [if_pos (decide_eq_true z), if_pos z] <;> rfl
        · rw [if_neg (by rw [decide_eq_false z]; exact Bool.false_ne_true), if_neg z] <;> rfl
      have e2 : (if b < 0 then -b else b) / (x : Int) = (low t b).2 := by
        rw [abs_]
        unfold low
        rw [hg]
      refine q p H1 s1 hp ?_
      rw [← e1, ← e2]
      exact h1
theorem ok_l_low (T : All K mg) : FnOk P w K mg base CX0 1 T.f_l_low T.fd_l_low ["_law_top", "_law_bottom"] (sp_lowW K) := (ok0_l_low T).imp fun _ _ _ _ h => lowW h

end
end KR
namespace KR
open PySem PySem.Spec PyProof.Rows L2
section
variable {P : Program} {w : World} {K : PySem.W.Frag} {mg : Str → Option Value} {base : Heap}
theorem ok_l_plus (T : All K mg) : FnOk P w K mg base CX0 2 T.f_l_plus T.fd_l_plus ["_law_one", "_law_other"] (sp_w2 K (fun p q => p + q) (fun _ q => True)) := by
  refine T.d_l_plus.fn.ok sc_l_plus (fun vs H Q E h => ?_) (fun cdv A outer s H vs Q E hr h => ?_)
  · obtain ⟨x, y, p, q, rfl, _⟩ := h
    rfl
  · obtain ⟨x, y, p, q, rfl, hx, hy, zp, zq, hok, k⟩ := h
    have hx' : SqT K H x [.int p.num, .int (p.den : Int)] := hx
    have hy' : SqT K H y [.int q.num, .int (q.den : Int)] := hy
    refine ⟨_, (pss_one (ps_ret (pe_call (ok_l_low T) hr (by rfl) T.d_l_low.mg T.d_l_low.fn.kp T.d_l_low.b .nil pass0 (pa_cons (pe_op op_add (pe_op op_mulX (pe_ix (ixT (K := K) rfl) (pv 0) pe_int (fun _ _ => rfl)) (pe_ix (ixT (K := K) rfl) (pv 1) pe_int (fun _ _ => rfl))) (pe_op op_mulX (pe_ix (ixT (K := K) rfl) (pv 1) pe_int (fun _ _ => rfl)) (pe_ix (ixT (K := K) rfl) (pv 0) pe_int (fun _ _ => rfl)))) (pa_cons (pe_op op_mulX (pe_ix (ixT (K := K) rfl) (pv 0) pe_int (fun _ _ => rfl)) (pe_ix (ixT (K := K) rfl) (pv 1) pe_int (fun _ _ => rfl))) pa_nil))))), ?_⟩
    obtain ⟨a1, a2⟩ := zp
    obtain ⟨b1, b2⟩ := zq
    have hp := den_ne' p
    have hq := den_ne' q
    refine ⟨_, rfl, x, _, 0, _, rfl, rfl, hx', at0, _, rfl, y, _, 1, _, rfl, rfl, hy', at1, _, _, rfl, rfl, mulZ a1 b2 (by omega), _, rfl, y, _, 0, _, rfl, rfl, hy', at0, _, rfl, x, _, 1, _, rfl, rfl, hx', at1, _, _, rfl, rfl, mulZ b1 a2 (by omega), _, _, rfl, rfl, ?_⟩
    refine ⟨_, rfl, x, _, 1, _, rfl, rfl, hx', at1, _, rfl, y, _, 1, _, rfl, rfl, hy', at1, _, _, rfl, rfl, mulZ a2 b2 (by omega), ?_⟩
    refine ⟨_, _, rfl, Int.mul_ne_zero hp hq, lt_up (add_lt (wide_lt a1 b2) (wide_lt b1 a2)) (by omega), lt_up (wide_lt a2 b2) (by omega), ?_⟩
    intro z H' s1 n1 h1
    rw [rq_add] at h1
    exact k z H' s1 n1 h1

end
end KR
namespace KR
open PySem PySem.Spec PyProof.Rows L2
section
variable {P : Program} {w : World} {K : PySem.W.Frag} {mg : Str → Option Value} {base : Heap}
def sp_l_all (K : PySem.W.Frag) : Sp := fun vs H Q _ => ∃ (a : Addr) (l : List Fz) (p : Bool), vs = [.ref a] ∧ SqB K H a (rz l) p ∧ FL K H l ∧ (∀ z ∈ l, Big z.2) ∧ AddOk (l.map (·.2)) ∧ ∀ z H', Same H H' → FrQ K H' z (zsum (l.map (·.2))) → Q (.ref z) H'
theorem ok_l_all (T : All K mg) : FnOk P w K mg base CX0 3 T.f_l_all T.fd_l_all ["_law_fracs"] (sp_l_all K) := by
  refine T.d_l_all.fn.ok sc_l_all (fun vs H Q E h => ?_) (fun cdv A outer s H vs Q E hr h => ?_)
  · obtain ⟨a, l, p, rfl, _⟩ := h
    rfl
  · obtain ⟨a, l, p, rfl, ha, hf, big, add, q⟩ := h
    refine ⟨_, (pss_cons (ps_set (i := 1) sc_l_all.nd rfl (by first | exact Or.inl rfl | exact Or.inr rfl) (pe_tupI (pa_cons pe_int (pa_cons pe_int pa_nil))))
      (pss_cons (ps_for PassesOwn.never rfl (pi_seqB (K := K) rfl (pv 0)) (pg_name (i := 2) sc_l_all.nd rfl (by first | exact Or.inl rfl | exact Or.inr rfl)) (pss_one (ps_set (i := 1) sc_l_all.nd rfl (by first | exact Or.inl rfl | exact Or.inr rfl) (pe_call (ok_l_plus T) hr (by rfl) T.d_l_plus.mg T.d_l_plus.fn.kp T.d_l_plus.b .nil pass0 (pa_cons (pv 1) (pa_cons (pv 2) pa_nil))))))
      (pss_one (ps_ret (pv 1))))), ?_⟩
    refine ⟨rfl, fun z0 H1 s1 n1 h1 => ?_⟩
    have h1 : FrQ K H1 z0 0 := .of h1
    cases p with
    | true => exact ⟨_, rfl, a, rfl, .inl ⟨⟨_, s1.seq ha⟩, all_loop walk_list (fun H' s => s.seq ha) s1 h1 hf big add fun z v H' s hz => ⟨_, rfl, q z H' s hz⟩⟩⟩
    | false => exact ⟨_, rfl, a, rfl, .inr ⟨⟨_, Same.tup s1 ha⟩, all_loop walk_tup (fun H' s => Same.tup s ha) s1 h1 hf big add fun z v H' s hz => ⟨_, rfl, q z H' s hz⟩⟩⟩

end
end KR
namespace KR
open PySem PySem.Spec PyProof.Rows L2
section
variable {P : Program} {w : World} {K : PySem.W.Frag} {mg : Str → Option Value} {base : Heap}
def sp_l_goes (K : PySem.W.Frag) : Sp := fun vs H Q _ => ∃ (p : Addr) (k n : Nat), vs = [.ref p, .int (k : Int)] ∧ BoxAt H p n ∧ n ≤ 999998000 ∧ 1 ≤ k ∧ k ≤ 6 ∧ ∀ (g : Addr) (l : List Fz) (H' : Hp), H' g = some (.tup (rz l)) → FL K H' l → l.length = k → (∀ z ∈ l, Part z.2) → zsum (l.map (·.2)) ≤ 1 → BoxAt H' p (n + 40) → Fr p H H' → Q (.ref g) H'
theorem ok_l_goes (T : All K mg) : FnOk P w K mg base CX0 4 T.f_l_goes T.fd_l_goes ["_law_box_here", "_law_many"] (sp_l_goes K) := by
  refine T.d_l_goes.fn.ok sc_l_goes (fun vs H Q E h => ?_) (fun cdv A outer s H vs Q E hr h => ?_)
  · obtain ⟨p, k, n, rfl, _⟩ := h
    rfl
  · obtain ⟨p, k, n, rfl, hB, hn, k1, k6, q⟩ := h
    refine ⟨_, (pss_cons (ps_par (i := 2) (j := 3) (by rfl) sc_l_goes.nd rfl rfl (by decide) rfl rfl (pa_cons (pe_op op_add pe_int (pe_call (ok_l_take T) (hr.mono (by decide)) (by rfl) T.d_l_take.mg T.d_l_take.fn.kp T.d_l_take.b .nil pass0 (pa_cons (pv 0) (pa_cons pe_int pa_nil)))) (pa_cons (pe_call (ok_l_take T) (hr.mono (by decide)) (by rfl) T.d_l_take.mg T.d_l_take.fn.kp T.d_l_take.b .nil pass0 (pa_cons (pv 0) (pa_cons pe_int pa_nil))) pa_nil)) (by rfl))
      (pss_cons (ps_par (i := 4) (j := 5) (by rfl) sc_l_goes.nd rfl rfl (by decide) rfl rfl (pa_cons (pv 2) (pa_cons (pe_op op_rep (pe_lstI (pa_cons (pe_tupI (pa_cons pe_int (pa_cons pe_int pa_nil))) pa_nil)) (pv 1)) pa_nil)) (by rfl))
      (pss_cons (ps_for PassesOwn.never rfl (pi_range1 (by rfl) T.b_range (pa_cons (pv 1) pa_nil)) (pg_name (i := 6) sc_l_goes.nd rfl (by first | exact Or.inl rfl | exact Or.inr rfl)) (pss_cons (ps_set (i := 7) sc_l_goes.nd rfl (by first | exact Or.inl rfl | exact Or.inr rfl) (pe_call (ok_l_take T) (hr.mono (by decide)) (by rfl) T.d_l_take.mg T.d_l_take.fn.kp T.d_l_take.b .nil pass0 (pa_cons (pv 0) (pa_cons (pv 1) pa_nil))))
      (pss_one (ps_if (pt_cmpR op_eq (pv 3) pe_int (nomark _)) (pss_cons (ps_set (i := 8) sc_l_goes.nd rfl (by first | exact Or.inl rfl | exact Or.inr rfl) (pe_op op_add pe_int (pe_call (ok_l_take T) (hr.mono (by decide)) (by rfl) T.d_l_take.mg T.d_l_take.fn.kp T.d_l_take.b .nil pass0 (pa_cons (pv 0) (pa_cons pe_int pa_nil)))))
      (pss_cons (ps_set (i := 9) sc_l_goes.nd rfl (by first | exact Or.inl rfl | exact Or.inr rfl) (pe_op op_catI (pe_op op_catI (pe_slice (slL (K := K) rfl) (pv 5) po_none (po_some (pv 7))) (pe_lstI (pa_cons (pe_call (ok_l_low T) (hr.mono (by decide)) (by rfl) T.d_l_low.mg T.d_l_low.fn.kp T.d_l_low.b .nil pass0 (pa_cons (pe_call (ok_l_take T) (hr.mono (by decide)) (by rfl) T.d_l_take.mg T.d_l_take.fn.kp T.d_l_take.b .nil pass0 (pa_cons (pv 0) (pa_cons (pe_op op_add (pv 8) pe_int) pa_nil))) (pa_cons (pv 8) pa_nil))) pa_nil))) (pe_slice (slL (K := K) rfl) (pv 5) (po_some (pe_op op_add (pv 7) pe_int)) po_none)))
      (pss_cons (ps_set (i := 10) sc_l_goes.nd rfl (by first | exact Or.inl rfl | exact Or.inr rfl) (pe_call (ok_l_all T) hr (by rfl) T.d_l_all.mg T.d_l_all.fn.kp T.d_l_all.b .nil pass0 (pa_cons (pv 9) pa_nil)))
      (pss_one (ps_set (i := 5) sc_l_goes.nd rfl (by first | exact Or.inl rfl | exact Or.inr rfl) (pe_ifExp (pt_cmpR op_le (pe_ix (ixT (K := K) rfl) (pv 10) pe_int (fun _ _ => rfl)) (pe_ix (ixT (K := K) rfl) (pv 10) pe_int (fun _ _ => rfl)) (nomark _)) (pv 9) (pv 5))))))) (pss_one (ps_if (pt_cmpR (eqDK (K := K) rfl hr.units) (pe_ix (ixL (K := K) rfl) (pv 5) (pv 7) (fun _ _ => rfl)) (pe_tupI (pa_cons pe_int (pa_cons pe_int pa_nil))) (nomark _)) (pss_cons (ps_set (i := 11) sc_l_goes.nd rfl (by first | exact Or.inl rfl | exact Or.inr rfl) (pe_ifExp (PW.pt (pw_and (pt_cmpR op_eq (pv 3) pe_int (nomark _)) (pw_and1 (pt_cmpR op_gt (pv 6) (pe_op op_fdivW (pv 1) pe_int) (nomark _))))) (pv 4) (pe_call (ok_l_take T) (hr.mono (by decide)) (by rfl) T.d_l_take.mg T.d_l_take.fn.kp T.d_l_take.b .nil pass0 (pa_cons (pv 0) (pa_cons (pe_op op_add (pv 4) pe_int) pa_nil)))))
      (pss_one (ps_asg (pe_tupI (pa_cons (pe_op op_sub (pv 4) (pv 11)) (pa_cons (pe_call (ok_l_low T) (hr.mono (by decide)) (by rfl) T.d_l_low.mg T.d_l_low.fn.kp T.d_l_low.b .nil pass0 (pa_cons (pv 11) (pa_cons (pv 2) pa_nil))) pa_nil))) (pg_tupK (K := K) rfl rfl (pgs_cons (pg_name (i := 4) sc_l_goes.nd rfl (by first | exact Or.inl rfl | exact Or.inr rfl)) (pgs_cons (pg_sub (pv 5) (pv 7) set_list) pgs_nil)))))) pss_nil))))))
      (pss_one (ps_ret (pe_callTy call_tuple_of (by rfl) T.b_tuple (by decide +kernel) (pa_cons (pv 5) pa_nil))))))), ?_⟩
    refine ⟨_, rfl, p, 12, n, rfl, hB, by omega, by decide, by decide, fun b H1 b0 b1 B1 F1 => ?_⟩
    refine ⟨_, _, rfl, rfl, _, rfl, p, 4, n + 1, rfl, B1, by omega, by decide, by decide, fun w H2 w0 w1 B2 F2 => ?_⟩
    refine ⟨_, _, rfl, ?_⟩
    refine ⟨_, rfl, rfl, fun t0 H3 s3 n3 h3 => ⟨rfl, fun l0 H4 s4 n4 h4 => ⟨_, rfl, ?_⟩⟩⟩
    refine ⟨l0, (k : Int), _, rfl, rfl, h4, by omega, by omega, by show 1 * _ ≤ _; rw [sizeLine_eq]; omega, fun fl nfl => ?_⟩
    rw [rep_rz k (t0, 0)]
    have s5 : Same H4 (upd H4 fl (.lst (rz (List.replicate k (t0, 0))))) := same_new nfl
    have h5 : (upd H4 fl (.lst (rz (List.replicate k (t0, 0))))) fl = some (.lst (rz (List.replicate k (t0, 0)))) := upd_same
    generalize upd H4 fl (.lst (rz (List.replicate k (t0, 0)))) = H5 at s5 h5
    have s35 := s4.trans s5
    have B5 := (B2.same s3).same s35
    have flp : fl ≠ p := ((B2.same s3).same s4).new nfl
    have F5 : Fr p H H5 := ((F1.trans F2).trans (.of s3)).trans (.of s35)
    have nflH : H fl = none := by
      cases e : H fl with
      | none => rfl
      | some o =>
        have k := (((F1.trans F2).trans (.of s3)).trans (.of s4)) _ _ flp e
        rw [nfl] at k
        cases k
    refine ⟨_, _, rfl, ?_⟩
    have f0 : FrQ K H5 t0 0 := .of (s35 _ _ h3)
    have z0 : GoOk K H5 k (List.replicate k (t0, 0)) := ⟨fun z hz => by rw [List.eq_of_mem_replicate hz]; exact f0, List.length_replicate, fun z hz => by rw [List.eq_of_mem_replicate hz]; exact Part.zero, by rw [List.map_replicate, zsum_rep]; decide⟩
    refine ⟨_, rfl, k, rfl, by omega, by omega, for_range (lo := 0) (n := k) (fun i σ H' => ∃ (lf : Int) (f : Addr) (l : List Fz) (v6 v7 v8 v9 v10 v11 : Option V), σ = [some (.ref p), some (.int (k : Int)), some (.int (1 + b)), some (.int w), some (.int lf), some (.ref f), v6, v7, v8, v9, v10, v11] ∧ H' f = some (.lst (rz l)) ∧ H f = none ∧ f ≠ p ∧ GoOk K H' k l ∧
      0 ≤ lf ∧ lf ≤ 1 + b ∧ (w ≠ 3 → zsum (l.map (·.2)) * ((1 + b : Int) : Rat) = ((1 + b - lf : Int) : Rat)) ∧ BoxAt H' p (n + 2 + 6 * i) ∧ Fr p H H') ⟨1 + b, fl, _, none, none, none, none, none, none, rfl, h5, nflH, flp, z0, by omega, by omega, fun _ => ?_, B5, F5⟩ ?_ ?_⟩
    · rw [List.map_replicate, zsum_rep, show (1 + b - (1 + b) : Int) = 0 by omega, Rat.zero_mul] <;> rfl
    · rintro i σ H0 hi ⟨lf, f, l, v6, v7, v8, v9, v10, v11, rfl, hf, nf, fp, G, lf0, lf1, inv, B, F⟩
      refine ⟨_, rfl, _, rfl, p, (k : Int), n + 2 + 6 * i, rfl, B, by omega, by omega, by omega, fun at_ H6 a0 a1 B6 F6 => ?_⟩
      have hf6 := F6 _ _ fp hf
      have G6 := G.fr B F6
      have F06 := F.trans F6
      obtain ⟨an, rfl⟩ : ∃ an : Nat, at_ = (an : Int) := ⟨at_.toNat, by omega⟩
      have al : an < l.length := by rw [G.len]; omega
      have ga : l[an]? = some l[an] := List.getElem?_eq_getElem al
      generalize l[an] = y at ga
      have my := List.mem_of_getElem? ga
      refine ⟨_, rfl, rfl, _, rfl, ite2 (fun c3 => ?_) (fun c3 => ?_)⟩
      · refine ⟨_, rfl, p, 12, n + 2 + 6 * i + 1, rfl, B6, by omega, by decide, by decide, fun o H7 o0 o1 B7 F7 => ?_⟩
        refine ⟨_, _, rfl, rfl, ?_⟩
        have hf7 := F7 _ _ fp hf6
        refine ⟨_, rfl, _, rfl, _, rfl, f, _, rfl, SqL.of hf7, fun c1 H8 s8 n8 h8 => ?_⟩
        rw [cut_to (by rw [rz_len]; omega), rz_take] at h8
        have B8 := B7.same s8
        have c1p : c1 ≠ p := B7.new n8
        refine ⟨_, rfl, _, rfl, _, _, rfl, rfl, p, 1 + o + 1, n + 2 + 6 * i + 2, rfl, B8, by omega, by omega, by omega, fun t H9 t0 t1 B9 F9 => ?_⟩
        refine ⟨_, rfl, t, 1 + o, rfl, by omega, ?_, ?_, fun d H10 s10 n10 h10 => ?_⟩
        · exact lt_up (a := 8) (by omega) (by decide)
        · exact lt_up (a := 8) (by omega) (by decide)
        refine ⟨rfl, fun c2 H11 s11 n11 h11 => ?_⟩
        have h9 := F9 _ _ c1p h8
        have f9 := F9 _ _ fp (s8 _ _ hf7)
        refine ⟨c1, c2, _, _, rfl, rfl, s11 _ _ (s10 _ _ h9), h11, by simp only [rz_len, List.length_take, List.length_singleton]; exact small' (by have := G.len; omega), fun c3' H12 s12 n12 h12 => ?_⟩
        refine ⟨_, rfl, _, rfl, _, _, rfl, rfl, _, rfl, f, _, rfl, SqL.of (s12 _ _ (s11 _ _ (s10 _ _ f9))), fun c4 H13 s13 n13 h13 => ?_⟩
        rw [show ((an : Int) + 1) = ((an + 1 : Nat) : Int) by omega, cut_from (by rw [rz_len]; omega), rz_drop] at h13
        have lens : (rz (l.take an) ++ [V.ref d]).length + (rz (l.drop (an + 1))).length ≤ sizeLine := by
          have := G.len
          rw [List.length_append, rz_len, rz_len, List.length_take, List.length_drop, sizeLine_eq]
          show min an l.length + 1 + _ ≤ _
          omega
        refine ⟨c3', c4, _, _, rfl, rfl, s13 _ _ h12, h13, lens, fun c5 H14 s14 n14 h14 => ?_⟩
        have es : rz (l.take an) ++ [V.ref d] ++ rz (l.drop (an + 1)) = rz (l.set an (d, rq t (1 + o))) := by
          rw [List.set_eq_take_append_cons_drop, if_pos al, rz_app]
          show rz (l.take an) ++ [V.ref d] ++ rz (l.drop (an + 1)) = rz (l.take an) ++ (V.ref d :: rz (l.drop (an + 1)))
          rw [List.append_assoc] <;> rfl
        rw [es] at h14
        have s1014 : Same H10 H14 := s11.trans (s12.trans (s13.trans s14))
        have F79 : Fr p H7 H14 := (Fr.of s8).trans (F9.trans (.of (s10.trans s1014)))
        have G7 := (G6.fr B6 F7).fr B7 F79
        have F014 : Fr p H H14 := (F06.trans F7).trans F79
        have B14 := (B9.same s10).same s1014
        have c5p : c5 ≠ p := (((((B9.same s10).same s11).same s12).same s13)).new n14
        have fd14 : FrQ K H14 d (rq t (1 + o)) := FrQ.same h10 s1014
        have pd : Part (rq t (1 + o)) := Part.rq t0 (by omega) (by omega) (by omega)
        have ps : ∀ z ∈ l.set an (d, rq t (1 + o)), Part z.2 := fun z hz => by
          rcases mem_set hz with h | h
          · exact G.pa z h
          · rw [h]
            exact pd
        have fs : FL K H14 (l.set an (d, rq t (1 + o))) := fun z hz => by
          rcases mem_set hz with h | h
          · exact G7.fl z h
          · rw [h]
            exact fd14
        refine ⟨_, rfl, c5, _, true, rfl, SqL.of h14, fs, fun z hz => part_big (ps z hz), parts_add (mem_q ps) (by rw [List.length_map, List.length_set, G.len]; omega), fun wq H15 s15 hw => ?_⟩
        have hw' : SqT K H15 wq [.int (zsum ((l.set an (d, rq t (1 + o))).map (·.2))).num, .int ((zsum ((l.set an (d, rq t (1 + o))).map (·.2))).den : Int)] := hw
        have f15 := s15 _ _ (s14 _ _ (s13 _ _ (s12 _ _ (s11 _ _ (s10 _ _ f9)))))
        have B15 := (B14.same s15).mono (show n + 2 + 6 * i + 2 + 1 ≤ n + 2 + 6 * (i + 1) by omega)
        have F15 := F014.trans (.of s15)
        refine ⟨_, rfl, wq, _, 0, _, rfl, rfl, hw', at0, _, rfl, wq, _, 1, _, rfl, rfl, hw', at1, _, _, rfl, rfl, _, rfl, ite2 (fun cw => ?_) (fun cw => ?_)⟩
        · have w3 : w = 3 := V.int.inj (of_decide_eq_true c3)
          have le1 := (le_one_iff _).mp (of_decide_eq_true cw)
          refine ⟨_, rfl, lf, c5, l.set an (d, rq t (1 + o)), _, _, _, _, _, _, rfl, s15 _ _ h14, ?_, ?_, ⟨fs.same s15, by rw [List.length_set, G.len], ps, le1⟩, lf0, lf1, fun z => absurd w3 z, B15, F15⟩
          · exact fr_new ((F06.trans F7).trans ((Fr.of s8).trans (F9.trans (.of (s10.trans (s11.trans (s12.trans s13))))))) n14 c5p
          · exact c5p
        · exact ⟨_, rfl, lf, f, l, _, _, _, _, _, _, rfl, f15, nf, fp, G7.same s15, lf0, lf1, inv, B15, F15⟩
      · have f6 := G6.fl y my
        have hf6' : SqL K H6 f (rz l) := SqL.of hf6
        have gx : (rz l)[an]? = some (.ref y.1) := by
          unfold rz
          rw [List.getElem?_map, ga] <;> rfl
        have w3 : w ≠ 3 := fun e => c3 (by rw [e]; exact decide_eq_true rfl)
        refine ⟨_, rfl, _, rfl, f, _, (an : Int), _, rfl, rfl, hf6', at_of rfl gx, rfl, fun z1 H7 s7 n7 h7 => ?_⟩
        have q0 : FrQ K H7 z1 0 := .of h7
        refine ⟨dq y.2, dq 0, (f6.same s7).dp, q0.dp, rfl, rfl, _, rfl, ?_⟩
        rw [eqv_dq]
        have B7 := B6.same s7
        have hf7 := s7 _ _ hf6
        have G7 := G6.same s7
        have F07 := F06.trans (.of s7)
        refine ite2 (fun cz => ?_) (fun cz => ?_)
        · have y0 : y.2 = 0 := of_decide_eq_true cz
          refine ⟨_, rfl, rfl, _, rfl, ite2 (fun cw => ?_) (fun cw => ?_)⟩
          · refine ⟨_, rfl, _, rfl, _, _, rfl, rfl, wide_div (b := 3) (by decide) (by decide) (by decide) (by decide), _, _, rfl, rfl, _, rfl, ite2 (fun ct => ?_) (fun ct => ?_)⟩
            · refine ⟨_, rfl, ?_⟩
              refine ⟨_, rfl, _, rfl, _, _, rfl, rfl, _, rfl, _, rfl, lf, 1 + b, rfl, by omega, lt_up (a := 8) (by omega) (by decide), lt_up (a := 8) (by omega) (by decide), fun d H9 s9 n9 h9 => ?_⟩
              refine ⟨rfl, fun u H10 s10 n10 h10 => ?_⟩
              have s810 := s9.trans s10
              have hf10 := s810 _ _ hf7
              refine ⟨u, _, rfl, SqT.of h10, rfl, _, _, rfl, _, _, rfl, _, rfl, _, rfl, f, _, (an : Int), an, rfl, rfl, hf10, by rw [rz_len]; unfold ixN; rw [if_pos (by omega), if_pos (by omega), Int.toNat_natCast], rfl, ?_⟩
              rw [rz_set l an (d, rq lf (1 + b))]
              have pd : Part (rq lf (1 + b)) := Part.rq lf0 (by omega) (by omega) (by omega)
              have G10 := G7.same s810
              have fd : FrQ K H10 d (rq lf (1 + b)) := h9.same s10
              have ps : ∀ z ∈ l.set an (d, rq lf (1 + b)), Part z.2 := fun z hz => by
                rcases mem_set hz with h | h
                · exact G.pa z h
                · rw [h]
                  exact pd
              have fs : FL K H10 (l.set an (d, rq lf (1 + b))) := fun z hz => by
                rcases mem_set hz with h | h
                · exact G10.fl z h
                · rw [h]
                  exact fd
              have eq := goes_sum (d := d) ga y0 (inv w3) lf0 (Int.le_refl lf) lf1 (by omega)
              refine ⟨lf - lf, f, l.set an (d, rq lf (1 + b)), _, _, _, _, _, _, rfl, upd_same, nf, fp, ⟨fs.put hf10, by rw [List.length_set, G.len], ps, eq.2⟩, by omega, by omega, fun _ => eq.1, ((B7.same s810).upd fp).mono (by omega), (F07.trans (.of s810)).put' nf⟩
            · refine ⟨_, rfl, _, rfl, _, _, rfl, rfl, p, lf + 1, n + 2 + 6 * i + 1, rfl, B7, by omega, by omega, by omega, fun tp H8 tp0 tp1 B8 F8 => ?_⟩
              have F08 := F07.trans F8
              have hf8 := F8 _ _ fp hf7
              have G8 := G7.fr B7 F8
              have tpl : tp ≤ lf := by omega
              refine ⟨_, rfl, _, rfl, _, _, rfl, rfl, _, rfl, _, rfl, tp, 1 + b, rfl, by omega, lt_up (a := 8) (by omega) (by decide), lt_up (a := 8) (by omega) (by decide), fun d H9 s9 n9 h9 => ?_⟩
              refine ⟨rfl, fun u H10 s10 n10 h10 => ?_⟩
              have s810 := s9.trans s10
              have hf10 := s810 _ _ hf8
              refine ⟨u, _, rfl, SqT.of h10, rfl, _, _, rfl, _, _, rfl, _, rfl, _, rfl, f, _, (an : Int), an, rfl, rfl, hf10, by rw [rz_len]; unfold ixN; rw [if_pos (by omega), if_pos (by omega), Int.toNat_natCast], rfl, ?_⟩
              rw [rz_set l an (d, rq tp (1 + b))]
              have pd : Part (rq tp (1 + b)) := Part.rq tp0 (by omega) (by omega) (by omega)
              have G10 := G8.same s810
              have fd : FrQ K H10 d (rq tp (1 + b)) := h9.same s10
              have ps : ∀ z ∈ l.set an (d, rq tp (1 + b)), Part z.2 := fun z hz => by
                rcases mem_set hz with h | h
                · exact G.pa z h
                · rw [h]
                  exact pd
              have fs : FL K H10 (l.set an (d, rq tp (1 + b))) := fun z hz => by
                rcases mem_set hz with h | h
                · exact G10.fl z h
                · rw [h]
                  exact fd
              have eq := goes_sum (d := d) ga y0 (inv w3) tp0 tpl lf1 (by omega)
              refine ⟨lf - tp, f, l.set an (d, rq tp (1 + b)), _, _, _, _, _, _, rfl, upd_same, nf, fp, ⟨fs.put hf10, by rw [List.length_set, G.len], ps, eq.2⟩, by omega, by omega, fun _ => eq.1, ((B8.same s810).upd fp).mono (by omega), (F08.trans (.of s810)).put' nf⟩
          · refine ⟨_, rfl, _, rfl, _, _, rfl, rfl, p, lf + 1, n + 2 + 6 * i + 1, rfl, B7, by omega, by omega, by omega, fun tp H8 tp0 tp1 B8 F8 => ?_⟩
            have F08 := F07.trans F8
            have hf8 := F8 _ _ fp hf7
            have G8 := G7.fr B7 F8
            have tpl : tp ≤ lf := by omega
            refine ⟨_, rfl, _, rfl, _, _, rfl, rfl, _, rfl, _, rfl, tp, 1 + b, rfl, by omega, lt_up (a := 8) (by omega) (by decide), lt_up (a := 8) (by omega) (by decide), fun d H9 s9 n9 h9 => ?_⟩
            refine ⟨rfl, fun u H10 s10 n10 h10 => ?_⟩
            have s810 := s9.trans s10
            have hf10 := s810 _ _ hf8
            refine ⟨u, _, rfl, SqT.of h10, rfl, _, _, rfl, _, _, rfl, _, rfl, _, rfl, f, _, (an : Int), an, rfl, rfl, hf10, by rw [rz_len]; unfold ixN; rw [if_pos (by omega), if_pos (by omega), Int.toNat_natCast], rfl, ?_⟩
            rw [rz_set l an (d, rq tp (1 + b))]
            have pd : Part (rq tp (1 + b)) := Part.rq tp0 (by omega) (by omega) (by omega)
            have G10 := G8.same s810
            have fd : FrQ K H10 d (rq tp (1 + b)) := h9.same s10
            have ps : ∀ z ∈ l.set an (d, rq tp (1 + b)), Part z.2 := fun z hz => by
              rcases mem_set hz with h | h
              · exact G.pa z h
              · rw [h]
                exact pd
            have fs : FL K H10 (l.set an (d, rq tp (1 + b))) := fun z hz => by
              rcases mem_set hz with h | h
              · exact G10.fl z h
              · rw [h]
                exact fd
            have eq := goes_sum (d := d) ga y0 (inv w3) tp0 tpl lf1 (by omega)
            refine ⟨lf - tp, f, l.set an (d, rq tp (1 + b)), _, _, _, _, _, _, rfl, upd_same, nf, fp, ⟨fs.put hf10, by rw [List.length_set, G.len], ps, eq.2⟩, by omega, by omega, fun _ => eq.1, ((B8.same s810).upd fp).mono (by omega), (F08.trans (.of s810)).put' nf⟩
        · exact ⟨lf, f, l, _, _, _, _, _, _, rfl, hf7, nf, fp, G7, lf0, lf1, inv, B7.mono (by omega), F07⟩
    · rintro σ H0 ⟨lf, f, l, v6, v7, v8, v9, v10, v11, rfl, hf, nf, fp, G, lf0, lf1, inv, B, F⟩
      refine ⟨_, rfl, f, _, rfl, .inl ⟨SqL.of hf, fun g ng => ?_⟩⟩
      have sg : Same H0 (upd H0 g (.tup (rz l))) := same_new ng
      have Gg := G.same sg
      exact q g l _ upd_same Gg.fl G.len G.pa G.one ((B.same sg).mono (by omega)) (F.trans (.of sg))

end
end KR
namespace KR
open PySem PySem.Spec PyProof.Rows L2
section
variable {P : Program} {w : World} {K : PySem.W.Frag} {mg : Str → Option Value} {base : Heap}
def sp_l_kinds (K : PySem.W.Frag) : Sp := fun vs H Q _ => ∃ (p : Addr) (k n : Nat), vs = [.ref p, .int (k : Int)] ∧ BoxAt H p n ∧ n ≤ 999990000 ∧ 1 ≤ k ∧ k ≤ 6 ∧ ∀ (f : Addr) (ks : List Kn) (H' : Hp), H' f = some (.lst (rk ks)) → KnL K H' k ks → ks.length = k → BoxAt H' p (n + 300) → Fr p H H' → f ≠ p → H f = none → Q (.ref f) H'
theorem ok_l_kinds (T : All K mg) : FnOk P w K mg base CX0 5 T.f_l_kinds T.fd_l_kinds ["_law_box_here", "_law_many"] (sp_l_kinds K) := by
  refine T.d_l_kinds.fn.ok sc_l_kinds (fun vs H Q E h => ?_) (fun cdv A outer s H vs Q E hr h => ?_)
  · obtain ⟨p, k, n, rfl, _⟩ := h
    rfl
  · obtain ⟨p, k, n, rfl, hB, hn, k1, k6, q⟩ := h
    refine ⟨_, (pss_cons (ps_set (i := 2) sc_l_kinds.nd rfl (by first | exact Or.inl rfl | exact Or.inr rfl) (pe_lstI pa_nil))
      (pss_cons (ps_for PassesOwn.never rfl (pi_range1 (by rfl) T.b_range (pa_cons (pv 1) pa_nil)) (pg_name (i := 3) sc_l_kinds.nd rfl (by first | exact Or.inl rfl | exact Or.inr rfl)) (pss_cons (ps_par (i := 4) (j := 5) (by rfl) sc_l_kinds.nd rfl rfl (by decide) rfl rfl (pa_cons (pe_call (ok_l_take T) (hr.mono (by decide)) (by rfl) T.d_l_take.mg T.d_l_take.fn.kp T.d_l_take.b .nil pass0 (pa_cons (pv 0) (pa_cons (pe_ix (ixL (K := K) rfl) (pe_lstI (pa_cons pe_int (pa_cons pe_int (pa_cons (pe_op op_add (pe_op op_pow pe_int pe_int) pe_int) pa_nil)))) (pe_call (ok_l_take T) (hr.mono (by decide)) (by rfl) T.d_l_take.mg T.d_l_take.fn.kp T.d_l_take.b .nil pass0 (pa_cons (pv 0) (pa_cons pe_int pa_nil))) (fun _ _ => rfl)) pa_nil))) (pa_cons (pe_op op_add pe_int (pe_call (ok_l_take T) (hr.mono (by decide)) (by rfl) T.d_l_take.mg T.d_l_take.fn.kp T.d_l_take.b .nil pass0 (pa_cons (pv 0) (pa_cons pe_int pa_nil)))) pa_nil)) (by rfl))
      (pss_cons (ps_set (i := 6) sc_l_kinds.nd rfl (by first | exact Or.inl rfl | exact Or.inr rfl) (pe_ix (ixL (K := K) rfl) (pe_lstI (pa_cons (pe_tupI (pa_cons pe_int (pa_cons pe_int pa_nil))) (pa_cons (pe_tupI (pa_cons pe_int (pa_cons pe_int pa_nil))) (pa_cons (pe_call (ok_l_low T) (hr.mono (by decide)) (by rfl) T.d_l_low.mg T.d_l_low.fn.kp T.d_l_low.b .nil pass0 (pa_cons (pe_call (ok_l_take T) (hr.mono (by decide)) (by rfl) T.d_l_take.mg T.d_l_take.fn.kp T.d_l_take.b .nil pass0 (pa_cons (pv 0) (pa_cons (pe_op op_add (pv 5) pe_int) pa_nil))) (pa_cons (pv 5) pa_nil))) pa_nil)))) (pe_callB (call_min2 rfl) (by rfl) T.b_min (by decide +kernel) (pa_cons pe_int (pa_cons (pe_call (ok_l_take T) (hr.mono (by decide)) (by rfl) T.d_l_take.mg T.d_l_take.fn.kp T.d_l_take.b .nil pass0 (pa_cons (pv 0) (pa_cons pe_int pa_nil))) pa_nil))) (fun _ _ => rfl)))
      (pss_one (ps_expr (pe_bm PySem.F.plainAttrs_list PySem.F.slot_list_append PySem.F.type_list_append mt_append (pv 2) (pa_cons (pe_tupI (pa_cons (pv 4) (pa_cons (pv 6) (pa_cons (pe_call (ok_l_goes T) hr (by rfl) T.d_l_goes.mg T.d_l_goes.fn.kp T.d_l_goes.b .nil pass0 (pa_cons (pv 0) (pa_cons (pv 1) pa_nil))) pa_nil)))) pa_nil)))))))
      (pss_one (ps_ret (pv 2))))), ?_⟩
    refine ⟨rfl, fun f H1 s1 n1 h1 => ?_⟩
    have fp : f ≠ p := hB.new n1
    refine ⟨_, rfl, k, rfl, by omega, by omega, for_range (lo := 0) (n := k) (fun i σ H' => ∃ (ks : List Kn) (v3 v4 v5 v6 : Option V), σ = [some (.ref p), some (.int (k : Int)), some (.ref f), v3, v4, v5, v6] ∧ H' f = some (.lst (rk ks)) ∧ KnL K H' k ks ∧ ks.length = i ∧ BoxAt H' p (n + 45 * i) ∧ Fr p H H')
      ⟨[], none, none, none, none, rfl, h1, fun z hz => absurd hz List.not_mem_nil, rfl, hB.same s1, .of s1⟩ ?_ ?_⟩
    · rintro i σ H0 hi ⟨ks, v3, v4, v5, v6, rfl, hf, L, len, B, F⟩
      refine ⟨_, rfl, _, _, rfl, rfl, ⟨by decide, by decide, by decide⟩, _, _, rfl, rfl, rfl, fun l1 H2 s2 n2 h2 => ?_⟩
      have B2 := B.same s2
      have l1p : l1 ≠ p := B.new n2
      refine ⟨_, rfl, p, 3, n + 45 * i, rfl, B2, by omega, by decide, by decide, fun w H3 w0 w1 B3 F3 => ?_⟩
      obtain ⟨m, em, m0, m1⟩ : ∃ m : Int, atI ([.int 3, .int 100, .int (10 ^ (6 : Int).toNat + 1)] : List V) w = some (.int m) ∧ 0 < m ∧ m ≤ 1000001 := by
        have ws : w = 0 ∨ w = 1 ∨ w = 2 := by omega
        rcases ws with e | e | e <;> subst e
        · exact ⟨_, rfl, by decide, by decide⟩
        · exact ⟨_, rfl, by decide, by decide⟩
        · exact ⟨_, rfl, by decide, by decide⟩
      refine ⟨l1, _, w, _, rfl, rfl, SqL.of (F3 _ _ l1p h2), em, p, m, n + 45 * i + 1, rfl, B3, by omega, m0, by omega, fun fr H4 fr0 fr1 B4 F4 => ?_⟩
      refine ⟨_, rfl, p, 12, n + 45 * i + 2, rfl, B4, by omega, by decide, by decide, fun b H5 b0 b1 B5 F5 => ?_⟩
      refine ⟨_, _, rfl, rfl, _, _, rfl, ?_⟩
      have F25 : Fr p H2 H5 := F3.trans (F4.trans F5)
      refine ⟨rfl, fun t1 H6 s6 n6 h6 => ⟨rfl, fun t2 H7 s7 n7 h7 => ?_⟩⟩
      have B7 := (B5.same s6).same s7
      refine ⟨_, rfl, _, rfl, _, _, rfl, rfl, p, 1 + b + 1, n + 45 * i + 3, rfl, B7, by omega, by omega, by omega, fun t H8 t0 t4 B8 F8 => ?_⟩
      refine ⟨_, rfl, t, 1 + b, rfl, by omega, lt_up (a := 8) (by omega) (by decide), lt_up (a := 8) (by omega) (by decide), fun t3 H9 s9 n9 h9 => ⟨rfl, fun l2 H10 s10 n10 h10 => ?_⟩⟩
      have B10 := (B8.same s9).same s10
      have l2p : l2 ≠ p := (B8.same s9).new n10
      refine ⟨_, rfl, p, 6, n + 45 * i + 4, rfl, B10, by omega, by decide, by decide, fun z H11 z0 z6 B11 F11 => ?_⟩
      refine ⟨_, _, rfl, ?_⟩
      have s910 := s9.trans s10
      have F8' : Fr p H7 H11 := F8.trans ((Fr.of s910).trans F11)
      have pick : ∃ (d : Addr) (r : Rat), atI [V.ref t1, V.ref t2, V.ref t3] (if z < 2 then z else 2) = some (.ref d) ∧ FrQ K H11 d r ∧ Part r := by
        have f1 : FrQ K H11 t1 1 := FrQ.fr (.of (s7 _ _ h6)) B7 F8'
        have f2 : FrQ K H11 t2 0 := FrQ.fr (.of h7) B7 F8'
        have f3 : FrQ K H11 t3 (rq t (1 + b)) := FrQ.fr (h9.same s10) B10 F11
        have zs : z = 0 ∨ z = 1 ∨ ¬ z < 2 := by omega
        rcases zs with e | e | e
        · subst e
          exact ⟨t1, 1, rfl, f1, ⟨by decide, by decide, by decide⟩⟩
        · subst e
          exact ⟨t2, 0, rfl, f2, Part.zero⟩
        · rw [if_neg e]
          exact ⟨t3, _, rfl, f3, Part.rq t0 (by omega) (by omega) (by omega)⟩
      obtain ⟨d, r, ed, hd, pr⟩ := pick
      refine ⟨l2, _, _, _, rfl, rfl, SqL.of (F11 _ _ l2p h10), ed, ?_⟩
      have F011 : Fr p H0 H11 := (Fr.of s2).trans (F25.trans ((Fr.of (s6.trans s7)).trans F8'))
      have hf11 := F011 _ _ fp hf
      refine ⟨_, rfl, .inl ⟨rfl, _, SqL.of hf11⟩, _, rfl, _, rfl, _, rfl, _, rfl, p, k, n + 45 * i + 5, rfl, B11, by omega, k1, k6, fun g l H12 hg fl gl pa one B12 F12 => ?_⟩
      refine ⟨rfl, fun a H13 s13 n13 h13 => ?_⟩
      have F013 : Fr p H0 H13 := (F011.trans F12).trans (.of s13)
      have hf13 := F013 _ _ fp hf
      refine ⟨f, _, _, rfl, rfl, hf13, by rw [rk_len]; exact small' (by omega), ?_⟩
      have ok : KnOk K H13 k ⟨a, d, g, fr, r, l⟩ := ⟨SqT.of h13, (hd.fr B11 F12).same s13, SqT.of (s13 _ _ hg), ⟨fl.same s13, gl, pa, one⟩, pr, fr0, by show fr ≤ 1000000; omega⟩
      have nf : H f = none := n1
      refine ⟨ks ++ [⟨a, d, g, fr, r, l⟩], _, _, _, _, rfl, ?_, fun y hy => ?_, by rw [List.length_append, len] <;> rfl, ((B12.same s13).upd fp).mono (by omega), (F.trans F013).put' nf⟩
      · rw [upd_same]
        unfold rk
        rw [List.map_append] <;> rfl
      · rcases List.mem_append.mp hy with h | h
        · exact ((L y h).fr B F013).put hf13
        · rw [List.mem_singleton.mp h]
          exact ok.put hf13
    · rintro σ H0 ⟨ks, v3, v4, v5, v6, rfl, hf, L, len, B, F⟩
      exact ⟨_, rfl, q f ks H0 hf L len (B.mono (by omega)) F fp n1⟩

end
end KR
namespace KR
open PySem PySem.Spec PyProof.Rows L2
section
variable {P : Program} {w : World} {K : PySem.W.Frag} {mg : Str → Option Value} {base : Heap}
def sp_l_bent (K : PySem.W.Frag) (k : Nat) : Sp := fun vs H Q _ => ∃ (p : Addr) (Av : Addr → Prop) (nb dp n B W : Nat) (v : V) (d : PyData), vs = [.ref p, v, .int (dp : Int)] ∧ Av p ∧ (∀ a, Av a → ∃ o, H a = some o) ∧ BoxAt H p nb ∧ nb + 10 * (dp + 1) ≤ 999000000 ∧ Tg K Av H B n v d ∧ 1000001 ≤ B ∧ B ≤ 2000000 ∧ PyData.weight d ≤ W ∧ W ≤ 32000 ∧ dp + 2 ≤ k ∧ dp ≤ 10 ∧ n ≤ 40 ∧
  ∀ (v' : V) (d' : PyData) (H' : Hp), BoxAt H' p (nb + 5 * (dp + 1)) → Fr p H H' → Tg K Av H' (B + 12) (n + 1) v' d' → PyData.weight d' ≤ 3 * W + 200 → Q v' H'
theorem none_l_bent {f : Addr} {fd : FuncData} {k : Nat} (hk : k < 2) : FnG P w K mg base k f fd ["_law_box_here", "_law_thing", "_law_deep"] (sp_l_bent K k) := by
  have no : ∀ vs H Q E, ¬ sp_l_bent K k vs H Q E := fun vs H Q E h => by
    obtain ⟨p, Av, nb, dp, n, B, W, v, d, _, _, _, _, _, _, _, _, _, _, h, _⟩ := h
    omega
  exact ⟨fun vs H Q E h => absurd h (no vs H Q E), fun A outer s H args us vs Q E _ _ _ _ _ h => absurd h (no vs H Q E)⟩
theorem step_l_bent (T : All K mg) {k : Nat} (hk : 1 ≤ k) (ih : FnG P w K mg base k T.f_l_bent T.fd_l_bent ["_law_box_here", "_law_thing", "_law_deep"] (sp_l_bent K k)) : FnG P w K mg base (k + 1) T.f_l_bent T.fd_l_bent ["_law_box_here", "_law_thing", "_law_deep"] (sp_l_bent K (k + 1)) := by
  refine okG T.d_l_bent.fn sc_l_bent (fun vs H Q E h => ?_) (fun cdv A outer s H vs Q E hr hg h => ?_)
  · obtain ⟨p, Av, nb, dp, n, B, W, v, d, rfl, _⟩ := h
    rfl
  · obtain ⟨p, Av, nb, dp, n, B, W, v, d, rfl, hAp, hAv, hB, hnb, hT, B1, B2, hw, hW, hdp, dp10, n40, q⟩ := h
    refine ⟨_, (pss_cons (ps_if (pt_not (pt_val (pe_callB (isiTK (K := K) rfl) (by rfl) T.b_isinstance (by decide +kernel) (pa_cons (pv 1) (pa_cons (pe_tupI (pa_cons (pe_bltn (v := .ty "list") (by rfl) T.b_list (by decide +kernel) rfl) (pa_cons (pe_bltn (v := .ty "tuple") (by rfl) T.b_tuple (by decide +kernel) rfl) pa_nil))) pa_nil))))) (pss_cons (ps_J (ps_set (i := 3) sc_l_bent.nd rfl (by first | exact Or.inl rfl | exact Or.inr rfl) (pe_ifExp (pt_val (pe_callB (isiK (K := K) rfl) (by rfl) T.b_isinstance (by decide +kernel) (pa_cons (pv 1) (pa_cons (pe_bltn (v := .ty "int") (by rfl) T.b_int (by decide +kernel) rfl) pa_nil)))) (pv 1) pe_int)))
      (pss_cons (ps_set (i := 4) sc_l_bent.nd rfl (by first | exact Or.inl rfl | exact Or.inr rfl) (pe_lstI (pa_cons (pe_op op_addNb (pv 3) pe_int) (pa_cons (pe_op op_subNb (pv 3) pe_int) (pa_cons (pe_op op_subIb (pe_un un_neg pe_int) (pv 3)) (pa_cons (pe_op op_addNb (pv 3) pe_int) (pa_cons (pe_cmpR (eqDK (K := K) rfl hr.units) (pv 3) pe_int (nomark _)) (pa_cons pe_non (pa_cons (pe_callTy (cr_strV (K := K) rfl hg hr.units) (by rfl) T.b_str (by decide +kernel) (pa_cons (pv 1) pa_nil)) (pa_cons (pe_lstI (pa_cons (pv 1) pa_nil)) (pa_cons (pe_tupI (pa_cons (pv 1) pa_nil)) (pa_cons (pe_op op_add (pe_op op_pow pe_int pe_int) pe_int) pa_nil))))))))))))
      (pss_one (ps_ret (pe_ix (ixL (K := K) rfl) (pv 4) (pe_call (ok_l_take T) (hr.mono (by omega)) (by rfl) T.d_l_take.mg T.d_l_take.fn.kp T.d_l_take.b .nil pass0 (pa_cons (pv 0) (pa_cons pe_int pa_nil))) (fun _ _ => rfl)))))) pss_nil)
      (pss_cons (ps_par3 (i := 5) (j := 6) (l := 7) (by rfl) sc_l_bent.nd rfl rfl rfl (by decide) (by decide) (by decide) rfl rfl rfl (pa_cons (pe_callTy (listI (K := K) rfl) (by rfl) T.b_list (by decide +kernel) (pa_cons (pv 1) pa_nil)) (pa_cons (pe_call (ok_l_take T) (hr.mono (by omega)) (by rfl) T.d_l_take.mg T.d_l_take.fn.kp T.d_l_take.b .nil pass0 (pa_cons (pv 0) (pa_cons (pe_op op_add (pe_callB (lenA (K := K) rfl) (by rfl) T.b_len PySem.boot_len (pa_cons (pv 1) pa_nil)) pe_int) pa_nil))) (pa_cons (pe_call (ok_l_take T) (hr.mono (by omega)) (by rfl) T.d_l_take.mg T.d_l_take.fn.kp T.d_l_take.b .nil pass0 (pa_cons (pv 0) (pa_cons pe_int pa_nil))) pa_nil))) (by rfl))
      (pss_cons (ps_J (ps_if (PW.pt (pw_and (pt_cmpR op_gt (pv 2) pe_int (nomark _)) (pw_and (pt_cmpR op_lt (pv 6) (pe_callB (lenQ (K := K) rfl) (by rfl) T.b_len PySem.boot_len (pa_cons (pv 5) pa_nil)) (nomark _)) (pw_and1 (pt_cmpR op_gt (pe_call (ok_l_take T) (hr.mono (by omega)) (by rfl) T.d_l_take.mg T.d_l_take.fn.kp T.d_l_take.b .nil pass0 (pa_cons (pv 0) (pa_cons pe_int pa_nil))) pe_int (nomark _)))))) (pss_one (ps_asg (pe_callG ih hr hg (by rfl) T.d_l_bent.mg T.d_l_bent.fn.kp T.d_l_bent.b .nil pass0 (pa_cons (pv 0) (pa_cons (pe_ix (ixL (K := K) rfl) (pv 5) (pv 6) (fun _ _ => rfl)) (pa_cons (pe_op op_sub (pv 2) pe_int) pa_nil)))) (pg_sub (pv 5) (pv 6) set_list))) (pss_one (ps_if (pt_cmpR op_eq (pv 7) pe_int (nomark _)) (pss_one (ps_set (i := 5) sc_l_bent.nd rfl (by first | exact Or.inl rfl | exact Or.inr rfl) (pe_op op_catI (pe_slice (slL (K := K) rfl) (pv 5) po_none (po_some (pv 6))) (pe_slice (slL (K := K) rfl) (pv 5) (po_some (pe_op op_add (pv 6) pe_int)) po_none)))) (pss_one (ps_if (pt_cmpR op_eq (pv 7) pe_int (nomark _)) (pss_one (ps_set (i := 5) sc_l_bent.nd rfl (by first | exact Or.inl rfl | exact Or.inr rfl) (pe_op op_catI (pe_op op_catI (pe_slice (slL (K := K) rfl) (pv 5) po_none (po_some (pv 6))) (pe_slice (slL (K := K) rfl) (pv 5) (po_some (pv 6)) (po_some (pe_op op_add (pv 6) pe_int)))) (pe_slice (slL (K := K) rfl) (pv 5) (po_some (pv 6)) po_none)))) (pss_one (ps_if (pt_cmpR op_eq (pv 7) pe_int (nomark _)) (pss_one (ps_asg (pe_revL (pe_slice (slL (K := K) rfl) (pv 5) (po_some (pv 6)) (po_some (pe_op op_add (pv 6) pe_int)))) (pg_slC (pv 5) (pv 6) (pe_op op_add (pv 6) pe_int)))) (pss_one (ps_if (pt_cmpR op_eq (pv 7) pe_int (nomark _)) (pss_one (ps_expr (pe_bm PySem.F.plainAttrs_list PySem.F.slot_list_insert PySem.F.type_list_insert mt_insert (pv 5) (pa_cons (pv 6) (pa_cons (pe_ix (ixL (K := K) rfl) (pe_lstI (pa_cons pe_int (pa_cons pe_non (pa_cons (pe_tupI pa_nil) (pa_cons (pe_lstI pa_nil) (pa_cons pe_bl (pa_cons (pe_tupI (pa_cons pe_int (pa_cons pe_int pa_nil))) (pa_cons (pe_tupI (pa_cons pe_int (pa_cons pe_int pa_nil))) pa_nil)))))))) (pe_call (ok_l_take T) (hr.mono (by omega)) (by rfl) T.d_l_take.mg T.d_l_take.fn.kp T.d_l_take.b .nil pass0 (pa_cons (pv 0) (pa_cons pe_int pa_nil))) (fun _ _ => rfl)) pa_nil))))) (pss_one (ps_if (pt_cmpR op_eq (pv 7) pe_int (nomark _)) (pss_one (ps_ret (pe_ifExp (pt_val (pe_callB (isiK (K := K) rfl) (by rfl) T.b_isinstance (by decide +kernel) (pa_cons (pv 1) (pa_cons (pe_bltn (v := .ty "list") (by rfl) T.b_list (by decide +kernel) rfl) pa_nil)))) (pe_callTy (tupJ (K := K) rfl) (by rfl) T.b_tuple (by decide +kernel) (pa_cons (pv 5) pa_nil)) (pv 5)))) (pss_one (ps_if (pt_cmpR op_eq (pv 7) pe_int (nomark _)) (pss_one (ps_expr (pe_bm0 PySem.F.plainAttrs_list PySem.F.slot_list_reverse PySem.F.type_list_reverse mt_reverse (pv 5)))) (pss_one (ps_set (i := 5) sc_l_bent.nd rfl (by first | exact Or.inl rfl | exact Or.inr rfl) (pe_ix (ixL (K := K) rfl) (pe_lstI (pa_cons (pe_slice (slL (K := K) rfl) (pv 5) po_none (po_some (pv 6))) (pa_cons (pe_op op_catI (pv 5) (pv 5)) pa_nil))) (pe_op op_sub (pv 7) pe_int) (fun _ _ => rfl))))))))))))))))))
      (pss_one (ps_ret (pe_ifExp (pt_val (pe_callB (isiK (K := K) rfl) (by rfl) T.b_isinstance (by decide +kernel) (pa_cons (pv 1) (pa_cons (pe_bltn (v := .ty "tuple") (by rfl) T.b_tuple (by decide +kernel) rfl) pa_nil)))) (pe_callTy (tupJ (K := K) rfl) (by rfl) T.b_tuple (by decide +kernel) (pa_cons (pv 5) pa_nil)) (pv 5))))))), ?_⟩
    refine ⟨_, rfl, rfl, fun tp H1 s1 htp htp2 => ?_⟩
    have hB1 := hB.same s1
    have hT1 := hT.same s1
    have avo : ∀ {Ha : Hp} {b : Addr}, Fr p H Ha → Ha b = none → b ≠ p → ¬ Av b := fun {Ha b} F nb bp z => by
      obtain ⟨o, ho⟩ := hAv _ z
      rw [F _ _ bp ho] at nb
      cases nb
    rcases hT1.look2 hAp (by omega) with ⟨t, bi, nl, nt, ty, kl, kt, ki, num⟩ | ⟨t, bl, bt, a, xs, ds, m, rfl, rfl, ty, kl, kt, kk, sq, tg, ew⟩
    · refine ⟨_, tp, _, _, [.type "list", .type "tuple"], false, rfl, htp2, .cons (.ty _) (.cons (.ty _) .nil), ty H1, kitAny_cons (kit_ty kl) (fun _ => kitAny_cons (kit_ty kt) (fun _ => rfl) (fun z => nomatch z)) (fun z => nomatch z), false, rfl, iteT ?_⟩
      refine ⟨fun σ' H' => ∃ (bv : V) (bd : PyData) (i : Int), σ' = [some (.ref p), some v, some (.int (dp : Int)), some bv, none, none, none, none] ∧ H' = H1 ∧ numOf bv = some i ∧ i.natAbs ≤ B ∧ Dp K H1 bv bd ∧ SeqAt.shaped bd = true, ?_, ?_⟩
      rotate_left
      · refine ⟨_, rfl, _, _, _, _, _, rfl, .ty _, ty H1, kit_ty ki, ?_⟩
        cases bi with
        | true =>
          obtain ⟨⟨i, hi, ib⟩, sh⟩ := num rfl
          exact ⟨_, rfl, iteT ⟨_, rfl, _, d, i, rfl, rfl, hi, ib, hT1.dp, sh⟩⟩
        | false => exact ⟨_, rfl, iteF ⟨_, .int 0, 0, rfl, rfl, rfl, Nat.zero_le _, .int _, rfl⟩⟩
      rintro σ Hx ⟨bv, bd, i, rfl, eHx, hi, ib, hbd, sh⟩
      obtain rfl := eHx.symm
      have sm := strD_small hT1 (by omega) nl nt
      refine ⟨_, rfl, i, _, hi, rfl, _, rfl, i, _, hi, rfl, _, rfl, _, rfl, _, i, rfl, hi, _, rfl, i, _, hi, rfl, _, rfl, bd, .int 1, hbd, .int _, sh, rfl, _, rfl, v, d, rfl, hT1.dp, .inr ⟨n, 100000, hT1.show_ (by omega) (by omega), by omega, by decide⟩, ?_⟩
      refine ⟨_, rfl, rfl, fun l1 H2 s2 n2 h2 => ?_⟩
      refine ⟨_, rfl, rfl, fun u1 H3 s3 n3 h3 => ?_⟩
      refine ⟨_, _, rfl, rfl, ⟨by decide, by decide, by decide⟩, _, _, rfl, rfl, rfl, fun ls H4 s4 n4 h4 => ?_⟩
      have s24 := s3.trans s4
      have s14 := s2.trans s24
      have hT3 := hT1.same (s2.trans s3)
      have l1p : l1 ≠ p := hB1.new n2
      have lsp : ls ≠ p := ((hB1.same s2).same s3).new n4
      have tgl : Tg K Av H3 (B + 12) (n + 1) (.ref l1) (.list [d]) := .lst (s3 _ _ h2) (avo (.of s1) n2 l1p) rfl (TgAll.cons (hT3.up (by omega) (Nat.le_refl _)) .nil).2
      have tgt : Tg K Av H3 (B + 12) (n + 1) (.ref u1) (.tuple [d]) := .tup (SqT.of h3) rfl (TgAll.cons (hT3.up (by omega) (Nat.le_refl _)) .nil).2
      have tg3 : TgAll K Av H3 (B + 12) (n + 1) [.int (i + 1), .int (i - 1), .int (-1 - i), .int (i + 12), .bl (PyData.eqv bd (.int 1)), .non, .str (strD d), .ref l1, .ref u1, .int (10 ^ (6 : Int).toNat + 1)] [.int (i + 1), .int (i - 1), .int (-1 - i), .int (i + 12), .bool (PyData.eqv bd (.int 1)), .none, .str (strD d), .list [d], .tuple [d], .int (10 ^ (6 : Int).toNat + 1)] :=
        .cons (.int _ _ (by omega)) (.cons (.int _ _ (by omega)) (.cons (.int _ _ (by omega)) (.cons (.int _ _ (by omega)) (.cons (.bl _ _) (.cons (.non _) (.cons (.str _ _ 0 sm.1 sm.2) (.cons tgl (.cons tgt (.cons (.int _ _ (by show 1000001 ≤ B + 12; omega)) .nil)))))))))
      have wrest : ∀ e ∈ ([.int (i + 1), .int (i - 1), .int (-1 - i), .int (i + 12), .bool (PyData.eqv bd (.int 1)), .none, .str (strD d), .list [d], .tuple [d], .int (10 ^ (6 : Int).toNat + 1)] : List PyData), PyData.weight e ≤ W + 200 := fun e he => by
        simp only [List.mem_cons, List.not_mem_nil, or_false] at he
        rcases he with e1 | e1 | e1 | e1 | e1 | e1 | e1 | e1 | e1 | e1 <;> rw [e1]
        · exact Nat.le_trans (wt_int (by omega)) (by omega)
        · exact Nat.le_trans (wt_int (by omega)) (by omega)
        · exact Nat.le_trans (wt_int (by omega)) (by omega)
        · exact Nat.le_trans (wt_int (by omega)) (by omega)
        · exact Nat.zero_le _
        · exact Nat.zero_le _
        · exact Nat.le_trans sm.1 (by omega)
        · show PyData.weight d + 1 + 0 ≤ W + 200; omega
        · show PyData.weight d + 1 + 0 ≤ W + 200; omega
        · exact Nat.le_trans (wt_int (by decide)) (by omega)
      refine ⟨_, rfl, _, rfl, p, 10, nb, rfl, hB1.same s14, by omega, by decide, by decide, fun z H6 z0 z1 B6 F6 => ?_⟩
      obtain ⟨zi, rfl⟩ : ∃ zi : Nat, z = (zi : Int) := ⟨z.toNat, by omega⟩
      obtain ⟨x, e, ex, ee, tx⟩ := (tg3.same s4).at_ (i := zi) (by show zi < 10; omega)
      refine ⟨ls, _, (zi : Int), x, rfl, rfl, SqL.of (F6 _ _ lsp h4), at_of rfl ex, ?_⟩
      exact q x e H6 (B6.mono (by omega)) ((Fr.of (s1.trans s14)).trans F6) (tx.fr hAp (hB1.same s14) F6) (by have := wrest e (List.mem_of_getElem? ee); omega)
    · refine ⟨_, tp, _, _, [.type "list", .type "tuple"], true, rfl, htp2, .cons (.ty _) (.cons (.ty _) .nil), ty H1 nb hB1 Fr.refl, kitAny_cons (kit_ty kl) (fun z => kitAny_cons (kit_ty kt) (fun y => nomatch (kk z).symm.trans y) (fun _ => rfl)) (fun _ => rfl), true, rfl, iteF ?_⟩
      have hlv : LenV K (.ref a) H1 xs.length := sq.elim (fun h => .inl ⟨_, h, rfl⟩) fun h => .inr ⟨_, h, rfl⟩
      refine ⟨_, rfl, a, xs, rfl, sq, fun r0 H2 s2 n2 h2 => ?_⟩
      have hB2 := hB1.same s2
      have r0p : r0 ≠ p := hB1.new n2
      have r0a : ¬ Av r0 := avo (.of s1) n2 r0p
      have avn : ∀ {Ha : Hp} {b : Addr}, Fr p H1 Ha → Ha b = none → b ≠ p → ¬ Av b := fun {Ha b} F nb bp => avo ((Fr.of s1).trans F) nb bp
      have hlv2 : LenV K (.ref a) H2 xs.length := sq.elim (fun h => .inl ⟨_, Same.seq s2 h, rfl⟩) fun h => .inr ⟨_, Same.tup s2 h, rfl⟩
      have xl : xs.length ≤ 50000 := by
        rw [tg.1]
        have wl : ∀ l : List PyData, l.length ≤ PyData.weightAll l := fun l => by
          induction l with
          | nil => exact Nat.le_refl _
          | cons y l ih =>
            show l.length + 1 ≤ PyData.weight y + 1 + PyData.weightAll l
            omega
        have := wl ds
        omega
      refine ⟨_, rfl, _, rfl, _, _, rfl, hlv2, _, _, rfl, rfl, p, _, nb, rfl, hB2, by omega, by omega, by omega, fun at_ H3 a0 a1 B3 F3 => ?_⟩
      refine ⟨_, rfl, p, 8, nb + 1, rfl, B3, by omega, by decide, by decide, fun way H4 w0 w1 B4 F4 => ⟨_, _, _, rfl, ?_⟩⟩
      obtain ⟨k', rfl⟩ : ∃ k' : Nat, at_ = (k' : Int) := ⟨at_.toNat, by omega⟩
      have hr4 := F4 _ _ r0p (F3 _ _ r0p h2)
      have F14 : Fr p H1 H4 := (Fr.of s2).trans (F3.trans F4)
      have wx : PyData.weightAll ds ≤ W := by rw [← ew]; exact hw
      refine ⟨fun σ' H' => ∃ (ro : Addr) (ys : List V) (es : List PyData), σ' = [some (.ref p), some (.ref a), some (.int (dp : Int)), none, none, some (.ref ro), some (.int (k' : Int)), some (.int way)] ∧ BoxAt H' p (nb + 5 * (dp + 1)) ∧ Fr p H1 H' ∧ H' ro = some (.lst ys) ∧ ¬ Av ro ∧ TgAll K Av H' (B + 12) (m + 1) ys es ∧ PyData.weightAll es ≤ 3 * W + 200, ?_, ?_⟩
      · rintro σ' H5 ⟨ro, ys, es, rfl, B5, F5, hro, rop, tg5, w5⟩
        have FH : Fr p H H5 := (Fr.of s1).trans F5
        have tl : Tg K Av H5 (B + 12) (m + 1 + 1) (.ref ro) (.list es) := .lst hro rop tg5.1 tg5.2
        refine ⟨_, rfl, _, _, _, _, _, rfl, .ty _, ty H5 nb hB1 F5, kit_ty kt, ?_⟩
        cases bt with
        | true =>
          refine ⟨_, rfl, iteT ?_⟩
          refine ⟨_, rfl, ro, _, rfl, .inl ⟨SqL.of hro, fun tn H6 s6 n6 h6 => ?_⟩⟩
          exact q _ (.tuple es) H6 (B5.same s6) (FH.trans (.of s6)) (.tup (SqT.of h6) tg5.1 (tg5.same s6).2) w5
        | false =>
          refine ⟨_, rfl, iteF ⟨_, rfl, ?_⟩⟩
          exact q _ (.list es) H5 B5 FH tl w5
      · refine ⟨_, rfl, _, _, rfl, rfl, _, rfl, ?_⟩
        by_cases cd : 0 < dp
        · refine ite_bT (decide_eq_true (by omega)) ?_
          refine ⟨_, rfl, _, rfl, r0, _, rfl, .inl (SqL.of hr4), _, _, rfl, rfl, _, rfl, ?_⟩
          by_cases ca : k' < xs.length
          · refine ite_bT (decide_eq_true (by omega)) ?_
            refine ⟨_, rfl, p, 5, _, rfl, B4, by omega, by decide, by decide, fun z Hq z0 z1 Bq F5q => ?_⟩
            refine ⟨_, _, rfl, rfl, _, rfl, ?_⟩
            have Fq : Fr p H1 Hq := F14.trans F5q
            have hrq := F5q _ _ r0p hr4
            have tgx := TgAll.fr hAp tg hB1 Fq
            by_cases cz : 0 < z
            · refine ite_bT (decide_eq_true cz) ?_
              let Av' : Addr → Prop := fun a => Av a ∨ a = r0
              have hAp' : Av' p := .inl hAp
              have hAv' : ∀ a, Av' a → ∃ o, Hq a = some o := fun a z => by
                rcases z with z | z
                · by_cases c : a = p
                  · rw [c]
                    exact Bq.some
                  · obtain ⟨o, ho⟩ := hAv a z
                    exact ⟨o, Fq _ _ c (s1 _ _ ho)⟩
                · rw [z]
                  exact ⟨_, hrq⟩
              have tga : TgAll K Av' H1 B m xs ds := ⟨tg.1, fun i x d e1 e2 => (tg.2 i x d e1 e2).avoid n2⟩
              obtain ⟨x, e, ex, ee, tx⟩ := (TgAll.fr hAp' tga hB1 Fq).at_ ca
              have we := wa_at ee
              refine ⟨_, rfl, _, rfl, _, rfl, r0, _, (k' : Int), x, rfl, rfl, SqL.of hrq, at_of rfl ex, _, rfl, _, _, rfl, rfl, ?_⟩
              refine ⟨p, Av', nb + 2 + 1, dp - 1, m, B, PyData.weight e, x, e, by show [V.ref p, x, V.int ((dp : Int) - 1)] = _; rw [show (dp : Int) - 1 = ((dp - 1 : Nat) : Int) by omega], hAp', hAv', Bq, by omega, tx, B1, B2, Nat.le_refl _, by omega, by omega, by omega, by omega, fun v' d' H6 B6 F6 t6 w6 => ?_⟩
              have hr6 := F6 _ _ r0p hrq
              refine ⟨_, rfl, _, rfl, r0, _, (k' : Int), k', rfl, rfl, hr6, ixN_at' ca, ?_⟩
              have F16 : Fr p H1 H6 := Fq.trans F6
              have Fu := F16.put' (o := .lst (xs.set k' v')) n2
              have tgu := (TgAll.fr hAp tg hB1 Fu).up (B' := B + 12) (m := m + 1) (by omega) (by omega)
              have ws := wa_set (e := d') ee
              have tv : Tg K Av (upd H6 r0 (.lst (xs.set k' v'))) (B + 12) (m + 1) v' d' := (t6.wr (r := r0) (.inr rfl) hr6).less fun a h => .inl h
              exact ⟨r0, _, ds.set k' d', rfl, (B6.upd r0p).mono (by omega), Fu, upd_same, r0a, tgu.set tv, by omega⟩
            · refine ite_bF (decide_eq_false cz) ?_
              refine ⟨_, rfl, rfl, _, rfl, ?_⟩
              by_cases c0 : way = 0
              · refine ite_bT (decide_eq_true (by rw [c0])) ?_
                refine ⟨_, rfl, _, rfl, _, rfl, r0, _, rfl, SqL.of hrq, fun c1 G1 t1 o1 y1 => ?_⟩
                refine ⟨_, rfl, _, rfl, _, _, rfl, rfl, _, rfl, r0, _, rfl, SqL.of (t1 _ _ hrq), fun c2 G2 t2 o2 y2 => ?_⟩
                refine ⟨c1, c2, _, _, rfl, rfl, t2 _ _ y1, y2, ?_, fun ro G3 t3 o3 y3 => ?_⟩
                · have e1 := cutV_length xs none (some (k' : Int))
                  have e2 := cutV_length xs (some ((k' : Int) + 1)) none
                  rw [sizeLine_eq]
                  omega
                have tG := tgx.same (t1.trans (t2.trans t3))
                obtain ⟨e1, g1, w1'⟩ := tG.cut none (some (k' : Int))
                obtain ⟨e2, g2, w2'⟩ := tG.cut (some ((k' : Int) + 1)) none
                exact ⟨ro, _, _, rfl, ((((Bq.same t1).same t2).same t3).mono (by omega)), Fq.trans (.of (t1.trans (t2.trans t3))), y3, avn (Fq.trans (.of (t1.trans t2))) o3 (((Bq.same t1).same t2).new o3), (g1.app g2).up (by omega) (by omega), by rw [wa_app]; omega⟩
              refine ite_bF (decide_eq_false fun e => c0 (by injection e)) ?_
              refine ⟨_, rfl, rfl, _, rfl, ?_⟩
              by_cases c1' : way = 1
              · refine ite_bT (decide_eq_true (by rw [c1'])) ?_
                refine ⟨_, rfl, _, rfl, _, rfl, r0, _, rfl, SqL.of hrq, fun c1 G1 t1 o1 y1 => ?_⟩
                refine ⟨_, rfl, _, rfl, _, rfl, _, rfl, _, _, rfl, rfl, _, rfl, r0, _, rfl, SqL.of (t1 _ _ hrq), fun c2 G2 t2 o2 y2 => ?_⟩
                refine ⟨c1, c2, _, _, rfl, rfl, t2 _ _ y1, y2, ?_, fun c3 G3 t3 o3 y3 => ?_⟩
                · have e1 := cutV_length xs none (some (k' : Int))
                  have e2 := cutV_length xs (some (k' : Int)) (some ((k' : Int) + 1))
                  rw [sizeLine_eq]
                  omega
                refine ⟨_, rfl, _, rfl, _, rfl, r0, _, rfl, SqL.of ((t1.trans (t2.trans t3)) _ _ hrq), fun c4 G4 t4 o4 y4 => ?_⟩
                refine ⟨c3, c4, _, _, rfl, rfl, t4 _ _ y3, y4, ?_, fun ro G5 t5 o5 y5 => ?_⟩
                · have e1 := cutV_length xs none (some (k' : Int))
                  have e2 := cutV_length xs (some (k' : Int)) (some ((k' : Int) + 1))
                  have e3 := cutV_length xs (some (k' : Int)) none
                  rw [sizeLine_eq, List.length_append]
                  omega
                have t15 := t1.trans (t2.trans (t3.trans (t4.trans t5)))
                have tG := tgx.same t15
                obtain ⟨e1, g1, w1'⟩ := tG.cut none (some (k' : Int))
                obtain ⟨e2, g2, w2'⟩ := tG.cut (some (k' : Int)) (some ((k' : Int) + 1))
                obtain ⟨e3, g3, w3'⟩ := tG.cut (some (k' : Int)) none
                exact ⟨ro, _, _, rfl, (Bq.same t15).mono (by omega), Fq.trans (.of t15), y5, avn (Fq.trans (.of (t1.trans (t2.trans (t3.trans t4))))) o5 ((Bq.same (t1.trans (t2.trans (t3.trans t4)))).new o5), ((g1.app g2).app g3).up (by omega) (by omega), by rw [wa_app, wa_app]; omega⟩
              refine ite_bF (decide_eq_false fun e => c1' (by injection e)) ?_
              refine ⟨_, rfl, rfl, _, rfl, ?_⟩
              by_cases c2' : way = 2
              · refine ite_bT (decide_eq_true (by rw [c2'])) ?_
                refine ⟨_, rfl, _, rfl, _, rfl, _, rfl, _, _, rfl, rfl, _, rfl, r0, _, rfl, SqL.of hrq, fun c2 G2 t2 o2 y2 => ⟨c2, _, rfl, SqL.of y2, fun c3 nc3 => ?_⟩⟩
                have t3 : Same G2 (upd G2 c3 (.lst (cutV xs (some (k' : Int)) (some ((k' : Int) + 2))).reverse)) := same_new nc3
                have y3 : (upd G2 c3 (.lst (cutV xs (some (k' : Int)) (some ((k' : Int) + 2))).reverse)) c3 = some (.lst (cutV xs (some (k' : Int)) (some ((k' : Int) + 2))).reverse) := upd_same
                generalize upd G2 c3 (.lst (cutV xs (some (k' : Int)) (some ((k' : Int) + 2))).reverse) = G3 at t3 y3
                have t23 := t2.trans t3
                have hr3 := t23 _ _ hrq
                have r3 : r0 ≠ c3 := ne_of_none (t2 _ _ hrq) nc3
                refine ⟨_, rfl, _, rfl, _, rfl, _, _, rfl, rfl, r0, c3, _, _, k', k' + 2, rfl, rfl, rfl, by show V.int ((k' : Int) + 2) = _; rw [show (k' : Int) + 2 = ((k' + 2 : Nat) : Int) by omega], hr3, y3, r3, by omega, by omega, ?_, ?_⟩
                · have e2 := cutV_length xs (some (k' : Int)) (some ((k' : Int) + 2))
                  rw [sizeLine_eq, List.length_reverse]
                  omega
                have Fu := (Fq.trans (.of t23)).put' (o := .lst (xs.take k' ++ (cutV xs (some (k' : Int)) (some ((k' : Int) + 2))).reverse ++ xs.drop (k' + 2))) n2
                have tgu := (TgAll.fr hAp tg hB1 Fu).up (B' := B + 12) (m := m + 1) (by omega) (by omega)
                obtain ⟨e2, g2, w2'⟩ := tgu.cut (some (k' : Int)) (some ((k' : Int) + 2))
                have wc := wa_cut ds k'
                have wd := wa_cut ds (k' + 2)
                exact ⟨r0, _, ds.take k' ++ e2.reverse ++ ds.drop (k' + 2), rfl, ((Bq.same t23).upd r0p).mono (by omega), Fu, upd_same, r0a, ((tgu.take k').app g2.rev).app (tgu.drop (k' + 2)), by rw [wa_app, wa_app, wa_rev]; omega⟩
              refine ite_bF (decide_eq_false fun e => c2' (by injection e)) ?_
              refine ⟨_, rfl, rfl, _, rfl, ?_⟩
              by_cases c3' : way = 3
              · refine ite_bT (decide_eq_true (by rw [c3'])) ?_
                refine ⟨_, rfl, .inl ⟨rfl, _, SqL.of hrq⟩, _, rfl, rfl, fun e1 G1 t1 o1 y1 => ⟨rfl, fun e2 G2 t2 o2 y2 => ⟨rfl, fun e3 Ga ta oa ya => ⟨rfl, fun e4 Gb tb ob yb => ⟨rfl, fun l1 G3 t3 o3 y3 => ?_⟩⟩⟩⟩⟩
                have tab := ta.trans (tb.trans t3)
                have t13 := t1.trans (t2.trans tab)
                have e2p : e2 ≠ p := (Bq.same t1).new o2
                have e2a : ¬ Av e2 := avn (Fq.trans (.of t1)) o2 e2p
                have l1p : l1 ≠ p := ((((Bq.same t1).same t2).same ta).same tb).new o3
                refine ⟨_, rfl, p, 7, _, rfl, Bq.same t13, by omega, by decide, by decide, fun z G4 z0 z1 B5 F5 => ?_⟩
                have F15 : Fr p H1 G4 := (Fq.trans (.of t13)).trans F5
                have hr5 := F5 _ _ r0p (t13 _ _ hrq)
                obtain ⟨y, e, ey, ty', we⟩ : ∃ (y : V) (e : PyData), atI ([.int 0, .non, .ref e1, .ref e2, .bl true, .ref e3, .ref e4] : List V) z = some y ∧ (∀ Hz, SqT K Hz e1 [] → Hz e2 = some (.lst []) → SqT K Hz e3 [.int 0, .int 1] → SqT K Hz e4 [.int 1, .int 1] → Tg K Av Hz (B + 12) (m + 1) y e) ∧ PyData.weight e ≤ 4 := by
                  have cs : z = 0 ∨ z = 1 ∨ z = 2 ∨ z = 3 ∨ z = 4 ∨ z = 5 ∨ z = 6 := by omega
                  rcases cs with c | c | c | c | c | c | c <;> subst c
                  · exact ⟨.int 0, .int 0, rfl, fun _ _ _ _ _ => .int _ _ (Nat.zero_le _), by decide⟩
                  · exact ⟨.non, .none, rfl, fun _ _ _ _ _ => .non _, by decide⟩
                  · exact ⟨.ref e1, .tuple [], rfl, fun Hz f1 _ _ _ => .tup f1 rfl fun i x d hx => by simp at hx, by decide⟩
                  · exact ⟨.ref e2, .list [], rfl, fun Hz _ f2 _ _ => .lst f2 e2a rfl fun i x d hx => by simp at hx, by decide⟩
                  · exact ⟨.bl true, .bool true, rfl, fun _ _ _ _ _ => .bl _ _, by decide⟩
                  · exact ⟨.ref e3, .tuple [.int 0, .int 1], rfl, fun Hz _ _ f3 _ => (TgAll.cons (.int _ _ (by show 0 ≤ B + 12; omega)) (.cons (.int _ _ (by show 1 ≤ B + 12; omega)) .nil)).t f3, by decide +kernel⟩
                  · exact ⟨.ref e4, .tuple [.int 1, .int 1], rfl, fun Hz _ _ _ f4 => (TgAll.cons (.int _ _ (by show 1 ≤ B + 12; omega)) (.cons (.int _ _ (by show 1 ≤ B + 12; omega)) .nil)).t f4, by decide +kernel⟩
                refine ⟨l1, _, z, y, rfl, rfl, SqL.of (F5 _ _ l1p y3), ey, r0, _, (k' : Int), y, rfl, rfl, hr5, by rw [sizeLine_eq]; omega, by omega, by omega, ?_⟩
                rw [Int.toNat_natCast]
                have Fu := F15.put' (o := .lst (xs.take k' ++ [y] ++ xs.drop k')) n2
                have tgu := (TgAll.fr hAp tg hB1 Fu).up (B' := B + 12) (m := m + 1) (by omega) (by omega)
                have q1 : SqT K (upd G4 r0 (.lst (xs.take k' ++ [y] ++ xs.drop k'))) e1 [] := sqT_frL (sqT_fr (SqT.of ((t2.trans tab) _ _ y1)) (Bq.same t13) F5) hr5 fr_upd
                have q2 : (upd G4 r0 (.lst (xs.take k' ++ [y] ++ xs.drop k'))) e2 = some (.lst []) := by
                  rw [upd_ne (ne_of_none (t1 _ _ hrq) o2).symm]
                  exact F5 _ _ e2p (tab _ _ y2)
                have q3 : SqT K (upd G4 r0 (.lst (xs.take k' ++ [y] ++ xs.drop k'))) e3 [.int 0, .int 1] := sqT_frL (sqT_fr (SqT.of ((tb.trans t3) _ _ ya)) (Bq.same t13) F5) hr5 fr_upd
                have q4 : SqT K (upd G4 r0 (.lst (xs.take k' ++ [y] ++ xs.drop k'))) e4 [.int 1, .int 1] := sqT_frL (sqT_fr (SqT.of (t3 _ _ yb)) (Bq.same t13) F5) hr5 fr_upd
                refine ⟨r0, _, ds.take k' ++ [e] ++ ds.drop k', rfl, (B5.upd r0p).mono (by omega), Fu, upd_same, r0a, ((tgu.take k').app (.cons (ty' _ q1 q2 q3 q4) .nil)).app (tgu.drop k'), ?_⟩
                have wc := wa_cut ds k'
                rw [wa_app, wa_app]
                show _ + (PyData.weight e + 1 + 0) + _ ≤ _
                omega
              refine ite_bF (decide_eq_false fun e => c3' (by injection e)) ?_
              refine ⟨_, rfl, rfl, _, rfl, ?_⟩
              by_cases c4' : way = 4
              · refine ite_bT (decide_eq_true (by rw [c4'])) ?_
                refine ⟨_, rfl, _, _, _, _, _, rfl, .ty _, ty Hq nb hB1 Fq, kit_ty kl, ?_⟩
                have FH : Fr p H Hq := (Fr.of s1).trans Fq
                have tgu := tgx.up (B' := B + 12) (m := m + 1) (by omega) (by omega)
                cases bl with
                | false => exact ⟨_, rfl, iteF ⟨_, rfl, q _ (.list ds) Hq (Bq.mono (by omega)) FH (.lst hrq r0a tgu.1 tgu.2) (by show PyData.weightAll ds ≤ _; omega)⟩⟩
                | true => exact ⟨_, rfl, iteT ⟨_, rfl, r0, _, rfl, .inl ⟨SqL.of hrq, fun tn H6 s6 n6 h6 => q _ (.tuple ds) H6 ((Bq.same s6).mono (by omega)) (FH.trans (.of s6)) (.tup (SqT.of h6) tgu.1 (tgu.same s6).2) (by show PyData.weightAll ds ≤ _; omega)⟩⟩⟩
              refine ite_bF (decide_eq_false fun e => c4' (by injection e)) ?_
              refine ⟨_, rfl, rfl, _, rfl, ?_⟩
              by_cases c5' : way = 5
              · refine ite_bT (decide_eq_true (by rw [c5'])) ?_
                refine ⟨_, rfl, .inl ⟨rfl, _, SqL.of hrq⟩, r0, _, rfl, rfl, hrq, ?_⟩
                have Fu := Fq.put' (o := .lst xs.reverse) n2
                exact ⟨r0, _, ds.reverse, rfl, (Bq.upd r0p).mono (by omega), Fu, upd_same, r0a, ((TgAll.fr hAp tg hB1 Fu).rev).up (by omega) (by omega), by rw [wa_rev]; omega⟩
              refine ite_bF (decide_eq_false fun e => c5' (by injection e)) ?_
              refine ⟨_, rfl, _, rfl, _, rfl, r0, _, rfl, SqL.of hrq, fun c1 G1 t1 o1 y1 => ?_⟩
              refine ⟨_, rfl, _, rfl, r0, r0, _, _, rfl, rfl, t1 _ _ hrq, t1 _ _ hrq, by rw [sizeLine_eq]; omega, fun c2 G2 t2 o2 y2 => ⟨rfl, fun c3 G3 t3 o3 y3 => ?_⟩⟩
              have t13 := t1.trans (t2.trans t3)
              have tG := tgx.same t13
              obtain ⟨e1, g1, w1'⟩ := tG.cut none (some (k' : Int))
              have cs : way = 6 ∨ way = 7 := by omega
              rcases cs with c | c
              · refine ⟨_, rfl, _, _, rfl, rfl, c3, _, 0, .ref c1, rfl, by rw [c] <;> rfl, SqL.of y3, at0, ?_⟩
                exact ⟨c1, _, _, rfl, (Bq.same t13).mono (by omega), Fq.trans (.of t13), (t2.trans t3) _ _ y1, avn Fq o1 (Bq.new o1), g1.up (by omega) (by omega), by omega⟩
              · refine ⟨_, rfl, _, _, rfl, rfl, c3, _, 1, .ref c2, rfl, by rw [c] <;> rfl, SqL.of y3, at1, ?_⟩
                exact ⟨c2, _, _, rfl, (Bq.same t13).mono (by omega), Fq.trans (.of t13), t3 _ _ y2, avn (Fq.trans (.of t1)) o2 ((Bq.same t1).new o2), (tG.app tG).up (by omega) (by omega), by rw [wa_app]; omega⟩
          · refine ite_bF (decide_eq_false (by omega)) ?_
            have tgx := TgAll.fr hAp tg hB1 F14
            refine ⟨_, rfl, rfl, _, rfl, ?_⟩
            by_cases c0 : way = 0
            · refine ite_bT (decide_eq_true (by rw [c0])) ?_
              refine ⟨_, rfl, _, rfl, _, rfl, r0, _, rfl, SqL.of hr4, fun c1 G1 t1 o1 y1 => ?_⟩
              refine ⟨_, rfl, _, rfl, _, _, rfl, rfl, _, rfl, r0, _, rfl, SqL.of (t1 _ _ hr4), fun c2 G2 t2 o2 y2 => ?_⟩
              refine ⟨c1, c2, _, _, rfl, rfl, t2 _ _ y1, y2, ?_, fun ro G3 t3 o3 y3 => ?_⟩
              · have e1 := cutV_length xs none (some (k' : Int))
                have e2 := cutV_length xs (some ((k' : Int) + 1)) none
                rw [sizeLine_eq]
                omega
              have tG := tgx.same (t1.trans (t2.trans t3))
              obtain ⟨e1, g1, w1'⟩ := tG.cut none (some (k' : Int))
              obtain ⟨e2, g2, w2'⟩ := tG.cut (some ((k' : Int) + 1)) none
              exact ⟨ro, _, _, rfl, ((((B4.same t1).same t2).same t3).mono (by omega)), F14.trans (.of (t1.trans (t2.trans t3))), y3, avn (F14.trans (.of (t1.trans t2))) o3 (((B4.same t1).same t2).new o3), (g1.app g2).up (by omega) (by omega), by rw [wa_app]; omega⟩
            refine ite_bF (decide_eq_false fun e => c0 (by injection e)) ?_
            refine ⟨_, rfl, rfl, _, rfl, ?_⟩
            by_cases c1' : way = 1
            · refine ite_bT (decide_eq_true (by rw [c1'])) ?_
              refine ⟨_, rfl, _, rfl, _, rfl, r0, _, rfl, SqL.of hr4, fun c1 G1 t1 o1 y1 => ?_⟩
              refine ⟨_, rfl, _, rfl, _, rfl, _, rfl, _, _, rfl, rfl, _, rfl, r0, _, rfl, SqL.of (t1 _ _ hr4), fun c2 G2 t2 o2 y2 => ?_⟩
              refine ⟨c1, c2, _, _, rfl, rfl, t2 _ _ y1, y2, ?_, fun c3 G3 t3 o3 y3 => ?_⟩
              · have e1 := cutV_length xs none (some (k' : Int))
                have e2 := cutV_length xs (some (k' : Int)) (some ((k' : Int) + 1))
                rw [sizeLine_eq]
                omega
              refine ⟨_, rfl, _, rfl, _, rfl, r0, _, rfl, SqL.of ((t1.trans (t2.trans t3)) _ _ hr4), fun c4 G4 t4 o4 y4 => ?_⟩
              refine ⟨c3, c4, _, _, rfl, rfl, t4 _ _ y3, y4, ?_, fun ro G5 t5 o5 y5 => ?_⟩
              · have e1 := cutV_length xs none (some (k' : Int))
                have e2 := cutV_length xs (some (k' : Int)) (some ((k' : Int) + 1))
                have e3 := cutV_length xs (some (k' : Int)) none
                rw [sizeLine_eq, List.length_append]
                omega
              have t15 := t1.trans (t2.trans (t3.trans (t4.trans t5)))
              have tG := tgx.same t15
              obtain ⟨e1, g1, w1'⟩ := tG.cut none (some (k' : Int))
              obtain ⟨e2, g2, w2'⟩ := tG.cut (some (k' : Int)) (some ((k' : Int) + 1))
              obtain ⟨e3, g3, w3'⟩ := tG.cut (some (k' : Int)) none
              exact ⟨ro, _, _, rfl, (B4.same t15).mono (by omega), F14.trans (.of t15), y5, avn (F14.trans (.of (t1.trans (t2.trans (t3.trans t4))))) o5 ((B4.same (t1.trans (t2.trans (t3.trans t4)))).new o5), ((g1.app g2).app g3).up (by omega) (by omega), by rw [wa_app, wa_app]; omega⟩
            refine ite_bF (decide_eq_false fun e => c1' (by injection e)) ?_
            refine ⟨_, rfl, rfl, _, rfl, ?_⟩
            by_cases c2' : way = 2
            · refine ite_bT (decide_eq_true (by rw [c2'])) ?_
              refine ⟨_, rfl, _, rfl, _, rfl, _, rfl, _, _, rfl, rfl, _, rfl, r0, _, rfl, SqL.of hr4, fun c2 G2 t2 o2 y2 => ⟨c2, _, rfl, SqL.of y2, fun c3 nc3 => ?_⟩⟩
              have t3 : Same G2 (upd G2 c3 (.lst (cutV xs (some (k' : Int)) (some ((k' : Int) + 2))).reverse)) := same_new nc3
              have y3 : (upd G2 c3 (.lst (cutV xs (some (k' : Int)) (some ((k' : Int) + 2))).reverse)) c3 = some (.lst (cutV xs (some (k' : Int)) (some ((k' : Int) + 2))).reverse) := upd_same
              generalize upd G2 c3 (.lst (cutV xs (some (k' : Int)) (some ((k' : Int) + 2))).reverse) = G3 at t3 y3
              have t23 := t2.trans t3
              have hr3 := t23 _ _ hr4
              have r3 : r0 ≠ c3 := ne_of_none (t2 _ _ hr4) nc3
              refine ⟨_, rfl, _, rfl, _, rfl, _, _, rfl, rfl, r0, c3, _, _, k', k' + 2, rfl, rfl, rfl, by show V.int ((k' : Int) + 2) = _; rw [show (k' : Int) + 2 = ((k' + 2 : Nat) : Int) by omega], hr3, y3, r3, by omega, by omega, ?_, ?_⟩
              · have e2 := cutV_length xs (some (k' : Int)) (some ((k' : Int) + 2))
                rw [sizeLine_eq, List.length_reverse]
                omega
              have Fu := (F14.trans (.of t23)).put' (o := .lst (xs.take k' ++ (cutV xs (some (k' : Int)) (some ((k' : Int) + 2))).reverse ++ xs.drop (k' + 2))) n2
              have tgu := (TgAll.fr hAp tg hB1 Fu).up (B' := B + 12) (m := m + 1) (by omega) (by omega)
              obtain ⟨e2, g2, w2'⟩ := tgu.cut (some (k' : Int)) (some ((k' : Int) + 2))
              have wc := wa_cut ds k'
              have wd := wa_cut ds (k' + 2)
              exact ⟨r0, _, ds.take k' ++ e2.reverse ++ ds.drop (k' + 2), rfl, ((B4.same t23).upd r0p).mono (by omega), Fu, upd_same, r0a, ((tgu.take k').app g2.rev).app (tgu.drop (k' + 2)), by rw [wa_app, wa_app, wa_rev]; omega⟩
            refine ite_bF (decide_eq_false fun e => c2' (by injection e)) ?_
            refine ⟨_, rfl, rfl, _, rfl, ?_⟩
            by_cases c3' : way = 3
            · refine ite_bT (decide_eq_true (by rw [c3'])) ?_
              refine ⟨_, rfl, .inl ⟨rfl, _, SqL.of hr4⟩, _, rfl, rfl, fun e1 G1 t1 o1 y1 => ⟨rfl, fun e2 G2 t2 o2 y2 => ⟨rfl, fun e3 Ga ta oa ya => ⟨rfl, fun e4 Gb tb ob yb => ⟨rfl, fun l1 G3 t3 o3 y3 => ?_⟩⟩⟩⟩⟩
              have tab := ta.trans (tb.trans t3)
              have t13 := t1.trans (t2.trans tab)
              have e2p : e2 ≠ p := (B4.same t1).new o2
              have e2a : ¬ Av e2 := avn (F14.trans (.of t1)) o2 e2p
              have l1p : l1 ≠ p := ((((B4.same t1).same t2).same ta).same tb).new o3
              refine ⟨_, rfl, p, 7, _, rfl, B4.same t13, by omega, by decide, by decide, fun z G4 z0 z1 B5 F5 => ?_⟩
              have F15 : Fr p H1 G4 := (F14.trans (.of t13)).trans F5
              have hr5 := F5 _ _ r0p (t13 _ _ hr4)
              obtain ⟨y, e, ey, ty', we⟩ : ∃ (y : V) (e : PyData), atI ([.int 0, .non, .ref e1, .ref e2, .bl true, .ref e3, .ref e4] : List V) z = some y ∧ (∀ Hz, SqT K Hz e1 [] → Hz e2 = some (.lst []) → SqT K Hz e3 [.int 0, .int 1] → SqT K Hz e4 [.int 1, .int 1] → Tg K Av Hz (B + 12) (m + 1) y e) ∧ PyData.weight e ≤ 4 := by
                have cs : z = 0 ∨ z = 1 ∨ z = 2 ∨ z = 3 ∨ z = 4 ∨ z = 5 ∨ z = 6 := by omega
                rcases cs with c | c | c | c | c | c | c <;> subst c
                · exact ⟨.int 0, .int 0, rfl, fun _ _ _ _ _ => .int _ _ (Nat.zero_le _), by decide⟩
                · exact ⟨.non, .none, rfl, fun _ _ _ _ _ => .non _, by decide⟩
                · exact ⟨.ref e1, .tuple [], rfl, fun Hz f1 _ _ _ => .tup f1 rfl fun i x d hx => by simp at hx, by decide⟩
                · exact ⟨.ref e2, .list [], rfl, fun Hz _ f2 _ _ => .lst f2 e2a rfl fun i x d hx => by simp at hx, by decide⟩
                · exact ⟨.bl true, .bool true, rfl, fun _ _ _ _ _ => .bl _ _, by decide⟩
                · exact ⟨.ref e3, .tuple [.int 0, .int 1], rfl, fun Hz _ _ f3 _ => (TgAll.cons (.int _ _ (by show 0 ≤ B + 12; omega)) (.cons (.int _ _ (by show 1 ≤ B + 12; omega)) .nil)).t f3, by decide +kernel⟩
                · exact ⟨.ref e4, .tuple [.int 1, .int 1], rfl, fun Hz _ _ _ f4 => (TgAll.cons (.int _ _ (by show 1 ≤ B + 12; omega)) (.cons (.int _ _ (by show 1 ≤ B + 12; omega)) .nil)).t f4, by decide +kernel⟩
              refine ⟨l1, _, z, y, rfl, rfl, SqL.of (F5 _ _ l1p y3), ey, r0, _, (k' : Int), y, rfl, rfl, hr5, by rw [sizeLine_eq]; omega, by omega, by omega, ?_⟩
              rw [Int.toNat_natCast]
              have Fu := F15.put' (o := .lst (xs.take k' ++ [y] ++ xs.drop k')) n2
              have tgu := (TgAll.fr hAp tg hB1 Fu).up (B' := B + 12) (m := m + 1) (by omega) (by omega)
              have q1 : SqT K (upd G4 r0 (.lst (xs.take k' ++ [y] ++ xs.drop k'))) e1 [] := sqT_frL (sqT_fr (SqT.of ((t2.trans tab) _ _ y1)) (B4.same t13) F5) hr5 fr_upd
              have q2 : (upd G4 r0 (.lst (xs.take k' ++ [y] ++ xs.drop k'))) e2 = some (.lst []) := by
                rw [upd_ne (ne_of_none (t1 _ _ hr4) o2).symm]
                exact F5 _ _ e2p (tab _ _ y2)
              have q3 : SqT K (upd G4 r0 (.lst (xs.take k' ++ [y] ++ xs.drop k'))) e3 [.int 0, .int 1] := sqT_frL (sqT_fr (SqT.of ((tb.trans t3) _ _ ya)) (B4.same t13) F5) hr5 fr_upd
              have q4 : SqT K (upd G4 r0 (.lst (xs.take k' ++ [y] ++ xs.drop k'))) e4 [.int 1, .int 1] := sqT_frL (sqT_fr (SqT.of (t3 _ _ yb)) (B4.same t13) F5) hr5 fr_upd
              refine ⟨r0, _, ds.take k' ++ [e] ++ ds.drop k', rfl, (B5.upd r0p).mono (by omega), Fu, upd_same, r0a, ((tgu.take k').app (.cons (ty' _ q1 q2 q3 q4) .nil)).app (tgu.drop k'), ?_⟩
              have wc := wa_cut ds k'
              rw [wa_app, wa_app]
              show _ + (PyData.weight e + 1 + 0) + _ ≤ _
              omega
            refine ite_bF (decide_eq_false fun e => c3' (by injection e)) ?_
            refine ⟨_, rfl, rfl, _, rfl, ?_⟩
            by_cases c4' : way = 4
            · refine ite_bT (decide_eq_true (by rw [c4'])) ?_
              refine ⟨_, rfl, _, _, _, _, _, rfl, .ty _, ty H4 nb hB1 F14, kit_ty kl, ?_⟩
              have FH : Fr p H H4 := (Fr.of s1).trans F14
              have tgu := tgx.up (B' := B + 12) (m := m + 1) (by omega) (by omega)
              cases bl with
              | false => exact ⟨_, rfl, iteF ⟨_, rfl, q _ (.list ds) H4 (B4.mono (by omega)) FH (.lst hr4 r0a tgu.1 tgu.2) (by show PyData.weightAll ds ≤ _; omega)⟩⟩
              | true => exact ⟨_, rfl, iteT ⟨_, rfl, r0, _, rfl, .inl ⟨SqL.of hr4, fun tn H6 s6 n6 h6 => q _ (.tuple ds) H6 ((B4.same s6).mono (by omega)) (FH.trans (.of s6)) (.tup (SqT.of h6) tgu.1 (tgu.same s6).2) (by show PyData.weightAll ds ≤ _; omega)⟩⟩⟩
            refine ite_bF (decide_eq_false fun e => c4' (by injection e)) ?_
            refine ⟨_, rfl, rfl, _, rfl, ?_⟩
            by_cases c5' : way = 5
            · refine ite_bT (decide_eq_true (by rw [c5'])) ?_
              refine ⟨_, rfl, .inl ⟨rfl, _, SqL.of hr4⟩, r0, _, rfl, rfl, hr4, ?_⟩
              have Fu := F14.put' (o := .lst xs.reverse) n2
              exact ⟨r0, _, ds.reverse, rfl, (B4.upd r0p).mono (by omega), Fu, upd_same, r0a, ((TgAll.fr hAp tg hB1 Fu).rev).up (by omega) (by omega), by rw [wa_rev]; omega⟩
            refine ite_bF (decide_eq_false fun e => c5' (by injection e)) ?_
            refine ⟨_, rfl, _, rfl, _, rfl, r0, _, rfl, SqL.of hr4, fun c1 G1 t1 o1 y1 => ?_⟩
            refine ⟨_, rfl, _, rfl, r0, r0, _, _, rfl, rfl, t1 _ _ hr4, t1 _ _ hr4, by rw [sizeLine_eq]; omega, fun c2 G2 t2 o2 y2 => ⟨rfl, fun c3 G3 t3 o3 y3 => ?_⟩⟩
            have t13 := t1.trans (t2.trans t3)
            have tG := tgx.same t13
            obtain ⟨e1, g1, w1'⟩ := tG.cut none (some (k' : Int))
            have cs : way = 6 ∨ way = 7 := by omega
            rcases cs with c | c
            · refine ⟨_, rfl, _, _, rfl, rfl, c3, _, 0, .ref c1, rfl, by rw [c] <;> rfl, SqL.of y3, at0, ?_⟩
              exact ⟨c1, _, _, rfl, (B4.same t13).mono (by omega), F14.trans (.of t13), (t2.trans t3) _ _ y1, avn F14 o1 (B4.new o1), g1.up (by omega) (by omega), by omega⟩
            · refine ⟨_, rfl, _, _, rfl, rfl, c3, _, 1, .ref c2, rfl, by rw [c] <;> rfl, SqL.of y3, at1, ?_⟩
              exact ⟨c2, _, _, rfl, (B4.same t13).mono (by omega), F14.trans (.of t13), t3 _ _ y2, avn (F14.trans (.of t1)) o2 ((B4.same t1).new o2), (tG.app tG).up (by omega) (by omega), by rw [wa_app]; omega⟩
        · refine ite_bF (decide_eq_false (by omega)) ?_
          have tgx := TgAll.fr hAp tg hB1 F14
          refine ⟨_, rfl, rfl, _, rfl, ?_⟩
          by_cases c0 : way = 0
          · refine ite_bT (decide_eq_true (by rw [c0])) ?_
            refine ⟨_, rfl, _, rfl, _, rfl, r0, _, rfl, SqL.of hr4, fun c1 G1 t1 o1 y1 => ?_⟩
            refine ⟨_, rfl, _, rfl, _, _, rfl, rfl, _, rfl, r0, _, rfl, SqL.of (t1 _ _ hr4), fun c2 G2 t2 o2 y2 => ?_⟩
            refine ⟨c1, c2, _, _, rfl, rfl, t2 _ _ y1, y2, ?_, fun ro G3 t3 o3 y3 => ?_⟩
            · have e1 := cutV_length xs none (some (k' : Int))
              have e2 := cutV_length xs (some ((k' : Int) + 1)) none
              rw [sizeLine_eq]
              omega
            have tG := tgx.same (t1.trans (t2.trans t3))
            obtain ⟨e1, g1, w1'⟩ := tG.cut none (some (k' : Int))
            obtain ⟨e2, g2, w2'⟩ := tG.cut (some ((k' : Int) + 1)) none
            exact ⟨ro, _, _, rfl, ((((B4.same t1).same t2).same t3).mono (by omega)), F14.trans (.of (t1.trans (t2.trans t3))), y3, avn (F14.trans (.of (t1.trans t2))) o3 (((B4.same t1).same t2).new o3), (g1.app g2).up (by omega) (by omega), by rw [wa_app]; omega⟩
          refine ite_bF (decide_eq_false fun e => c0 (by injection e)) ?_
          refine ⟨_, rfl, rfl, _, rfl, ?_⟩
          by_cases c1' : way = 1
          · refine ite_bT (decide_eq_true (by rw [c1'])) ?_
            refine ⟨_, rfl, _, rfl, _, rfl, r0, _, rfl, SqL.of hr4, fun c1 G1 t1 o1 y1 => ?_⟩
            refine ⟨_, rfl, _, rfl, _, rfl, _, rfl, _, _, rfl, rfl, _, rfl, r0, _, rfl, SqL.of (t1 _ _ hr4), fun c2 G2 t2 o2 y2 => ?_⟩
            refine ⟨c1, c2, _, _, rfl, rfl, t2 _ _ y1, y2, ?_, fun c3 G3 t3 o3 y3 => ?_⟩
            · have e1 := cutV_length xs none (some (k' : Int))
              have e2 := cutV_length xs (some (k' : Int)) (some ((k' : Int) + 1))
              rw [sizeLine_eq]
              omega
            refine ⟨_, rfl, _, rfl, _, rfl, r0, _, rfl, SqL.of ((t1.trans (t2.trans t3)) _ _ hr4), fun c4 G4 t4 o4 y4 => ?_⟩
            refine ⟨c3, c4, _, _, rfl, rfl, t4 _ _ y3, y4, ?_, fun ro G5 t5 o5 y5 => ?_⟩
            · have e1 := cutV_length xs none (some (k' : Int))
              have e2 := cutV_length xs (some (k' : Int)) (some ((k' : Int) + 1))
              have e3 := cutV_length xs (some (k' : Int)) none
              rw [sizeLine_eq, List.length_append]
              omega
            have t15 := t1.trans (t2.trans (t3.trans (t4.trans t5)))
            have tG := tgx.same t15
            obtain ⟨e1, g1, w1'⟩ := tG.cut none (some (k' : Int))
            obtain ⟨e2, g2, w2'⟩ := tG.cut (some (k' : Int)) (some ((k' : Int) + 1))
            obtain ⟨e3, g3, w3'⟩ := tG.cut (some (k' : Int)) none
            exact ⟨ro, _, _, rfl, (B4.same t15).mono (by omega), F14.trans (.of t15), y5, avn (F14.trans (.of (t1.trans (t2.trans (t3.trans t4))))) o5 ((B4.same (t1.trans (t2.trans (t3.trans t4)))).new o5), ((g1.app g2).app g3).up (by omega) (by omega), by rw [wa_app, wa_app]; omega⟩
          refine ite_bF (decide_eq_false fun e => c1' (by injection e)) ?_
          refine ⟨_, rfl, rfl, _, rfl, ?_⟩
          by_cases c2' : way = 2
          · refine ite_bT (decide_eq_true (by rw [c2'])) ?_
            refine ⟨_, rfl, _, rfl, _, rfl, _, rfl, _, _, rfl, rfl, _, rfl, r0, _, rfl, SqL.of hr4, fun c2 G2 t2 o2 y2 => ⟨c2, _, rfl, SqL.of y2, fun c3 nc3 => ?_⟩⟩
            have t3 : Same G2 (upd G2 c3 (.lst (cutV xs (some (k' : Int)) (some ((k' : Int) + 2))).reverse)) := same_new nc3
            have y3 : (upd G2 c3 (.lst (cutV xs (some (k' : Int)) (some ((k' : Int) + 2))).reverse)) c3 = some (.lst (cutV xs (some (k' : Int)) (some ((k' : Int) + 2))).reverse) := upd_same
            generalize upd G2 c3 (.lst (cutV xs (some (k' : Int)) (some ((k' : Int) + 2))).reverse) = G3 at t3 y3
            have t23 := t2.trans t3
            have hr3 := t23 _ _ hr4
            have r3 : r0 ≠ c3 := ne_of_none (t2 _ _ hr4) nc3
            refine ⟨_, rfl, _, rfl, _, rfl, _, _, rfl, rfl, r0, c3, _, _, k', k' + 2, rfl, rfl, rfl, by show V.int ((k' : Int) + 2) = _; rw [show (k' : Int) + 2 = ((k' + 2 : Nat) : Int) by omega], hr3, y3, r3, by omega, by omega, ?_, ?_⟩
            · have e2 := cutV_length xs (some (k' : Int)) (some ((k' : Int) + 2))
              rw [sizeLine_eq, List.length_reverse]
              omega
            have Fu := (F14.trans (.of t23)).put' (o := .lst (xs.take k' ++ (cutV xs (some (k' : Int)) (some ((k' : Int) + 2))).reverse ++ xs.drop (k' + 2))) n2
            have tgu := (TgAll.fr hAp tg hB1 Fu).up (B' := B + 12) (m := m + 1) (by omega) (by omega)
            obtain ⟨e2, g2, w2'⟩ := tgu.cut (some (k' : Int)) (some ((k' : Int) + 2))
            have wc := wa_cut ds k'
            have wd := wa_cut ds (k' + 2)
            exact ⟨r0, _, ds.take k' ++ e2.reverse ++ ds.drop (k' + 2), rfl, ((B4.same t23).upd r0p).mono (by omega), Fu, upd_same, r0a, ((tgu.take k').app g2.rev).app (tgu.drop (k' + 2)), by rw [wa_app, wa_app, wa_rev]; omega⟩
          refine ite_bF (decide_eq_false fun e => c2' (by injection e)) ?_
          refine ⟨_, rfl, rfl, _, rfl, ?_⟩
          by_cases c3' : way = 3
          · refine ite_bT (decide_eq_true (by rw [c3'])) ?_
            refine ⟨_, rfl, .inl ⟨rfl, _, SqL.of hr4⟩, _, rfl, rfl, fun e1 G1 t1 o1 y1 => ⟨rfl, fun e2 G2 t2 o2 y2 => ⟨rfl, fun e3 Ga ta oa ya => ⟨rfl, fun e4 Gb tb ob yb => ⟨rfl, fun l1 G3 t3 o3 y3 => ?_⟩⟩⟩⟩⟩
            have tab := ta.trans (tb.trans t3)
            have t13 := t1.trans (t2.trans tab)
            have e2p : e2 ≠ p := (B4.same t1).new o2
            have e2a : ¬ Av e2 := avn (F14.trans (.of t1)) o2 e2p
            have l1p : l1 ≠ p := ((((B4.same t1).same t2).same ta).same tb).new o3
            refine ⟨_, rfl, p, 7, _, rfl, B4.same t13, by omega, by decide, by decide, fun z G4 z0 z1 B5 F5 => ?_⟩
            have F15 : Fr p H1 G4 := (F14.trans (.of t13)).trans F5
            have hr5 := F5 _ _ r0p (t13 _ _ hr4)
            obtain ⟨y, e, ey, ty', we⟩ : ∃ (y : V) (e : PyData), atI ([.int 0, .non, .ref e1, .ref e2, .bl true, .ref e3, .ref e4] : List V) z = some y ∧ (∀ Hz, SqT K Hz e1 [] → Hz e2 = some (.lst []) → SqT K Hz e3 [.int 0, .int 1] → SqT K Hz e4 [.int 1, .int 1] → Tg K Av Hz (B + 12) (m + 1) y e) ∧ PyData.weight e ≤ 4 := by
              have cs : z = 0 ∨ z = 1 ∨ z = 2 ∨ z = 3 ∨ z = 4 ∨ z = 5 ∨ z = 6 := by omega
              rcases cs with c | c | c | c | c | c | c <;> subst c
              · exact ⟨.int 0, .int 0, rfl, fun _ _ _ _ _ => .int _ _ (Nat.zero_le _), by decide⟩
              · exact ⟨.non, .none, rfl, fun _ _ _ _ _ => .non _, by decide⟩
              · exact ⟨.ref e1, .tuple [], rfl, fun Hz f1 _ _ _ => .tup f1 rfl fun i x d hx => by simp at hx, by decide⟩
              · exact ⟨.ref e2, .list [], rfl, fun Hz _ f2 _ _ => .lst f2 e2a rfl fun i x d hx => by simp at hx, by decide⟩
              · exact ⟨.bl true, .bool true, rfl, fun _ _ _ _ _ => .bl _ _, by decide⟩
              · exact ⟨.ref e3, .tuple [.int 0, .int 1], rfl, fun Hz _ _ f3 _ => (TgAll.cons (.int _ _ (by show 0 ≤ B + 12; omega)) (.cons (.int _ _ (by show 1 ≤ B + 12; omega)) .nil)).t f3, by decide +kernel⟩
              · exact ⟨.ref e4, .tuple [.int 1, .int 1], rfl, fun Hz _ _ _ f4 => (TgAll.cons (.int _ _ (by show 1 ≤ B + 12; omega)) (.cons (.int _ _ (by show 1 ≤ B + 12; omega)) .nil)).t f4, by decide +kernel⟩
            refine ⟨l1, _, z, y, rfl, rfl, SqL.of (F5 _ _ l1p y3), ey, r0, _, (k' : Int), y, rfl, rfl, hr5, by rw [sizeLine_eq]; omega, by omega, by omega, ?_⟩
            rw [Int.toNat_natCast]
            have Fu := F15.put' (o := .lst (xs.take k' ++ [y] ++ xs.drop k')) n2
            have tgu := (TgAll.fr hAp tg hB1 Fu).up (B' := B + 12) (m := m + 1) (by omega) (by omega)
            have q1 : SqT K (upd G4 r0 (.lst (xs.take k' ++ [y] ++ xs.drop k'))) e1 [] := sqT_frL (sqT_fr (SqT.of ((t2.trans tab) _ _ y1)) (B4.same t13) F5) hr5 fr_upd
            have q2 : (upd G4 r0 (.lst (xs.take k' ++ [y] ++ xs.drop k'))) e2 = some (.lst []) := by
              rw [upd_ne (ne_of_none (t1 _ _ hr4) o2).symm]
              exact F5 _ _ e2p (tab _ _ y2)
            have q3 : SqT K (upd G4 r0 (.lst (xs.take k' ++ [y] ++ xs.drop k'))) e3 [.int 0, .int 1] := sqT_frL (sqT_fr (SqT.of ((tb.trans t3) _ _ ya)) (B4.same t13) F5) hr5 fr_upd
            have q4 : SqT K (upd G4 r0 (.lst (xs.take k' ++ [y] ++ xs.drop k'))) e4 [.int 1, .int 1] := sqT_frL (sqT_fr (SqT.of (t3 _ _ yb)) (B4.same t13) F5) hr5 fr_upd
            refine ⟨r0, _, ds.take k' ++ [e] ++ ds.drop k', rfl, (B5.upd r0p).mono (by omega), Fu, upd_same, r0a, ((tgu.take k').app (.cons (ty' _ q1 q2 q3 q4) .nil)).app (tgu.drop k'), ?_⟩
            have wc := wa_cut ds k'
            rw [wa_app, wa_app]
            show _ + (PyData.weight e + 1 + 0) + _ ≤ _
            omega
          refine ite_bF (decide_eq_false fun e => c3' (by injection e)) ?_
          refine ⟨_, rfl, rfl, _, rfl, ?_⟩
          by_cases c4' : way = 4
          · refine ite_bT (decide_eq_true (by rw [c4'])) ?_
            refine ⟨_, rfl, _, _, _, _, _, rfl, .ty _, ty H4 nb hB1 F14, kit_ty kl, ?_⟩
            have FH : Fr p H H4 := (Fr.of s1).trans F14
            have tgu := tgx.up (B' := B + 12) (m := m + 1) (by omega) (by omega)
            cases bl with
            | false => exact ⟨_, rfl, iteF ⟨_, rfl, q _ (.list ds) H4 (B4.mono (by omega)) FH (.lst hr4 r0a tgu.1 tgu.2) (by show PyData.weightAll ds ≤ _; omega)⟩⟩
            | true => exact ⟨_, rfl, iteT ⟨_, rfl, r0, _, rfl, .inl ⟨SqL.of hr4, fun tn H6 s6 n6 h6 => q _ (.tuple ds) H6 ((B4.same s6).mono (by omega)) (FH.trans (.of s6)) (.tup (SqT.of h6) tgu.1 (tgu.same s6).2) (by show PyData.weightAll ds ≤ _; omega)⟩⟩⟩
          refine ite_bF (decide_eq_false fun e => c4' (by injection e)) ?_
          refine ⟨_, rfl, rfl, _, rfl, ?_⟩
          by_cases c5' : way = 5
          · refine ite_bT (decide_eq_true (by rw [c5'])) ?_
            refine ⟨_, rfl, .inl ⟨rfl, _, SqL.of hr4⟩, r0, _, rfl, rfl, hr4, ?_⟩
            have Fu := F14.put' (o := .lst xs.reverse) n2
            exact ⟨r0, _, ds.reverse, rfl, (B4.upd r0p).mono (by omega), Fu, upd_same, r0a, ((TgAll.fr hAp tg hB1 Fu).rev).up (by omega) (by omega), by rw [wa_rev]; omega⟩
          refine ite_bF (decide_eq_false fun e => c5' (by injection e)) ?_
          refine ⟨_, rfl, _, rfl, _, rfl, r0, _, rfl, SqL.of hr4, fun c1 G1 t1 o1 y1 => ?_⟩
          refine ⟨_, rfl, _, rfl, r0, r0, _, _, rfl, rfl, t1 _ _ hr4, t1 _ _ hr4, by rw [sizeLine_eq]; omega, fun c2 G2 t2 o2 y2 => ⟨rfl, fun c3 G3 t3 o3 y3 => ?_⟩⟩
          have t13 := t1.trans (t2.trans t3)
          have tG := tgx.same t13
          obtain ⟨e1, g1, w1'⟩ := tG.cut none (some (k' : Int))
          have cs : way = 6 ∨ way = 7 := by omega
          rcases cs with c | c
          · refine ⟨_, rfl, _, _, rfl, rfl, c3, _, 0, .ref c1, rfl, by rw [c] <;> rfl, SqL.of y3, at0, ?_⟩
            exact ⟨c1, _, _, rfl, (B4.same t13).mono (by omega), F14.trans (.of t13), (t2.trans t3) _ _ y1, avn F14 o1 (B4.new o1), g1.up (by omega) (by omega), by omega⟩
          · refine ⟨_, rfl, _, _, rfl, rfl, c3, _, 1, .ref c2, rfl, by rw [c] <;> rfl, SqL.of y3, at1, ?_⟩
            exact ⟨c2, _, _, rfl, (B4.same t13).mono (by omega), F14.trans (.of t13), t3 _ _ y2, avn (F14.trans (.of t1)) o2 ((B4.same t1).new o2), (tG.app tG).up (by omega) (by omega), by rw [wa_app]; omega⟩
theorem ok_l_bent (T : All K mg) : FnG P w K mg base 6 T.f_l_bent T.fd_l_bent ["_law_box_here", "_law_thing", "_law_deep"] (sp_l_bent K 6) := by
  have go : ∀ k, FnG P w K mg base k T.f_l_bent T.fd_l_bent ["_law_box_here", "_law_thing", "_law_deep"] (sp_l_bent K k) := fun k => by
    induction k with
    | zero => exact none_l_bent (by omega)
    | succ k ih =>
      by_cases c : k = 0
      · subst c
        exact none_l_bent (by omega)
      · exact step_l_bent T (by omega) ih
  exact go _

end
end KR
namespace KR
open PySem PySem.Spec PyProof.Rows L2
section
variable {P : Program} {w : World} {K : PySem.W.Frag} {mg : Str → Option Value} {base : Heap}
def sp_l_is_whole (K : PySem.W.Frag) : Sp := fun vs H Q _ => ∃ (Av : Addr → Prop) (B n : Nat) (v : V) (d : PyData), vs = [v] ∧ Tg K Av H B n v d ∧ Q (.bl (isI d)) H
theorem ok_l_is_whole (T : All K mg) : FnOk P w K mg base CX0 1 T.f_l_is_whole T.fd_l_is_whole ["_law_thing"] (sp_l_is_whole K) := by
  refine T.d_l_is_whole.fn.ok sc_l_is_whole (fun vs H Q E h => ?_) (fun cdv A outer s H vs Q E hr h => ?_)
  · obtain ⟨Av, B, n, v, d, rfl, _⟩ := h
    rfl
  · obtain ⟨Av, B, n, v, d, rfl, h, q⟩ := h
    refine ⟨_, (pss_one (ps_ret (pe_and (pe_callB (isiK (K := K) rfl) (by rfl) T.b_isinstance (by decide +kernel) (pa_cons (pv 0) (pa_cons (pe_bltn (v := .ty "int") (by rfl) T.b_int (by decide +kernel) rfl) pa_nil))) (pe_one (pe_not (pe_callB (isiK (K := K) rfl) (by rfl) T.b_isinstance (by decide +kernel) (pa_cons (pv 0) (pa_cons (pe_bltn (v := .ty "bool") (by rfl) T.b_bool (by decide +kernel) rfl) pa_nil)))))))), ?_⟩
    obtain ⟨t, ty, _, _, ki, kb, _⟩ := h.ty
    cases e : isBo d with
    | true =>
      rw [boI e] at q
      rw [e, Bool.or_true] at ki
      rw [e] at kb
      refine ⟨_, rfl, _, _, _, _, _, rfl, .ty _, ty, kit_ty ki, _, rfl, ?_⟩
      refine iteT ?_
      refine ⟨_, rfl, _, _, _, _, _, rfl, .ty _, ty, kit_ty kb, _, rfl, ?_⟩
      exact q
    | false =>
      rw [e, Bool.or_false] at ki
      rw [e] at kb
      refine ⟨_, rfl, _, _, _, _, _, rfl, .ty _, ty, kit_ty ki, _, rfl, ?_⟩
      cases e2 : isI d with
      | true =>
        rw [e2] at q
        refine iteT ?_
        refine ⟨_, rfl, _, _, _, _, _, rfl, .ty _, ty, kit_ty kb, _, rfl, ?_⟩
        exact q
      | false =>
        rw [e2] at q
        refine iteF ?_
        exact q

end
end KR
namespace KR
open PySem PySem.Spec PyProof.Rows L2
section
variable {P : Program} {w : World} {K : PySem.W.Frag} {mg : Str → Option Value} {base : Heap}
theorem low_one {a b : Int} (hb : 0 < b) : PyData.eqv (dq (rq a b)) (.tuple [.int a, .int b]) = decide (Nat.gcd a.natAbs b.natAbs = 1) := by
  refine eqv_pair.trans ?_
  rw [decide_eq_decide]
  constructor
  · rintro ⟨e1, e2⟩
    have l := rat_low (rq a b)
    rw [e1, e2] at l
    exact l.cop
  · intro h
    exact low_self ⟨hb, h⟩
theorem partD_low {a b : Int} (h0 : 0 ≤ a) (h1 : a ≤ b) (h2 : 1 ≤ b) (h3 : b ≤ 12) : partD (.tuple [.int a, .int b]) = decide (Nat.gcd a.natAbs b.natAbs = 1) := by
  show ((decide (0 < b) && decide (Nat.gcd a.natAbs b.natAbs = 1)) && (decide (0 ≤ a) && (decide (a ≤ b) && decide (b ≤ 12)))) = _
  rw [decide_eq_true (show 0 < b by omega), decide_eq_true h0, decide_eq_true h1, decide_eq_true h3, Bool.true_and, Bool.true_and, Bool.true_and, Bool.and_true]
theorem partD_out {a b : Int} (h : ¬ (0 ≤ a ∧ a ≤ b ∧ 1 ≤ b ∧ b ≤ 12)) : partD (.tuple [.int a, .int b]) = false := by
  cases e : partD (.tuple [.int a, .int b]) with
  | false => rfl
  | true =>
    obtain ⟨lo, h1, h2, h3⟩ := partD_mk e
    exact absurd ⟨h1, h2, lo.pos, h3⟩ h
def sp_l_is_part (K : PySem.W.Frag) : Sp := fun vs H Q _ => ∃ (Av : Addr → Prop) (B n : Nat) (v : V) (d : PyData), vs = [v] ∧ Tg K Av H B n v d ∧ ∀ H', Same H H' → Q (.bl (partD d)) H'
theorem ok_l_is_part (T : All K mg) : FnOk P w K mg base CX0 2 T.f_l_is_part T.fd_l_is_part ["_law_thing"] (sp_l_is_part K) := by
  refine T.d_l_is_part.fn.ok sc_l_is_part (fun vs H Q E h => ?_) (fun cdv A outer s H vs Q E hr h => ?_)
  · obtain ⟨Av, Bn, n, v, d, rfl, _⟩ := h
    rfl
  · obtain ⟨Av, Bn, n, v, d, rfl, hv, q⟩ := h
    refine ⟨_, (pss_cons (ps_if (PW.pt (pw_or (pt_not (pt_val (pe_callB (isiK (K := K) rfl) (by rfl) T.b_isinstance (by decide +kernel) (pa_cons (pv 0) (pa_cons (pe_bltn (v := .ty "tuple") (by rfl) T.b_tuple (by decide +kernel) rfl) pa_nil))))) (pw_or (pt_cmpR op_ne (pe_callB (lenQ (K := K) rfl) (by rfl) T.b_len PySem.boot_len (pa_cons (pv 0) pa_nil)) pe_int (nomark _)) (pw_or1 (pt_not (pt_val (pe_callB (allK (K := K) rfl rfl) (by rfl) T.b_all (by decide +kernel) (pa_cons (pe_lc (own := [("_law_one", 1)]) (g := gName 1) (tt := tYes) (by rfl) sc_l_is_part.nd (pi_tupK (K := K) rfl (pv 0)) (blkOk_by (own := [("_law_one", 1)]) (N := ["_law_thing", "_law_one"]) (sc := defScope s_l_is_part) (by decide +kernel)) (fun _ _ _ _ _ => (pg_name (i := 1) sc_l_is_part.nd rfl (by first | exact Or.inl rfl | exact Or.inr rfl))) (fun _ _ _ _ _ => pts_nil) (fun _ _ _ _ _ => (pe_call (ok_l_is_whole T) hr (by rfl) T.d_l_is_whole.mg T.d_l_is_whole.fn.kp T.d_l_is_whole.b .nil pass0 (pa_cons (pv 1) pa_nil)))) pa_nil)))))))) (pss_one (ps_ret pe_bl)) pss_nil)
      (pss_one (ps_ret (pe_and (pe_chain op_le op_le pe_int (pe_ix (ixT (K := K) rfl) (pv 0) pe_int (fun _ _ => rfl)) (pe_ix (ixT (K := K) rfl) (pv 0) pe_int (fun _ _ => rfl))) (pe_and (pe_chain op_le op_le pe_int (pe_ix (ixT (K := K) rfl) (pv 0) pe_int (fun _ _ => rfl)) pe_int) (pe_one (pe_cmpR (eqDK (K := K) rfl hr.units) (pe_call (ok_l_low T) hr (by rfl) T.d_l_low.mg T.d_l_low.fn.kp T.d_l_low.b .nil pass0 (pa_cons (pe_ix (ixT (K := K) rfl) (pv 0) pe_int (fun _ _ => rfl)) (pa_cons (pe_ix (ixT (K := K) rfl) (pv 0) pe_int (fun _ _ => rfl)) pa_nil))) (pv 0) (nomark _)))))))), ?_⟩
    obtain ⟨ty, hty, _, kty, _, _, _⟩ := hv.ty
    refine ⟨_, rfl, _, _, _, _, _, rfl, .ty _, hty, kit_ty kty, ?_⟩
    cases et : isT d with
    | false =>
      rw [partD_no et] at q
      exact ⟨_, rfl, iteT (q _ (.refl _))⟩
    | true =>
    obtain ⟨a, xs, ds, m, rfl, rfl, rfl, sq, tg⟩ := hv.tupI et
    refine ⟨_, rfl, iteF ?_⟩
    refine ⟨_, rfl, a, _, rfl, .inr sq, rfl, _, rfl, ?_⟩
    by_cases cl : xs.length = 2
    rotate_left
    · rw [partD_len (by rw [← tg.1]; exact cl)] at q
      exact ite_nT (by omega) (q _ (.refl _))
    refine ite_nF (by omega) ?_
    have ld := tg.1
    refine ⟨_, rfl, a, rfl, ⟨_, sq⟩, fun D hD => ?_⟩
    refine lc_it (walk_tup (K := K) (a := a) (xs := xs)) (fun j H' => Same H H' ∧ H' D = some (.lst ((ds.take j).map fun e => V.bl (isI e))))
      ⟨same_new hD, by rw [upd_same] <;> rfl⟩ (fun j H' _ z => Same.tup z.1 sq) ?_ ?_
    · rintro j v H3 H4 hj ⟨s3, hD3⟩ ⟨rfl, hv'⟩
      obtain ⟨x0, e, ex, ee, tx⟩ := (tg.same s3).at_ hj
      obtain rfl : v = x0 := Option.some.inj (hv'.symm.trans ex)
      refine ⟨rfl, yesT ?_⟩
      refine ⟨_, rfl, Av, Bn, m, v, e, rfl, tx, ?_⟩
      refine ⟨_, hD3, by rw [List.length_map, List.length_take]; exact small' (by omega), Same.put s3 hD, ?_⟩
      rw [upd_same, take_one ee, List.map_append] <;> rfl
    · rintro H3 ⟨s3, hD3⟩
      rw [ld, List.take_length] at hD3
      have e : (ds.map isI).map V.bl = ds.map fun e => V.bl (isI e) := by rw [List.map_map] <;> rfl
      refine ⟨D, ds.map isI, rfl, SqL.of (by rw [e]; exact hD3), ?_⟩
      obtain ⟨x1, x2, d1, d2, rfl, rfl, t1, t2⟩ := two tg cl
      show ∃ k, V.bl (isI d1 && (isI d2 && true)) = V.bl k ∧ _
      cases e1 : isI d1 with
      | false =>
        rw [partD_i (.inl e1)] at q
        exact ⟨_, rfl, iteT (q _ s3)⟩
      | true =>
      cases e2 : isI d2 with
      | false =>
        rw [partD_i (.inr e2)] at q
        exact ⟨_, rfl, iteT (q _ s3)⟩
      | true =>
      obtain ⟨i, rfl, rfl, _⟩ := t1.intI e1
      obtain ⟨j, rfl, rfl, _⟩ := t2.intI e2
      refine ⟨_, rfl, iteF ?_⟩
      have sq3 := Same.tup s3 sq
      refine ⟨_, rfl, a, _, 0, _, rfl, rfl, sq3, at0, _, _, rfl, rfl, _, rfl, ?_⟩
      by_cases c0 : 0 ≤ i
      rotate_left
      · rw [partD_out (by omega)] at q
        exact ite_bF (decide_eq_false c0) ⟨_, rfl, iteF (q _ s3)⟩
      refine ite_bT (decide_eq_true c0) ?_
      refine ⟨_, rfl, a, _, 1, _, rfl, rfl, sq3, at1, _, _, rfl, rfl, _, rfl, ?_⟩
      by_cases c1 : i ≤ j
      rotate_left
      · rw [partD_out (by omega)] at q
        exact ite_bF (decide_eq_false c1) (q _ s3)
      refine ite_bT (decide_eq_true c1) ?_
      refine ⟨_, rfl, a, _, 1, _, rfl, rfl, sq3, at1, _, _, rfl, rfl, _, rfl, ?_⟩
      by_cases c2 : 1 ≤ j
      rotate_left
      · rw [partD_out (by omega)] at q
        exact ite_bF (decide_eq_false c2) ⟨_, rfl, iteF (q _ s3)⟩
      refine ite_bT (decide_eq_true c2) ?_
      refine ⟨_, _, rfl, rfl, _, rfl, ?_⟩
      by_cases c3 : j ≤ 12
      rotate_left
      · rw [partD_out (by omega)] at q
        exact ite_bF (decide_eq_false c3) (q _ s3)
      refine ite_bT (decide_eq_true c3) ?_
      refine ⟨_, rfl, a, _, 0, _, rfl, rfl, sq3, at0, _, rfl, a, _, 1, _, rfl, rfl, sq3, at1, i, j, rfl, by omega, lt_up (a := 8) (by omega) (by decide), lt_up (a := 8) (by omega) (by decide), fun z H4 s4 n4 h4 => ?_⟩
      refine ⟨_, rfl, dq (rq i j), .tuple [.int i, .int j], h4.dp, (hv.same (s3.trans s4)).dp, rfl, rfl, ?_⟩
      rw [low_one (by omega)]
      rw [partD_low c0 c1 c2 c3] at q
      exact q _ (s3.trans s4)

end
end KR
namespace KR
open PySem PySem.Spec PyProof.Rows L2
section
variable {P : Program} {w : World} {K : PySem.W.Frag} {mg : Str → Option Value} {base : Heap}
def sp_l_due (K : PySem.W.Frag) : Sp := fun vs H Q _ => ∃ (Av : Addr → Prop) (B n : Nat) (v : V) (d : PyData), vs = [v] ∧ TgS K Av H B n v d ∧ ∀ H', Same H H' → Q (.bl (kindsD d)) H'
theorem ok_l_due (T : All K mg) : FnOk P w K mg base CX0 4 T.f_l_due T.fd_l_due ["_law_thing"] (sp_l_due K) := by
  refine T.d_l_due.fn.ok sc_l_due (fun vs H Q E h => ?_) (fun cdv A outer s H vs Q E hr h => ?_)
  · obtain ⟨Av, Bn, n, v, d, rfl, _⟩ := h
    rfl
  · obtain ⟨Av, Bn, n, v, d, rfl, hv, q⟩ := h
    refine ⟨_, (pss_cons (ps_if (PW.pt (pw_or (pt_not (pt_val (pe_callB (isiK (K := K) rfl) (by rfl) T.b_isinstance (by decide +kernel) (pa_cons (pv 0) (pa_cons (pe_bltn (v := .ty "list") (by rfl) T.b_list (by decide +kernel) rfl) pa_nil))))) (pw_or1 (pt_not (pt_chain op_le op_le pe_int (pe_callB (lenQ (K := K) rfl) (by rfl) T.b_len PySem.boot_len (pa_cons (pv 0) pa_nil)) pe_int))))) (pss_one (ps_ret pe_bl)) pss_nil)
      (pss_cons (ps_for PassesOwn.never rfl (pi_listK (K := K) rfl (pv 0)) (pg_name (i := 1) sc_l_due.nd rfl (by first | exact Or.inl rfl | exact Or.inr rfl)) (pss_cons (ps_if (PW.pt (pw_or (pt_not (pt_val (pe_callB (isiK (K := K) rfl) (by rfl) T.b_isinstance (by decide +kernel) (pa_cons (pv 1) (pa_cons (pe_bltn (v := .ty "tuple") (by rfl) T.b_tuple (by decide +kernel) rfl) pa_nil))))) (pw_or (pt_cmpR op_ne (pe_callB (lenQ (K := K) rfl) (by rfl) T.b_len PySem.boot_len (pa_cons (pv 1) pa_nil)) pe_int (nomark _)) (pw_or (pt_not (pt_val (pe_call (ok_l_is_whole T) (hr.mono (by decide)) (by rfl) T.d_l_is_whole.mg T.d_l_is_whole.fn.kp T.d_l_is_whole.b .nil pass0 (pa_cons (pe_ix (ixT (K := K) rfl) (pv 1) pe_int (fun _ _ => rfl)) pa_nil)))) (pw_or1 (pt_not (pt_chain op_le op_le pe_int (pe_ix (ixT (K := K) rfl) (pv 1) pe_int (fun _ _ => rfl)) (pe_op op_pow pe_int pe_int)))))))) (pss_one (ps_ret pe_bl)) pss_nil)
      (pss_cons (ps_if (PW.pt (pw_or (pt_not (pt_val (pe_call (ok_l_is_part T) (hr.mono (by decide)) (by rfl) T.d_l_is_part.mg T.d_l_is_part.fn.kp T.d_l_is_part.b .nil pass0 (pa_cons (pe_ix (ixT (K := K) rfl) (pv 1) pe_int (fun _ _ => rfl)) pa_nil)))) (pw_or (pt_not (pt_val (pe_callB (isiK (K := K) rfl) (by rfl) T.b_isinstance (by decide +kernel) (pa_cons (pe_ix (ixT (K := K) rfl) (pv 1) pe_int (fun _ _ => rfl)) (pa_cons (pe_bltn (v := .ty "tuple") (by rfl) T.b_tuple (by decide +kernel) rfl) pa_nil))))) (pw_or1 (pt_cmpR op_ne (pe_callB (lenQ (K := K) rfl) (by rfl) T.b_len PySem.boot_len (pa_cons (pe_ix (ixT (K := K) rfl) (pv 1) pe_int (fun _ _ => rfl)) pa_nil)) (pe_callB (lenQ (K := K) rfl) (by rfl) T.b_len PySem.boot_len (pa_cons (pv 0) pa_nil)) (nomark _)))))) (pss_one (ps_ret pe_bl)) pss_nil)
      (pss_cons (ps_if (pt_not (pt_val (pe_callB (allK (K := K) rfl rfl) (by rfl) T.b_all (by decide +kernel) (pa_cons (pe_lc (own := [("_law_part", 2)]) (g := gName 2) (tt := tYes) (by rfl) sc_l_due.nd (pi_tupK (K := K) rfl (pe_ix (ixT (K := K) rfl) (pv 1) pe_int (fun _ _ => rfl))) (blkOk_by (own := [("_law_part", 2)]) (N := ["_law_thing", "_law_one", "_law_part", "_law_whole"]) (sc := defScope s_l_due) (by decide +kernel)) (fun _ _ _ _ _ => (pg_name (i := 2) sc_l_due.nd rfl (by first | exact Or.inl rfl | exact Or.inr rfl))) (fun _ _ _ _ _ => pts_nil) (fun _ _ _ _ _ => (pe_call (ok_l_is_part T) (hr.mono (by decide)) (by rfl) T.d_l_is_part.mg T.d_l_is_part.fn.kp T.d_l_is_part.b .nil pass0 (pa_cons (pv 2) pa_nil)))) pa_nil)))) (pss_one (ps_ret pe_bl)) pss_nil)
      (pss_cons (ps_set (i := 3) sc_l_due.nd rfl (by first | exact Or.inl rfl | exact Or.inr rfl) (pe_call (ok_l_all T) hr (by rfl) T.d_l_all.mg T.d_l_all.fn.kp T.d_l_all.b .nil pass0 (pa_cons (pe_ix (ixT (K := K) rfl) (pv 1) pe_int (fun _ _ => rfl)) pa_nil)))
      (pss_one (ps_if (pt_cmpR op_gt (pe_ix (ixT (K := K) rfl) (pv 3) pe_int (fun _ _ => rfl)) (pe_ix (ixT (K := K) rfl) (pv 3) pe_int (fun _ _ => rfl)) (nomark _)) (pss_one (ps_ret pe_bl)) pss_nil)))))))
      (pss_one (ps_ret pe_bl)))), ?_⟩
    obtain ⟨ty, hty, kl, _⟩ := hv.kl
    refine ⟨_, rfl, _, _, _, _, _, rfl, .ty _, hty, kit_ty kl, ?_⟩
    cases el : isL d with
    | false =>
      rw [kindsD_no el] at q
      exact ⟨_, rfl, iteT (q _ (.refl _))⟩
    | true =>
    obtain ⟨f, ks, dk, m, rfl, rfl, rfl, hf, tg⟩ := (hv.tg (.inl el)).lstI el
    have lk : ks.length = dk.length := tg.1
    refine ⟨_, rfl, iteF ?_⟩
    have q2 : ∀ H', Same H H' → Q (.bl ((decide (1 ≤ dk.length) && decide (dk.length ≤ 6)) && dk.all (kindD (dk.length : Int)))) H' := q
    refine ⟨_, rfl, f, _, rfl, .inl (SqL.of hf), _, _, rfl, rfl, _, rfl, ?_⟩
    by_cases c1 : 1 ≤ dk.length
    rotate_left
    · rw [decide_eq_false c1] at q2
      exact ite_bF (decide_eq_false (by omega)) ⟨_, rfl, iteT (q2 H (.refl _))⟩
    rw [decide_eq_true c1] at q2
    refine ite_bT (decide_eq_true (by omega)) ?_
    refine ⟨_, _, rfl, rfl, _, rfl, ?_⟩
    by_cases c6 : dk.length ≤ 6
    rotate_left
    · rw [decide_eq_false c6] at q2
      rw [decide_eq_false (show ¬ ((ks.length : Nat) : Int) ≤ 6 by omega)]
      exact iteT (q2 H (.refl _))
    rw [decide_eq_true c6] at q2
    rw [decide_eq_true (show ((ks.length : Nat) : Int) ≤ 6 by omega)]
    refine iteF ?_
    have q3 : ∀ H', Same H H' → Q (.bl (dk.all (kindD (dk.length : Int)))) H' := q2
    have noK : ∀ {j : Nat} {e : PyData}, dk[j]? = some e → kindD (dk.length : Int) e = false → ∀ H', Same H H' → Q (.bl false) H' := fun {j e} ee no H' s => by
      have z := q3 H' s
      rw [all_at ee no] at z
      exact z
    refine ⟨_, rfl, f, rfl, ⟨_, SqL.of hf⟩, for_it (walk_list (K := K) (a := f) (xs := ks)) (fun j σ H' => ∃ (w1 w2 w3 : Option V), σ = [some (.ref f), w1, w2, w3] ∧ Same H H' ∧ (dk.take j).all (kindD (dk.length : Int)) = true)
      ⟨none, none, none, rfl, .refl _, rfl⟩ (fun j σ H' _ ⟨_, _, _, _, s, _⟩ => SqL.of (s _ _ hf)) ?_ ?_⟩
    · rintro j v σ H2 H3 hj ⟨w1, w2, w3, rfl, s2, al⟩ ⟨rfl, hv'⟩
      obtain ⟨x0, e, ex, ee, tx⟩ := (tg.same s2).at_ hj
      obtain rfl : v = x0 := Option.some.inj (hv'.symm.trans ex)
      obtain ⟨ty3, hty3, _, kt3, _, _, _⟩ := tx.ty
      refine ⟨_, rfl, _, _, _, _, _, rfl, .ty _, hty3, kit_ty kt3, ?_⟩
      cases e3 : isT e with
      | false => exact ⟨_, rfl, iteT (noK ee (kindD_no e3) _ s2)⟩
      | true =>
      obtain ⟨r, ys, es, m3, rfl, rfl, em3, hr3, tg3⟩ := tx.tupI e3
      refine ⟨_, rfl, iteF ?_⟩
      refine ⟨_, rfl, r, _, rfl, .inr hr3, rfl, _, rfl, ?_⟩
      by_cases c2 : ys.length = 3
      rotate_left
      · exact ite_nT (by omega) (noK ee (kindD_len (by rw [← tg3.1]; exact c2)) _ s2)
      refine ite_nF (by omega) ?_
      obtain ⟨y1, y2, y3, b1, b2, b3, rfl, rfl, u1, u2, u3⟩ := threeT tg3 c2
      have nk : ∀ {b : Bool}, (numIn 0 1000000 b1 && (partD b2 && goesD (dk.length : Int) b3)) = b → b = false → ∀ H', Same H H' → Q (.bl false) H' := fun {b} e z => noK ee (by show (numIn 0 1000000 b1 && (partD b2 && goesD (dk.length : Int) b3)) = false; rw [e, z])
      refine ⟨_, rfl, r, _, 0, _, rfl, rfl, hr3, at0, Av, Bn, m3, y1, b1, rfl, u1, ?_⟩
      cases e4 : isI b1 with
      | false => exact ⟨_, rfl, iteT (nk (by rw [numIn_no e4] <;> rfl) rfl _ s2)⟩
      | true =>
      obtain ⟨i, rfl, rfl, _⟩ := u1.intI e4
      refine ⟨_, rfl, iteF ?_⟩
      refine ⟨_, rfl, r, _, 0, _, rfl, rfl, hr3, at0, _, _, rfl, rfl, _, rfl, ?_⟩
      by_cases i1 : 0 ≤ i
      rotate_left
      · exact ite_bF (decide_eq_false i1) ⟨_, rfl, iteT (nk (by show ((decide (0 ≤ i) && _) && _) = _; rw [decide_eq_false i1] <;> rfl) rfl _ s2)⟩
      refine ite_bT (decide_eq_true i1) ?_
      refine ⟨_, _, rfl, rfl, ⟨by decide, by decide, by decide⟩, _, _, rfl, rfl, _, rfl, ?_⟩
      have e6 : (10 : Int) ^ (6 : Int).toNat = 1000000 := by decide
      by_cases i2 : i ≤ 1000000
      rotate_left
      · rw [decide_eq_false (p := i ≤ (10 : Int) ^ (6 : Int).toNat) (by omega)]
        exact iteT (nk (by show ((decide (0 ≤ i) && decide (i ≤ 1000000)) && _) = _; rw [decide_eq_false i2, Bool.and_false] <;> rfl) rfl _ s2)
      rw [decide_eq_true (p := i ≤ (10 : Int) ^ (6 : Int).toNat) (by omega)]
      refine iteF ?_
      have ni := numIn_is i1 i2
      refine ⟨_, rfl, r, _, 1, _, rfl, rfl, hr3, at1, Av, Bn, m3, y2, b2, rfl, u2, fun H4 s4 => ?_⟩
      have s24 := s2.trans s4
      cases e5 : partD b2 with
      | false => exact ⟨_, rfl, iteT (nk (by rw [ni, e5] <;> rfl) rfl _ s24)⟩
      | true =>
      refine ⟨_, rfl, iteF ?_⟩
      have hr4 := Same.tup s4 hr3
      have v3 := u3.same s4
      obtain ⟨ty4, hty4, _, kt4, _, _, _⟩ := v3.ty
      refine ⟨_, rfl, r, _, 2, _, rfl, rfl, hr4, at2, _, _, _, _, _, rfl, .ty _, hty4, kit_ty kt4, ?_⟩
      cases e6 : isT b3 with
      | false => exact ⟨_, rfl, iteT (nk (by rw [ni, e5, goesD_no e6] <;> rfl) rfl _ s24)⟩
      | true =>
      obtain ⟨g, zs, dz, m4, rfl, rfl, em4, hg, tgz⟩ := v3.tupI e6
      refine ⟨_, rfl, iteF ?_⟩
      have lz := tgz.1
      refine ⟨_, rfl, r, _, 2, _, rfl, rfl, hr4, at2, g, _, rfl, .inr hg, _, rfl, f, _, rfl, .inl (SqL.of (s24 _ _ hf)), rfl, _, rfl, ?_⟩
      have nk2 : ∀ {b : Bool}, ((decide ((dz.length : Int) = (dk.length : Int)) && dz.all partD) && decide (zsum (dz.map ratD) ≤ 1)) = b → b = false → ∀ H', Same H H' → Q (.bl false) H' := fun {b} e z => nk (by
        rw [ni, e5]
        show ((decide ((dz.length : Int) = (dk.length : Int)) && dz.all partD) && decide (zsum (dz.map ratD) ≤ 1)) = b
        exact e) z
      by_cases c7 : zs.length = ks.length
      rotate_left
      · exact ite_nT (by omega) (nk2 (by rw [decide_eq_false (show ¬ (dz.length : Int) = (dk.length : Int) by omega)] <;> rfl) rfl _ s24)
      refine ite_nF (by omega) ?_
      have dl : decide ((dz.length : Int) = (dk.length : Int)) = true := decide_eq_true (by omega)
      -- all of its parts
      refine ⟨_, rfl, r, _, 2, _, rfl, rfl, hr4, at2, g, rfl, ⟨_, hg⟩, fun D hD => ?_⟩
      refine lc_it (walk_tup (K := K) (a := g) (xs := zs)) (fun j H' => Same H4 H' ∧ H' D = some (.lst ((dz.take j).map fun e => V.bl (partD e))))
        ⟨same_new hD, by rw [upd_same] <;> rfl⟩ (fun j H' _ z => Same.tup z.1 hg) ?_ ?_
      · rintro j' v H5' H5 hj' ⟨s5, hD5⟩ ⟨rfl, hv5⟩
        obtain ⟨x0, e, ex', ee', tx'⟩ := (tgz.same s5).at_ hj'
        obtain rfl : v = x0 := Option.some.inj (hv5.symm.trans ex')
        refine ⟨rfl, yesT ?_⟩
        refine ⟨_, rfl, Av, Bn, m4, v, e, rfl, tx', fun H6 s6 => ?_⟩
        refine ⟨_, s6 _ _ hD5, by rw [List.length_map, List.length_take]; exact small' (by omega), Same.put (s5.trans s6) hD, ?_⟩
        rw [upd_same, take_one ee', List.map_append] <;> rfl
      · rintro H5 ⟨s5, hD5⟩
        rw [lz, List.take_length] at hD5
        have eb : (dz.map partD).map V.bl = dz.map fun e => V.bl (partD e) := by rw [List.map_map] <;> rfl
        refine ⟨D, dz.map partD, rfl, SqL.of (by rw [eb]; exact hD5), ?_⟩
        have s25 := s24.trans s5
        have ea : (dz.map partD).all (fun b => b) = dz.all partD := by rw [List.all_map] <;> rfl
        show ∃ k, V.bl ((dz.map partD).all fun b => b) = V.bl k ∧ _
        rw [ea]
        cases e7 : dz.all partD with
        | false => exact ⟨_, rfl, iteT (nk2 (by rw [dl, e7] <;> rfl) rfl _ s25)⟩
        | true =>
        refine ⟨_, rfl, iteF ?_⟩
        obtain ⟨l, rfl, fl, pa, ez⟩ := (tgz.same s5).parts e7
        have ll : l.length ≤ 7 := by rw [rz_len] at c7; omega
        have add := parts_add (mem_q pa) (by rw [List.length_map]; exact ll)
        refine ⟨_, rfl, r, _, 2, _, rfl, rfl, Same.tup s5 hr4, at2, g, l, false, rfl, Same.tup s5 hg, fl, fun z hz => part_big (pa z hz), add, fun wq H6 s6 hw => ?_⟩
        have s26 := s25.trans s6
        have hw' : SqT K H6 wq [.int (zsum (l.map (·.2))).num, .int ((zsum (l.map (·.2))).den : Int)] := hw
        refine ⟨_, rfl, wq, _, 0, _, rfl, rfl, hw', at0, _, rfl, wq, _, 1, _, rfl, rfl, hw', at1, _, _, rfl, rfl, _, rfl, ?_⟩
        by_cases c8 : zsum (l.map (·.2)) ≤ 1
        · refine ite_bF (decide_eq_false (by have := (le_one_iff _).mpr c8; omega)) ?_
          refine ⟨_, _, _, rfl, s26, all_up al ee ?_⟩
          show (numIn 0 1000000 (.int i) && (partD b2 && ((decide ((dz.length : Int) = (dk.length : Int)) && dz.all partD) && decide (zsum (dz.map ratD) ≤ 1)))) = true
          rw [ni, e5, dl, e7, ← ez, decide_eq_true c8] <;> rfl
        · refine ite_bT (decide_eq_true (by
            have : ¬ (zsum (l.map (·.2))).num ≤ ((zsum (l.map (·.2))).den : Int) := fun z => c8 ((le_one_iff _).mp z)
            omega)) ?_
          exact nk2 (by rw [dl, e7, ← ez, decide_eq_false c8] <;> rfl) rfl _ s26
    · rintro σ H2 ⟨w1, w2, w3, rfl, s2, al⟩
      rw [lk, List.take_length] at al
      rw [al] at q3
      exact q3 _ s2

end
end KR
namespace KR
open PySem PySem.Spec PyProof.Rows L2
section
variable {P : Program} {w : World} {K : PySem.W.Frag} {mg : Str → Option Value} {base : Heap}
theorem pr_tg {K : PySem.W.Frag} {Av : Addr → Prop} {H : Hp} {t : Addr} {i j : Int} (h : SqT K H t [.int i, .int j]) (hi : i.natAbs ≤ 13) (hj : j.natAbs ≤ 13) : Tg K Av H 1000001 1 (.ref t) (.tuple [.int i, .int j]) := (TgAll.cons (.int _ _ (by omega)) (.cons (.int _ _ (by omega)) .nil)).t h
theorem pr_wt {i j : Int} (hi : i.natAbs ≤ 13) (hj : j.natAbs ≤ 13) : PyData.weight (.tuple [.int i, .int j]) ≤ 44 := by
  have a := wt_int (i := i) (by omega)
  have b := wt_int (i := j) (by omega)
  show PyData.weight (.int i) + 1 + (PyData.weight (.int j) + 1 + 0) ≤ 44
  omega
def sp_l_edge (K : PySem.W.Frag) : Sp := fun vs H Q _ => ∃ (p : Addr) (nb k : Nat), vs = [.ref p, .int (k : Int)] ∧ BoxAt H p nb ∧ nb ≤ 999000000 ∧ 1 ≤ k ∧ k ≤ 7 ∧ ∀ (f : Addr) (d : PyData) (H' : Hp), BoxAt H' p (nb + 5) → Fr p H H' → Tg K (fun a => a = p) H' 1000001 4 (.ref f) d → PyData.weight d ≤ 3000 → Q (.ref f) H'
theorem ok_l_edge (T : All K mg) : FnOk P w K mg base CX0 2 T.f_l_edge T.fd_l_edge ["_law_box_here", "_law_many"] (sp_l_edge K) := by
  refine T.d_l_edge.fn.ok sc_l_edge (fun vs H Q E h => ?_) (fun cdv A outer s H vs Q E hr h => ?_)
  · obtain ⟨p, nb, k, rfl, _⟩ := h
    rfl
  · obtain ⟨p, nb, k, rfl, hB, hnb, k1, k7, q⟩ := h
    refine ⟨_, (pss_cons (ps_set (i := 2) sc_l_edge.nd rfl (by first | exact Or.inl rfl | exact Or.inr rfl) (pe_ix (ixL (K := K) rfl) (pe_lstI (pa_cons (pe_op op_pow pe_int pe_int) (pa_cons (pe_op op_add (pe_op op_pow pe_int pe_int) pe_int) (pa_cons pe_int (pa_cons (pe_un un_neg pe_int) pa_nil))))) (pe_call (ok_l_take T) hr (by rfl) T.d_l_take.mg T.d_l_take.fn.kp T.d_l_take.b .nil pass0 (pa_cons (pv 0) (pa_cons pe_int pa_nil))) (fun _ _ => rfl)))
      (pss_cons (ps_set (i := 3) sc_l_edge.nd rfl (by first | exact Or.inl rfl | exact Or.inr rfl) (pe_ix (ixL (K := K) rfl) (pe_lstI (pa_cons (pe_tupI (pa_cons pe_int (pa_cons pe_int pa_nil))) (pa_cons (pe_tupI (pa_cons pe_int (pa_cons pe_int pa_nil))) (pa_cons (pe_tupI (pa_cons pe_int (pa_cons pe_int pa_nil))) (pa_cons (pe_tupI (pa_cons pe_int (pa_cons pe_int pa_nil))) (pa_cons (pe_tupI (pa_cons pe_int (pa_cons pe_int pa_nil))) pa_nil)))))) (pe_call (ok_l_take T) hr (by rfl) T.d_l_take.mg T.d_l_take.fn.kp T.d_l_take.b .nil pass0 (pa_cons (pv 0) (pa_cons pe_int pa_nil))) (fun _ _ => rfl)))
      (pss_cons (ps_set (i := 4) sc_l_edge.nd rfl (by first | exact Or.inl rfl | exact Or.inr rfl) (pe_ix (ixL (K := K) rfl) (pe_lstI (pa_cons (pe_tupI (pa_cons pe_int (pa_cons pe_int pa_nil))) (pa_cons (pe_tupI (pa_cons pe_int (pa_cons pe_int pa_nil))) (pa_cons (pe_tupI (pa_cons pe_int (pa_cons pe_int pa_nil))) (pa_cons (pe_tupI (pa_cons pe_int (pa_cons pe_int pa_nil))) (pa_cons (pe_tupI (pa_cons pe_int (pa_cons pe_int pa_nil))) pa_nil)))))) (pe_call (ok_l_take T) hr (by rfl) T.d_l_take.mg T.d_l_take.fn.kp T.d_l_take.b .nil pass0 (pa_cons (pv 0) (pa_cons pe_int pa_nil))) (fun _ _ => rfl)))
      (pss_cons (ps_set (i := 5) sc_l_edge.nd rfl (by first | exact Or.inl rfl | exact Or.inr rfl) (pe_op op_rep (pe_lstI (pa_cons (pe_tupI (pa_cons pe_int (pa_cons pe_int pa_nil))) pa_nil)) (pe_op op_sub (pv 1) pe_int)))
      (pss_cons (ps_J (ps_if (pt_cmpR (neDK (K := K) rfl hr.units) (pv 5) (pe_lstI pa_nil) (nomark _)) (pss_one (ps_asg (pe_ix (ixL (K := K) rfl) (pe_lstI (pa_cons (pe_tupI (pa_cons pe_int (pa_cons pe_int pa_nil))) (pa_cons (pe_tupI (pa_cons pe_int (pa_cons pe_int pa_nil))) (pa_cons (pe_tupI (pa_cons pe_int (pa_cons pe_int pa_nil))) (pa_cons (pe_tupI (pa_cons pe_int (pa_cons pe_int pa_nil))) (pa_cons (pe_tupI (pa_cons (pe_un un_neg pe_int) (pa_cons pe_int pa_nil))) pa_nil)))))) (pe_call (ok_l_take T) hr (by rfl) T.d_l_take.mg T.d_l_take.fn.kp T.d_l_take.b .nil pass0 (pa_cons (pv 0) (pa_cons pe_int pa_nil))) (fun _ _ => rfl)) (pg_sub (pv 5) (pe_call (ok_l_take T) hr (by rfl) T.d_l_take.mg T.d_l_take.fn.kp T.d_l_take.b .nil pass0 (pa_cons (pv 0) (pa_cons (pe_op op_sub (pv 1) pe_int) pa_nil))) set_list))) pss_nil))
      (pss_one (ps_ret (pe_op op_catI (pe_lstI (pa_cons (pe_tupI (pa_cons (pv 2) (pa_cons (pv 3) (pa_cons (pe_callTy (tupJ (K := K) rfl) (by rfl) T.b_tuple (by decide +kernel) (pa_cons (pe_op op_catI (pe_lstI (pa_cons (pv 4) pa_nil)) (pv 5)) pa_nil)) pa_nil)))) pa_nil)) (pe_op op_rep (pe_lstI (pa_cons (pe_tupI (pa_cons pe_int (pa_cons (pe_tupI (pa_cons pe_int (pa_cons pe_int pa_nil))) (pa_cons (pe_op (op_repJ (K := K) rfl) (pe_tupI (pa_cons (pe_tupI (pa_cons pe_int (pa_cons pe_int pa_nil))) pa_nil)) (pv 1)) pa_nil)))) pa_nil)) (pe_op op_sub (pv 1) pe_int)))))))))), ?_⟩
    have e6 : (10 : Int) ^ (6 : Int).toNat = 1000000 := by decide
    refine ⟨_, _, rfl, rfl, ⟨by decide, by decide, by decide⟩, _, _, rfl, rfl, ⟨by decide, by decide, by decide⟩, _, _, rfl, rfl, _, rfl, rfl, fun l0 H0 s0 n0 h0 => ?_⟩
    have B0 := hB.same s0
    have l0p : l0 ≠ p := hB.new n0
    refine ⟨_, rfl, p, 4, _, rfl, B0, by omega, by decide, by decide, fun z0 H1 z00 z01 B1 F1 => ?_⟩
    obtain ⟨fr, efr, hfr⟩ : ∃ fr : Int, atI ([.int ((10 : Int) ^ (6 : Int).toNat), .int ((10 : Int) ^ (6 : Int).toNat + 1), .int 0, .int (-1)] : List V) z0 = some (.int fr) ∧ fr.natAbs ≤ 1000001 := by
      have cs : z0 = 0 ∨ z0 = 1 ∨ z0 = 2 ∨ z0 = 3 := by omega
      rcases cs with e | e | e | e <;> subst e
      · exact ⟨_, rfl, by decide⟩
      · exact ⟨_, rfl, by decide⟩
      · exact ⟨_, rfl, by decide⟩
      · exact ⟨_, rfl, by decide⟩
    refine ⟨l0, _, z0, _, rfl, rfl, SqL.of (F1 _ _ l0p h0), efr, ?_⟩
    have F01 : Fr p H H1 := (Fr.of s0).trans F1
    refine ⟨rfl, fun d1 dH1 sd1 nd1 hd1 => ⟨rfl, fun d2 dH2 sd2 nd2 hd2 => ⟨rfl, fun d3 dH3 sd3 nd3 hd3 => ⟨rfl, fun d4 dH4 sd4 nd4 hd4 => ⟨rfl, fun d5 dH5 sd5 nd5 hd5 => ⟨rfl, fun dl dH6 sdl ndl hdl => ?_⟩⟩⟩⟩⟩⟩
    have cd5 : Same dH6 dH6 := .refl _
    have cd4 : Same dH5 dH6 := sdl.trans cd5
    have cd3 : Same dH4 dH6 := sd5.trans cd4
    have cd2 : Same dH3 dH6 := sd4.trans cd3
    have cd1 : Same dH2 dH6 := sd3.trans cd2
    have cd0 : Same dH1 dH6 := sd2.trans cd1
    have cd : Same H1 dH6 := sd1.trans cd0
    have dB := B1.same cd
    have dlp : dl ≠ p := (((((B1.same sd1).same sd2).same sd3).same sd4).same sd5).new ndl
    refine ⟨_, rfl, p, 5, _, rfl, dB, by omega, by decide, by decide, fun dz dX dz0 dz1 dC dF => ?_⟩
    obtain ⟨dt, di, dj, ed, td, id_, jd⟩ : ∃ (t : Addr) (i j : Int), atI ([.ref d1, .ref d2, .ref d3, .ref d4, .ref d5] : List V) dz = some (.ref t) ∧ SqT K dX t [.int i, .int j] ∧ i.natAbs ≤ 13 ∧ j.natAbs ≤ 13 := by
      have cs : dz = 0 ∨ dz = 1 ∨ dz = 2 ∨ dz = 3 ∨ dz = 4 := by omega
      rcases cs with e | e | e | e | e <;> subst e
      · exact ⟨d1, 11, 12, rfl, sqT_fr (SqT.of (cd0 _ _ hd1)) dB dF, by decide, by decide⟩
      · exact ⟨d2, 12, 13, rfl, sqT_fr (SqT.of (cd1 _ _ hd2)) dB dF, by decide, by decide⟩
      · exact ⟨d3, 1, 1, rfl, sqT_fr (SqT.of (cd2 _ _ hd3)) dB dF, by decide, by decide⟩
      · exact ⟨d4, 0, 1, rfl, sqT_fr (SqT.of (cd3 _ _ hd4)) dB dF, by decide, by decide⟩
      · exact ⟨d5, 2, 4, rfl, sqT_fr (SqT.of (cd4 _ _ hd5)) dB dF, by decide, by decide⟩
    refine ⟨dl, _, dz, _, rfl, rfl, SqL.of (dF _ _ dlp hdl), ed, ?_⟩
    have Fd : Fr p H1 dX := (Fr.of cd).trans dF
    refine ⟨rfl, fun f1 fH1 sf1 nf1 hf1 => ⟨rfl, fun f2 fH2 sf2 nf2 hf2 => ⟨rfl, fun f3 fH3 sf3 nf3 hf3 => ⟨rfl, fun f4 fH4 sf4 nf4 hf4 => ⟨rfl, fun f5 fH5 sf5 nf5 hf5 => ⟨rfl, fun fl fH6 sfl nfl hfl => ?_⟩⟩⟩⟩⟩⟩
    have cf5 : Same fH6 fH6 := .refl _
    have cf4 : Same fH5 fH6 := sfl.trans cf5
    have cf3 : Same fH4 fH6 := sf5.trans cf4
    have cf2 : Same fH3 fH6 := sf4.trans cf3
    have cf1 : Same fH2 fH6 := sf3.trans cf2
    have cf0 : Same fH1 fH6 := sf2.trans cf1
    have cf : Same dX fH6 := sf1.trans cf0
    have fB := dC.same cf
    have flp : fl ≠ p := (((((dC.same sf1).same sf2).same sf3).same sf4).same sf5).new nfl
    refine ⟨_, rfl, p, 5, _, rfl, fB, by omega, by decide, by decide, fun fz fX fz0 fz1 fC fF => ?_⟩
    obtain ⟨ft, fi, fj, ef, tf, if_, jf⟩ : ∃ (t : Addr) (i j : Int), atI ([.ref f1, .ref f2, .ref f3, .ref f4, .ref f5] : List V) fz = some (.ref t) ∧ SqT K fX t [.int i, .int j] ∧ i.natAbs ≤ 13 ∧ j.natAbs ≤ 13 := by
      have cs : fz = 0 ∨ fz = 1 ∨ fz = 2 ∨ fz = 3 ∨ fz = 4 := by omega
      rcases cs with e | e | e | e | e <;> subst e
      · exact ⟨f1, 1, 1, rfl, sqT_fr (SqT.of (cf0 _ _ hf1)) fB fF, by decide, by decide⟩
      · exact ⟨f2, 11, 12, rfl, sqT_fr (SqT.of (cf1 _ _ hf2)) fB fF, by decide, by decide⟩
      · exact ⟨f3, 12, 13, rfl, sqT_fr (SqT.of (cf2 _ _ hf3)) fB fF, by decide, by decide⟩
      · exact ⟨f4, 1, 2, rfl, sqT_fr (SqT.of (cf3 _ _ hf4)) fB fF, by decide, by decide⟩
      · exact ⟨f5, 0, 2, rfl, sqT_fr (SqT.of (cf4 _ _ hf5)) fB fF, by decide, by decide⟩
    refine ⟨fl, _, fz, _, rfl, rfl, SqL.of (fF _ _ flp hfl), ef, ?_⟩
    have Ff : Fr p dX fX := (Fr.of cf).trans fF
    refine ⟨rfl, fun z H2 s2 n2 h2 => ⟨rfl, fun l2 H3 s3 n3 h3 => ?_⟩⟩
    refine ⟨_, rfl, _, _, rfl, rfl, l2, (k : Int) - 1, _, rfl, rfl, h3, by omega, by omega, by show 1 * _ ≤ _; rw [sizeLine_eq]; omega, fun rl nrl => ?_⟩
    rw [show (k : Int) - 1 = ((k - 1 : Nat) : Int) by omega, rep_one (k - 1) (V.ref z)]
    have s4 : Same H3 (upd H3 rl (.lst (List.replicate (k - 1) (V.ref z)))) := same_new nrl
    have h4 : (upd H3 rl (.lst (List.replicate (k - 1) (V.ref z)))) rl = some (.lst (List.replicate (k - 1) (V.ref z))) := upd_same
    generalize upd H3 rl (.lst (List.replicate (k - 1) (V.ref z))) = H4 at s4 h4
    have s24 := s2.trans (s3.trans s4)
    have B4 := fC.same s24
    have rlp : rl ≠ p := ((fC.same s2).same s3).new nrl
    have hz4 : H4 z = some (.tup [.int 0, .int 1]) := (s3.trans s4) _ _ h2
    have F14 : Fr p H1 H4 := Fd.trans (Ff.trans (.of s24))
    have F04 : Fr p H H4 := F01.trans F14
    have nrlH : H1 rl = none := fr_new' (Fd.trans Ff) (same_none' s2 (same_none' s3 nrl)) rlp
    have td4 : SqT K H4 dt [.int di, .int dj] := sqT_fr (sqT_fr td dC Ff) fC (.of s24)
    have tf4 : SqT K H4 ft [.int fi, .int fj] := Same.tup s24 tf
    have tz4 : Tg K (fun a => a = p) H4 1000001 1 (.ref z) (.tuple [.int 0, .int 1]) := pr_tg (SqT.of hz4) (by decide) (by decide)
    refine ⟨fun σ' H' => ∃ (rs : List V) (ds : List PyData), σ' = [some (.ref p), some (.int (k : Int)), some (.int fr), some (.ref dt), some (.ref ft), some (.ref rl)] ∧ Fr p H1 H' ∧ BoxAt H' p (nb + 5) ∧ H' rl = some (.lst rs) ∧ rs.length = k - 1 ∧ TgAll K (fun a => a = p) H' 1000001 1 rs ds ∧ SqT K H' dt [.int di, .int dj] ∧ SqT K H' ft [.int fi, .int fj] ∧ ∀ d ∈ ds, PyData.weight d ≤ 44, ?_, ?_⟩
    rotate_left
    · have td : TgAll K (fun a => a = p) H4 1000001 1 (List.replicate (k - 1) (V.ref z)) (List.replicate (k - 1) (.tuple [.int 0, .int 1])) := rep_tg tz4
      have w44 : ∀ d ∈ List.replicate (k - 1) (PyData.tuple [.int 0, .int 1]), PyData.weight d ≤ 44 := fun d hd => by
        rw [List.eq_of_mem_replicate hd]
        exact pr_wt (by decide) (by decide)
      refine ⟨_, rfl, rfl, fun e5 H5 s5 n5 h5 => ?_⟩
      have shd : SeqAt.shaped (.list (List.replicate (k - 1) (PyData.tuple [.int 0, .int 1]))) = true := flat_shaped (m := 2) (flat_list (m := 1) fun d hd => by
        rw [List.eq_of_mem_replicate hd]
        exact ⟨rfl, by decide⟩) (by decide)
      refine ⟨.list (List.replicate (k - 1) (.tuple [.int 0, .int 1])), .list [], .lst (SqL.of (s5 _ _ h4)) (td.same s5).dps_, .lst (SqL.of h5) .nil, shd, rfl, _, rfl, ?_⟩
      have B5 := B4.same s5
      by_cases c : k = 1
      · subst c
        refine iteF ?_
        exact ⟨_, _, rfl, F14.trans (.of s5), B5.mono (by omega), s5 _ _ h4, by rw [List.length_replicate], td.same s5, Same.tup s5 td4, Same.tup s5 tf4, w44⟩
      · obtain ⟨k', rfl⟩ : ∃ k', k = k' + 2 := ⟨k - 2, by omega⟩
        refine iteT ?_
        have hrl5 := s5 _ _ h4
        have F15 : Fr p H1 H5 := F14.trans (.of s5)
        refine ⟨rfl, fun v1 vH1 sv1 nv1 hv1 => ⟨rfl, fun v2 vH2 sv2 nv2 hv2 => ⟨rfl, fun v3 vH3 sv3 nv3 hv3 => ⟨rfl, fun v4 vH4 sv4 nv4 hv4 => ⟨_, rfl, rfl, fun v5 vH5 sv5 nv5 hv5 => ⟨rfl, fun vl vH6 svl nvl hvl => ?_⟩⟩⟩⟩⟩⟩
        have cv5 : Same vH6 vH6 := .refl _
        have cv4 : Same vH5 vH6 := svl.trans cv5
        have cv3 : Same vH4 vH6 := sv5.trans cv4
        have cv2 : Same vH3 vH6 := sv4.trans cv3
        have cv1 : Same vH2 vH6 := sv3.trans cv2
        have cv0 : Same vH1 vH6 := sv2.trans cv1
        have cv : Same H5 vH6 := sv1.trans cv0
        have vB := B5.same cv
        have vlp : vl ≠ p := (((((B5.same sv1).same sv2).same sv3).same sv4).same sv5).new nvl
        refine ⟨_, rfl, p, 5, _, rfl, vB, by omega, by decide, by decide, fun vz vX vz0 vz1 vC vF => ?_⟩
        obtain ⟨vt, vi, vj, ev, tv, iv, jv⟩ : ∃ (t : Addr) (i j : Int), atI ([.ref v1, .ref v2, .ref v3, .ref v4, .ref v5] : List V) vz = some (.ref t) ∧ SqT K vX t [.int i, .int j] ∧ i.natAbs ≤ 13 ∧ j.natAbs ≤ 13 := by
          have cs : vz = 0 ∨ vz = 1 ∨ vz = 2 ∨ vz = 3 ∨ vz = 4 := by omega
          rcases cs with e | e | e | e | e <;> subst e
          · exact ⟨v1, 0, 1, rfl, sqT_fr (SqT.of (cv0 _ _ hv1)) vB vF, by decide, by decide⟩
          · exact ⟨v2, 1, 12, rfl, sqT_fr (SqT.of (cv1 _ _ hv2)) vB vF, by decide, by decide⟩
          · exact ⟨v3, 1, 11, rfl, sqT_fr (SqT.of (cv2 _ _ hv3)) vB vF, by decide, by decide⟩
          · exact ⟨v4, 1, 2, rfl, sqT_fr (SqT.of (cv3 _ _ hv4)) vB vF, by decide, by decide⟩
          · exact ⟨v5, (-1), 12, rfl, sqT_fr (SqT.of (cv4 _ _ hv5)) vB vF, by decide, by decide⟩
        refine ⟨vl, _, vz, _, rfl, rfl, SqL.of (vF _ _ vlp hvl), ev, ?_⟩
        have Fv : Fr p H5 vX := (Fr.of cv).trans vF
        refine ⟨_, rfl, _, rfl, _, rfl, _, _, rfl, rfl, p, (((k' + 2 : Nat) : Int) - 1), _, rfl, vC, by omega, by omega, by omega, fun y H7 y0 y1 B7 F7 => ?_⟩
        obtain ⟨yi, rfl⟩ : ∃ yi : Nat, y = (yi : Int) := ⟨y.toNat, by omega⟩
        have F57 : Fr p H5 H7 := Fv.trans F7
        have hrl7 := F57 _ _ rlp hrl5
        refine ⟨rl, _, (yi : Int), yi, rfl, rfl, hrl7, ixN_at' (by rw [List.length_replicate]; omega), ?_⟩
        have F17 : Fr p H1 H7 := F15.trans F57
        have FU : Fr p H1 (upd H7 rl (.lst ((List.replicate (k' + 2 - 1) (V.ref z)).set yi (.ref vt)))) := F17.put' nrlH
        have n5 : ∀ {b : Addr} {o : HO}, H7 b = some o → (∀ xs, o ≠ .lst xs) → b ≠ rl := fun {b o} e n z => by
          rw [z, hrl7] at e
          exact n _ (Option.some.inj e).symm
        have up : ∀ {b : Addr} {xs : List V}, SqT K H7 b xs → SqT K (upd H7 rl (.lst ((List.replicate (k' + 2 - 1) (V.ref z)).set yi (.ref vt)))) b xs := fun {b xs} h => sqT_frL h hrl7 fr_upd
        have tr7 := sqT_fr tv vC F7
        have td7 : TgAll K (fun a => a = p) (upd H7 rl (.lst ((List.replicate (k' + 2 - 1) (V.ref z)).set yi (.ref vt)))) 1000001 1 (List.replicate (k' + 2 - 1) (V.ref z)) (List.replicate (k' + 2 - 1) (.tuple [.int 0, .int 1])) := rep_tg (pr_tg (up (sqT_fr (SqT.of (s5 _ _ hz4)) B5 F57)) (by decide) (by decide))
        refine ⟨_, _, rfl, FU, (B7.upd rlp).mono (by omega), upd_same, by rw [List.length_set, List.length_replicate], td7.set (k := yi) (pr_tg (up tr7) iv jv), up (sqT_fr (Same.tup s5 td4) B5 F57), up (sqT_fr (Same.tup s5 tf4) B5 F57), fun d hd => ?_⟩
        rcases List.mem_or_eq_of_mem_set hd with m | m
        · exact w44 d m
        · rw [m]
          exact pr_wt iv jv
    rintro σ H5 ⟨rs, ds, rfl, F5, B5, hrl, lrs, tgr, td5, tf5, w44⟩
    -- the kinds
    refine ⟨_, rfl, _, rfl, _, rfl, rfl, fun la Ha sa na ha => ?_⟩
    have hrla := sa _ _ hrl
    refine ⟨_, rfl, la, rl, _, _, rfl, rfl, ha, hrla, by rw [lrs, sizeLine_eq]; show 1 + _ ≤ _; omega, fun lc Hc sc nc hc => ?_⟩
    refine ⟨lc, _, rfl, .inl ⟨SqL.of hc, fun tq Hq sq nq hq => ?_⟩⟩
    refine ⟨rfl, fun u1 Hu su nu hu => ⟨rfl, fun l9 H9 s9 n9 h9 => ⟨rfl, fun z1 Hv sv nv hv => ⟨rfl, fun z2 Hw sw nw hw => ⟨rfl, fun z3 Hx sx nx hx => ?_⟩⟩⟩⟩⟩
    refine ⟨_, rfl, z3, k, _, rfl, rfl, hx, (fun z => nomatch z), k1, by omega, by show 1 ≤ 1000; decide, fun gq Hg sg hg => ?_⟩
    refine ⟨rfl, fun u2 Hy sy ny hy => ⟨rfl, fun l8 Hz sz nz hz => ?_⟩⟩
    refine ⟨_, rfl, _, _, rfl, rfl, l8, (k : Int) - 1, _, rfl, rfl, hz, by omega, by omega, by show 1 * _ ≤ _; rw [sizeLine_eq]; omega, fun r2 nr2 => ?_⟩
    rw [show (k : Int) - 1 = ((k - 1 : Nat) : Int) by omega, rep_one (k - 1) (V.ref u2)]
    have s10 : Same Hz (upd Hz r2 (.lst (List.replicate (k - 1) (V.ref u2)))) := same_new nr2
    have h10 : (upd Hz r2 (.lst (List.replicate (k - 1) (V.ref u2)))) r2 = some (.lst (List.replicate (k - 1) (V.ref u2))) := upd_same
    generalize upd Hz r2 (.lst (List.replicate (k - 1) (V.ref u2))) = H10 at s10 h10
    have c9 : Same H9 H10 := sv.trans (sw.trans (sx.trans (sg.trans (sy.trans (sz.trans s10)))))
    refine ⟨l9, r2, _, _, rfl, rfl, c9 _ _ h9, h10, by rw [List.length_replicate, sizeLine_eq]; show 1 + _ ≤ _; omega, fun f H11 s11 n11 h11 => ?_⟩
    have c5 : Same H5 H11 := sa.trans (sc.trans (sq.trans (su.trans (s9.trans (c9.trans s11)))))
    have cq : Same Hq H11 := su.trans (s9.trans (c9.trans s11))
    have cg : Same Hg H11 := sy.trans (sz.trans (s10.trans s11))
    have B11 := B5.same c5
    have fp : f ≠ p := (B5.same (sa.trans (sc.trans (sq.trans (su.trans (s9.trans c9)))))).new n11
    have t1 : TgAll K (fun a => a = p) H11 1000001 1 (V.ref ft :: rs) (.tuple [.int fi, .int fj] :: ds) := .cons (pr_tg (Same.tup c5 tf5) if_ jf) (tgr.same c5)
    have tk1 : Tg K (fun a => a = p) H11 1000001 3 (.ref u1) (.tuple [.int fr, .tuple [.int di, .int dj], .tuple (.tuple [.int fi, .int fj] :: ds)]) :=
      (TgAll.cons (.int _ _ hfr) (.cons ((pr_tg (Same.tup c5 td5) id_ jd).up (Nat.le_refl _) (by decide)) (.cons (t1.t (SqT.of (cq _ _ hq))) .nil))).t (SqT.of ((s9.trans (c9.trans s11)) _ _ hu))
    have efl : (List.replicate k [V.ref z2]).flatten = List.replicate k (V.ref z2) := by
      have := rep_one k (V.ref z2)
      rw [Int.toNat_natCast] at this
      exact this
    rw [efl] at hg
    have t2 : TgAll K (fun a => a = p) H11 1000001 1 (List.replicate k (V.ref z2)) (List.replicate k (.tuple [.int 0, .int 1])) := rep_tg (pr_tg (SqT.of ((sx.trans (sg.trans cg)) _ _ hw)) (by decide) (by decide))
    have tk2 : Tg K (fun a => a = p) H11 1000001 3 (.ref u2) (.tuple [.int 0, .tuple [.int 0, .int 1], .tuple (List.replicate k (.tuple [.int 0, .int 1]))]) :=
      (TgAll.cons (.int _ _ (by decide)) (.cons ((pr_tg (SqT.of ((sw.trans (sx.trans (sg.trans cg))) _ _ hv)) (by decide) (by decide)).up (Nat.le_refl _) (by decide)) (.cons (t2.t (Same.tup cg hg)) .nil))).t (SqT.of ((sz.trans (s10.trans s11)) _ _ hy))
    have tf : TgAll K (fun a => a = p) H11 1000001 3 (V.ref u1 :: List.replicate (k - 1) (V.ref u2)) (.tuple [.int fr, .tuple [.int di, .int dj], .tuple (.tuple [.int fi, .int fj] :: ds)] :: List.replicate (k - 1) (.tuple [.int 0, .tuple [.int 0, .int 1], .tuple (List.replicate k (.tuple [.int 0, .int 1]))])) := .cons tk1 (rep_tg tk2)
    have ld := tgr.1
    have a1 := wt_int (i := fr) (by omega)
    have a2 := pr_wt id_ jd
    have a3 := pr_wt if_ jf
    have a4 := wa_bd w44
    have a5 := wa_bd (w := 44) (ds := List.replicate k (PyData.tuple [.int 0, .int 1])) fun d hd => by
      rw [List.eq_of_mem_replicate hd]
      exact pr_wt (by decide) (by decide)
    have a6 : PyData.weight (.tuple [.int 0, .tuple [.int 0, .int 1], .tuple (List.replicate k (.tuple [.int 0, .int 1]))]) ≤ 370 := by
      rw [List.length_replicate] at a5
      have b2 := pr_wt (i := 0) (j := 1) (by decide) (by decide)
      show 0 + 1 + (PyData.weight (.tuple [.int 0, .int 1]) + 1 + (PyData.weightAll (List.replicate k (PyData.tuple [.int 0, .int 1])) + 1 + 0)) ≤ 370
      omega
    have a7 := wa_bd (w := 370) (ds := List.replicate (k - 1) (PyData.tuple [.int 0, .tuple [.int 0, .int 1], .tuple (List.replicate k (.tuple [.int 0, .int 1]))])) fun d hd => by
      rw [List.eq_of_mem_replicate hd]
      exact a6
    rw [List.length_replicate] at a7
    refine q f _ H11 (B11.mono (by omega)) (F01.trans (F5.trans (.of c5))) (tf.l h11 fp) ?_
    show (PyData.weight (.int fr) + 1 + (PyData.weight (.tuple [.int di, .int dj]) + 1 + ((PyData.weight (.tuple [.int fi, .int fj]) + 1 + PyData.weightAll ds) + 1 + 0))) + 1 + PyData.weightAll (List.replicate (k - 1) (PyData.tuple [.int 0, .tuple [.int 0, .int 1], .tuple (List.replicate k (.tuple [.int 0, .int 1]))])) ≤ 3000
    omega

end
end KR
namespace KR
open PySem PySem.Spec PyProof.Rows L2
section
variable {P : Program} {w : World} {K : PySem.W.Frag} {mg : Str → Option Value} {base : Heap}
def sp_l_odd (K : PySem.W.Frag) : Sp := fun vs H Q _ => ∃ (p f : Addr) (nb : Nat) (xs : List V) (dk : List PyData), vs = [.ref p, .ref f] ∧ BoxAt H p nb ∧ nb ≤ 999000000 ∧ H f = some (.lst xs) ∧ f ≠ p ∧ TgAll K (fun a => a = p) H 1000001 3 xs dk ∧ 1 ≤ xs.length ∧ xs.length ≤ 6 ∧ PyData.weightAll dk ≤ 2040 ∧ ∀ (v : V) (d : PyData) (H' : Hp), BoxAt H' p (nb + 1) → Fr p H H' → TgS K (fun a => a = p) H' 1000001 7 v d → (isS d = true ∨ PyData.weight d ≤ 7000) → Q v H'
theorem ok_l_odd (T : All K mg) : FnG P w K mg base 2 T.f_l_odd T.fd_l_odd ["_law_box_here", "_law_kinds_here"] (sp_l_odd K) := by
  refine okG T.d_l_odd.fn sc_l_odd (fun vs H Q E h => ?_) (fun cdv A outer s H vs Q E hr hg h => ?_)
  · obtain ⟨p, f, nb, xs, dk, rfl, _⟩ := h
    rfl
  · obtain ⟨p, f, nb, xs, dk, rfl, hB, hnb, hf, fp, tg, l1, l6, wk, q⟩ := h
    refine ⟨_, (pss_cons (ps_set (i := 2) sc_l_odd.nd rfl (by first | exact Or.inl rfl | exact Or.inr rfl) (pe_lstI (pa_cons pe_non (pa_cons pe_int (pa_cons pe_str (pa_cons pe_bl (pa_cons (pe_tupI pa_nil) (pa_cons (pe_lstI pa_nil) (pa_cons (pe_lstI (pa_cons (pe_tupI pa_nil) pa_nil)) (pa_cons (pe_lstI (pa_cons (pe_lstI pa_nil) pa_nil)) (pa_cons (pe_callTy (tupJ (K := K) rfl) (by rfl) T.b_tuple (by decide +kernel) (pa_cons (pv 1) pa_nil)) (pa_cons (pe_lstI (pa_cons (pv 1) pa_nil)) (pa_cons (pe_op op_catI (pe_op op_catI (pv 1) (pv 1)) (pv 1)) (pa_cons (pe_callTy (cr_strV (K := K) rfl hg hr.units) (by rfl) T.b_str (by decide +kernel) (pa_cons (pv 1) pa_nil)) pa_nil))))))))))))))
      (pss_one (ps_ret (pe_ix (ixL (K := K) rfl) (pe_op op_catI (pv 2) (pe_lstI (pa_cons (pe_lstI (pa_cons (pe_lstI (pa_cons (pe_lstI (pa_cons (pe_lstI (pa_cons (pe_lstI (pa_cons (pe_tupI pa_nil) pa_nil)) pa_nil)) pa_nil)) pa_nil)) pa_nil)) (pa_cons (pe_tupI (pa_cons (pe_tupI (pa_cons (pe_tupI (pa_cons (pe_tupI (pa_cons (pe_tupI (pa_cons (pe_tupI pa_nil) pa_nil)) pa_nil)) pa_nil)) pa_nil)) pa_nil)) (pa_cons (pe_ix (ixL (K := K) rfl) (pv 1) pe_int (fun _ _ => rfl)) (pa_cons (pe_op op_rep (pe_lstI (pa_cons pe_non pa_nil)) (pe_callB (lenQ (K := K) rfl) (by rfl) T.b_len PySem.boot_len (pa_cons (pv 1) pa_nil))) pa_nil)))))) (pe_call (ok_l_take T) hr (by rfl) T.d_l_take.mg T.d_l_take.fn.kp T.d_l_take.b .nil pass0 (pa_cons (pv 0) (pa_cons pe_int pa_nil))) (fun _ _ => rfl))))), ?_⟩
    obtain ⟨x0, d0, ex0, ed0, _⟩ := tg.at_ (i := 0) (by omega)
    refine ⟨rfl, fun e1 H_e1 s_e1 n_e1 h_e1 => ?_⟩
    have c_H_e1 : Same H H_e1 := s_e1
    refine ⟨rfl, fun e2 H_e2 s_e2 n_e2 h_e2 => ?_⟩
    have c_H_e2 : Same H H_e2 := c_H_e1.trans s_e2
    refine ⟨rfl, fun e3 H_e3 s_e3 n_e3 h_e3 => ?_⟩
    have c_H_e3 : Same H H_e3 := c_H_e2.trans s_e3
    refine ⟨rfl, fun e4 H_e4 s_e4 n_e4 h_e4 => ?_⟩
    have c_H_e4 : Same H H_e4 := c_H_e3.trans s_e4
    refine ⟨rfl, fun e5 H_e5 s_e5 n_e5 h_e5 => ?_⟩
    have c_H_e5 : Same H H_e5 := c_H_e4.trans s_e5
    refine ⟨rfl, fun e6 H_e6 s_e6 n_e6 h_e6 => ?_⟩
    have c_H_e6 : Same H H_e6 := c_H_e5.trans s_e6
    refine ⟨_, rfl, f, _, rfl, .inl ⟨SqL.of (c_H_e6 _ _ hf), fun tk H_tk s_tk n_tk h_tk => ?_⟩⟩
    have c_H_tk : Same H H_tk := c_H_e6.trans s_tk
    refine ⟨_, rfl, rfl, fun e7 H_e7 s_e7 n_e7 h_e7 => ?_⟩
    have c_H_e7 : Same H H_e7 := c_H_tk.trans s_e7
    refine ⟨_, rfl, _, rfl, f, f, _, _, rfl, rfl, (c_H_e7 _ _ hf), (c_H_e7 _ _ hf), by rw [sizeLine_eq]; omega, fun c1 H_c1 s_c1 n_c1 h_c1 => ?_⟩
    have c_H_c1 : Same H H_c1 := c_H_e7.trans s_c1
    refine ⟨_, rfl, c1, f, _, _, rfl, rfl, h_c1, (c_H_c1 _ _ hf), by rw [List.length_append, sizeLine_eq]; omega, fun c2 H_c2 s_c2 n_c2 h_c2 => ?_⟩
    have c_H_c2 : Same H H_c2 := c_H_c1.trans s_c2
    have tkk : Tg K (fun a => a = p) H_c2 1000001 4 (.ref f) (.list dk) := (tg.same c_H_c2).l (c_H_c2 _ _ hf) fp
    refine ⟨_, rfl, .ref f, .list dk, rfl, tkk.dp, .inr ⟨4, 100000, tkk.show_ (by decide) (by show PyData.weightAll dk ≤ _; omega), by decide, by decide⟩, rfl, fun ls H_ls s_ls n_ls h_ls => ?_⟩
    have c_H_ls : Same H H_ls := c_H_c2.trans s_ls
    refine ⟨_, rfl, rfl, fun a0 H_a0 s_a0 n_a0 h_a0 => ?_⟩
    have c_H_a0 : Same H H_a0 := c_H_ls.trans s_a0
    refine ⟨rfl, fun a1 H_a1 s_a1 n_a1 h_a1 => ?_⟩
    have c_H_a1 : Same H H_a1 := c_H_a0.trans s_a1
    refine ⟨rfl, fun a2 H_a2 s_a2 n_a2 h_a2 => ?_⟩
    have c_H_a2 : Same H H_a2 := c_H_a1.trans s_a2
    refine ⟨rfl, fun a3 H_a3 s_a3 n_a3 h_a3 => ?_⟩
    have c_H_a3 : Same H H_a3 := c_H_a2.trans s_a3
    refine ⟨rfl, fun a4 H_a4 s_a4 n_a4 h_a4 => ?_⟩
    have c_H_a4 : Same H H_a4 := c_H_a3.trans s_a4
    refine ⟨rfl, fun a5 H_a5 s_a5 n_a5 h_a5 => ?_⟩
    have c_H_a5 : Same H H_a5 := c_H_a4.trans s_a5
    refine ⟨rfl, fun b0 H_b0 s_b0 n_b0 h_b0 => ?_⟩
    have c_H_b0 : Same H H_b0 := c_H_a5.trans s_b0
    refine ⟨rfl, fun b1 H_b1 s_b1 n_b1 h_b1 => ?_⟩
    have c_H_b1 : Same H H_b1 := c_H_b0.trans s_b1
    refine ⟨rfl, fun b2 H_b2 s_b2 n_b2 h_b2 => ?_⟩
    have c_H_b2 : Same H H_b2 := c_H_b1.trans s_b2
    refine ⟨rfl, fun b3 H_b3 s_b3 n_b3 h_b3 => ?_⟩
    have c_H_b3 : Same H H_b3 := c_H_b2.trans s_b3
    refine ⟨rfl, fun b4 H_b4 s_b4 n_b4 h_b4 => ?_⟩
    have c_H_b4 : Same H H_b4 := c_H_b3.trans s_b4
    refine ⟨rfl, fun b5 H_b5 s_b5 n_b5 h_b5 => ?_⟩
    have c_H_b5 : Same H H_b5 := c_H_b4.trans s_b5
    refine ⟨_, rfl, f, _, 0, x0, rfl, rfl, SqL.of (c_H_b5 _ _ hf), at_of (j := 0) rfl ex0, rfl, fun g1 H_g1 s_g1 n_g1 h_g1 => ?_⟩
    have c_H_g1 : Same H H_g1 := c_H_b5.trans s_g1
    refine ⟨_, rfl, f, _, rfl, .inl (SqL.of (c_H_g1 _ _ hf)), g1, (xs.length : Int), _, rfl, rfl, h_g1, by omega, by omega, by show 1 * _ ≤ _; rw [sizeLine_eq]; omega, fun g2 n_g2 => ?_⟩
    rw [rep_one xs.length V.non]
    have s_g2 : Same H_g1 (upd H_g1 g2 (.lst (List.replicate xs.length V.non))) := same_new n_g2
    have h_g2 : (upd H_g1 g2 (.lst (List.replicate xs.length V.non))) g2 = some (.lst (List.replicate xs.length V.non)) := upd_same
    generalize upd H_g1 g2 (.lst (List.replicate xs.length V.non)) = H_g2 at s_g2 h_g2
    have c_H_g2 : Same H H_g2 := c_H_g1.trans s_g2
    refine ⟨rfl, fun l4 H_l4 s_l4 n_l4 h_l4 => ?_⟩
    have c_H_l4 : Same H H_l4 := c_H_g2.trans s_l4
    have hls : H_l4 ls = _ := (s_a0.trans (s_a1.trans (s_a2.trans (s_a3.trans (s_a4.trans (s_a5.trans (s_b0.trans (s_b1.trans (s_b2.trans (s_b3.trans (s_b4.trans (s_b5.trans (s_g1.trans (s_g2.trans (s_l4))))))))))))))) _ _ h_ls
    refine ⟨ls, l4, _, _, rfl, rfl, hls, h_l4, by rw [sizeLine_eq]; show 12 + 4 ≤ 16777216; decide, fun L H_L s_L n_L h_L => ?_⟩
    have c_H_L : Same H H_L := c_H_l4.trans s_L
    have BL := hB.same c_H_L
    have Lp : L ≠ p := (hB.same c_H_l4).new n_L
    refine ⟨_, rfl, p, 16, _, rfl, BL, by omega, by decide, by decide, fun z HZ z0 z1 BZ FZ => ?_⟩
    have p_e1 : e1 ≠ p := (hB).new n_e1
    have k_e1 := FZ _ _ p_e1 ((s_e2.trans (s_e3.trans (s_e4.trans (s_e5.trans (s_e6.trans (s_tk.trans (s_e7.trans (s_c1.trans (s_c2.trans (s_ls.trans (s_a0.trans (s_a1.trans (s_a2.trans (s_a3.trans (s_a4.trans (s_a5.trans (s_b0.trans (s_b1.trans (s_b2.trans (s_b3.trans (s_b4.trans (s_b5.trans (s_g1.trans (s_g2.trans (s_l4.trans (s_L)))))))))))))))))))))))))) _ _ h_e1)
    have p_e2 : e2 ≠ p := (hB.same c_H_e1).new n_e2
    have k_e2 := FZ _ _ p_e2 ((s_e3.trans (s_e4.trans (s_e5.trans (s_e6.trans (s_tk.trans (s_e7.trans (s_c1.trans (s_c2.trans (s_ls.trans (s_a0.trans (s_a1.trans (s_a2.trans (s_a3.trans (s_a4.trans (s_a5.trans (s_b0.trans (s_b1.trans (s_b2.trans (s_b3.trans (s_b4.trans (s_b5.trans (s_g1.trans (s_g2.trans (s_l4.trans (s_L))))))))))))))))))))))))) _ _ h_e2)
    have p_e3 : e3 ≠ p := (hB.same c_H_e2).new n_e3
    have k_e3 := FZ _ _ p_e3 ((s_e4.trans (s_e5.trans (s_e6.trans (s_tk.trans (s_e7.trans (s_c1.trans (s_c2.trans (s_ls.trans (s_a0.trans (s_a1.trans (s_a2.trans (s_a3.trans (s_a4.trans (s_a5.trans (s_b0.trans (s_b1.trans (s_b2.trans (s_b3.trans (s_b4.trans (s_b5.trans (s_g1.trans (s_g2.trans (s_l4.trans (s_L)))))))))))))))))))))))) _ _ h_e3)
    have p_e4 : e4 ≠ p := (hB.same c_H_e3).new n_e4
    have k_e4 := FZ _ _ p_e4 ((s_e5.trans (s_e6.trans (s_tk.trans (s_e7.trans (s_c1.trans (s_c2.trans (s_ls.trans (s_a0.trans (s_a1.trans (s_a2.trans (s_a3.trans (s_a4.trans (s_a5.trans (s_b0.trans (s_b1.trans (s_b2.trans (s_b3.trans (s_b4.trans (s_b5.trans (s_g1.trans (s_g2.trans (s_l4.trans (s_L))))))))))))))))))))))) _ _ h_e4)
    have p_e5 : e5 ≠ p := (hB.same c_H_e4).new n_e5
    have k_e5 := FZ _ _ p_e5 ((s_e6.trans (s_tk.trans (s_e7.trans (s_c1.trans (s_c2.trans (s_ls.trans (s_a0.trans (s_a1.trans (s_a2.trans (s_a3.trans (s_a4.trans (s_a5.trans (s_b0.trans (s_b1.trans (s_b2.trans (s_b3.trans (s_b4.trans (s_b5.trans (s_g1.trans (s_g2.trans (s_l4.trans (s_L)))))))))))))))))))))) _ _ h_e5)
    have p_e6 : e6 ≠ p := (hB.same c_H_e5).new n_e6
    have k_e6 := FZ _ _ p_e6 ((s_tk.trans (s_e7.trans (s_c1.trans (s_c2.trans (s_ls.trans (s_a0.trans (s_a1.trans (s_a2.trans (s_a3.trans (s_a4.trans (s_a5.trans (s_b0.trans (s_b1.trans (s_b2.trans (s_b3.trans (s_b4.trans (s_b5.trans (s_g1.trans (s_g2.trans (s_l4.trans (s_L))))))))))))))))))))) _ _ h_e6)
    have p_tk : tk ≠ p := (hB.same c_H_e6).new n_tk
    have k_tk := FZ _ _ p_tk ((s_e7.trans (s_c1.trans (s_c2.trans (s_ls.trans (s_a0.trans (s_a1.trans (s_a2.trans (s_a3.trans (s_a4.trans (s_a5.trans (s_b0.trans (s_b1.trans (s_b2.trans (s_b3.trans (s_b4.trans (s_b5.trans (s_g1.trans (s_g2.trans (s_l4.trans (s_L)))))))))))))))))))) _ _ h_tk)
    have p_e7 : e7 ≠ p := (hB.same c_H_tk).new n_e7
    have k_e7 := FZ _ _ p_e7 ((s_c1.trans (s_c2.trans (s_ls.trans (s_a0.trans (s_a1.trans (s_a2.trans (s_a3.trans (s_a4.trans (s_a5.trans (s_b0.trans (s_b1.trans (s_b2.trans (s_b3.trans (s_b4.trans (s_b5.trans (s_g1.trans (s_g2.trans (s_l4.trans (s_L))))))))))))))))))) _ _ h_e7)
    have p_c2 : c2 ≠ p := (hB.same c_H_c1).new n_c2
    have k_c2 := FZ _ _ p_c2 ((s_ls.trans (s_a0.trans (s_a1.trans (s_a2.trans (s_a3.trans (s_a4.trans (s_a5.trans (s_b0.trans (s_b1.trans (s_b2.trans (s_b3.trans (s_b4.trans (s_b5.trans (s_g1.trans (s_g2.trans (s_l4.trans (s_L))))))))))))))))) _ _ h_c2)
    have p_a0 : a0 ≠ p := (hB.same c_H_ls).new n_a0
    have k_a0 := FZ _ _ p_a0 ((s_a1.trans (s_a2.trans (s_a3.trans (s_a4.trans (s_a5.trans (s_b0.trans (s_b1.trans (s_b2.trans (s_b3.trans (s_b4.trans (s_b5.trans (s_g1.trans (s_g2.trans (s_l4.trans (s_L))))))))))))))) _ _ h_a0)
    have p_a1 : a1 ≠ p := (hB.same c_H_a0).new n_a1
    have k_a1 := FZ _ _ p_a1 ((s_a2.trans (s_a3.trans (s_a4.trans (s_a5.trans (s_b0.trans (s_b1.trans (s_b2.trans (s_b3.trans (s_b4.trans (s_b5.trans (s_g1.trans (s_g2.trans (s_l4.trans (s_L)))))))))))))) _ _ h_a1)
    have p_a2 : a2 ≠ p := (hB.same c_H_a1).new n_a2
    have k_a2 := FZ _ _ p_a2 ((s_a3.trans (s_a4.trans (s_a5.trans (s_b0.trans (s_b1.trans (s_b2.trans (s_b3.trans (s_b4.trans (s_b5.trans (s_g1.trans (s_g2.trans (s_l4.trans (s_L))))))))))))) _ _ h_a2)
    have p_a3 : a3 ≠ p := (hB.same c_H_a2).new n_a3
    have k_a3 := FZ _ _ p_a3 ((s_a4.trans (s_a5.trans (s_b0.trans (s_b1.trans (s_b2.trans (s_b3.trans (s_b4.trans (s_b5.trans (s_g1.trans (s_g2.trans (s_l4.trans (s_L)))))))))))) _ _ h_a3)
    have p_a4 : a4 ≠ p := (hB.same c_H_a3).new n_a4
    have k_a4 := FZ _ _ p_a4 ((s_a5.trans (s_b0.trans (s_b1.trans (s_b2.trans (s_b3.trans (s_b4.trans (s_b5.trans (s_g1.trans (s_g2.trans (s_l4.trans (s_L))))))))))) _ _ h_a4)
    have p_a5 : a5 ≠ p := (hB.same c_H_a4).new n_a5
    have k_a5 := FZ _ _ p_a5 ((s_b0.trans (s_b1.trans (s_b2.trans (s_b3.trans (s_b4.trans (s_b5.trans (s_g1.trans (s_g2.trans (s_l4.trans (s_L)))))))))) _ _ h_a5)
    have p_b0 : b0 ≠ p := (hB.same c_H_a5).new n_b0
    have k_b0 := FZ _ _ p_b0 ((s_b1.trans (s_b2.trans (s_b3.trans (s_b4.trans (s_b5.trans (s_g1.trans (s_g2.trans (s_l4.trans (s_L))))))))) _ _ h_b0)
    have p_b1 : b1 ≠ p := (hB.same c_H_b0).new n_b1
    have k_b1 := FZ _ _ p_b1 ((s_b2.trans (s_b3.trans (s_b4.trans (s_b5.trans (s_g1.trans (s_g2.trans (s_l4.trans (s_L)))))))) _ _ h_b1)
    have p_b2 : b2 ≠ p := (hB.same c_H_b1).new n_b2
    have k_b2 := FZ _ _ p_b2 ((s_b3.trans (s_b4.trans (s_b5.trans (s_g1.trans (s_g2.trans (s_l4.trans (s_L))))))) _ _ h_b2)
    have p_b3 : b3 ≠ p := (hB.same c_H_b2).new n_b3
    have k_b3 := FZ _ _ p_b3 ((s_b4.trans (s_b5.trans (s_g1.trans (s_g2.trans (s_l4.trans (s_L)))))) _ _ h_b3)
    have p_b4 : b4 ≠ p := (hB.same c_H_b3).new n_b4
    have k_b4 := FZ _ _ p_b4 ((s_b5.trans (s_g1.trans (s_g2.trans (s_l4.trans (s_L))))) _ _ h_b4)
    have p_b5 : b5 ≠ p := (hB.same c_H_b4).new n_b5
    have k_b5 := FZ _ _ p_b5 ((s_g1.trans (s_g2.trans (s_l4.trans (s_L)))) _ _ h_b5)
    have p_g2 : g2 ≠ p := (hB.same c_H_g1).new n_g2
    have k_g2 := FZ _ _ p_g2 ((s_l4.trans (s_L)) _ _ h_g2)
    have FH : Fr p H HZ := (Fr.of c_H_L).trans FZ
    have kf := FH _ _ fp hf
    have tgz := TgAll.fr (q := p) (p := fun a => a = p) rfl tg hB FH
    have tk4 : Tg K (fun a => a = p) HZ 1000001 4 (.ref f) (.list dk) := tgz.l kf fp
    have ta0 : Tg K (fun a => a = p) HZ 1000001 1 (.ref a0) (.tuple []) := TgAll.nil.t (SqT.of k_a0)
    have ta1 : Tg K (fun a => a = p) HZ 1000001 2 (.ref a1) (.list [.tuple []]) := (TgAll.cons (ta0) .nil).l k_a1 p_a1
    have ta2 : Tg K (fun a => a = p) HZ 1000001 3 (.ref a2) (.list [.list [.tuple []]]) := (TgAll.cons (ta1) .nil).l k_a2 p_a2
    have ta3 : Tg K (fun a => a = p) HZ 1000001 4 (.ref a3) (.list [.list [.list [.tuple []]]]) := (TgAll.cons (ta2) .nil).l k_a3 p_a3
    have ta4 : Tg K (fun a => a = p) HZ 1000001 5 (.ref a4) (.list [.list [.list [.list [.tuple []]]]]) := (TgAll.cons (ta3) .nil).l k_a4 p_a4
    have ta5 : Tg K (fun a => a = p) HZ 1000001 6 (.ref a5) (.list [.list [.list [.list [.list [.tuple []]]]]]) := (TgAll.cons (ta4) .nil).l k_a5 p_a5
    have tb0 : Tg K (fun a => a = p) HZ 1000001 1 (.ref b0) (.tuple []) := TgAll.nil.t (SqT.of k_b0)
    have tb1 : Tg K (fun a => a = p) HZ 1000001 2 (.ref b1) (.tuple [.tuple []]) := (TgAll.cons (tb0) .nil).t (SqT.of k_b1)
    have tb2 : Tg K (fun a => a = p) HZ 1000001 3 (.ref b2) (.tuple [.tuple [.tuple []]]) := (TgAll.cons (tb1) .nil).t (SqT.of k_b2)
    have tb3 : Tg K (fun a => a = p) HZ 1000001 4 (.ref b3) (.tuple [.tuple [.tuple [.tuple []]]]) := (TgAll.cons (tb2) .nil).t (SqT.of k_b3)
    have tb4 : Tg K (fun a => a = p) HZ 1000001 5 (.ref b4) (.tuple [.tuple [.tuple [.tuple [.tuple []]]]]) := (TgAll.cons (tb3) .nil).t (SqT.of k_b4)
    have tb5 : Tg K (fun a => a = p) HZ 1000001 6 (.ref b5) (.tuple [.tuple [.tuple [.tuple [.tuple [.tuple []]]]]]) := (TgAll.cons (tb4) .nil).t (SqT.of k_b5)
    obtain ⟨v, d, ev, tv, wv⟩ : ∃ (v : V) (d : PyData), atI ([V.non, .int 0, .str "", .bl true, .ref e1, .ref e2, .ref e4, .ref e6, .ref tk, .ref e7, .ref c2, .str (strD (.list dk))] ++ [V.ref a5, .ref b5, x0, .ref g2]) z = some v ∧ TgS K (fun a => a = p) HZ 1000001 7 v d ∧ (isS d = true ∨ PyData.weight d ≤ 7000) := by
      have cs : z = 0 ∨ z = 1 ∨ z = 2 ∨ z = 3 ∨ z = 4 ∨ z = 5 ∨ z = 6 ∨ z = 7 ∨ z = 8 ∨ z = 9 ∨ z = 10 ∨ z = 11 ∨ z = 12 ∨ z = 13 ∨ z = 14 ∨ z = 15 := by omega
      rcases cs with e | e | e | e | e | e | e | e | e | e | e | e | e | e | e | e <;> subst e
      · exact ⟨.non, .none, rfl, .inl (.non _), .inr (by decide +kernel)⟩
      · exact ⟨.int 0, .int 0, rfl, .inl (.int _ _ (by decide)), .inr (by decide +kernel)⟩
      · exact ⟨.str "", .str "", rfl, .inl (.str _ _ 0 (by decide +kernel) (by decide +kernel)), .inl rfl⟩
      · exact ⟨.bl true, .bool true, rfl, .inl (.bl _ _), .inr (by decide +kernel)⟩
      · exact ⟨.ref e1, .tuple [], rfl, .inl ((TgAll.nil.t (n := 0) (SqT.of k_e1)).up (Nat.le_refl _) (by decide)), .inr (by decide +kernel)⟩
      · exact ⟨.ref e2, .list [], rfl, .inl ((TgAll.nil.l (n := 0) k_e2 p_e2).up (Nat.le_refl _) (by decide)), .inr (by decide +kernel)⟩
      · exact ⟨.ref e4, .list [.tuple []], rfl, .inl (((TgAll.cons (TgAll.nil.t (n := 0) (SqT.of k_e3)) .nil).l k_e4 p_e4).up (Nat.le_refl _) (by decide)), .inr (by decide +kernel)⟩
      · exact ⟨.ref e6, .list [.list []], rfl, .inl (((TgAll.cons (TgAll.nil.l (n := 0) k_e5 p_e5) .nil).l k_e6 p_e6).up (Nat.le_refl _) (by decide)), .inr (by decide +kernel)⟩
      · exact ⟨.ref tk, .tuple dk, rfl, .inl ((tgz.t (SqT.of k_tk)).up (Nat.le_refl _) (by decide)), .inr (by show PyData.weightAll dk ≤ 7000; omega)⟩
      · exact ⟨.ref e7, .list [.list dk], rfl, .inl (((TgAll.cons (tk4) .nil).l k_e7 p_e7).up (Nat.le_refl _) (by decide)), .inr (by show PyData.weightAll dk + 1 + 0 ≤ 7000; omega)⟩
      · exact ⟨.ref c2, .list (dk ++ dk ++ dk), rfl, .inl (((tgz.app tgz).app tgz |>.l k_c2 p_c2).up (Nat.le_refl _) (by decide)), .inr (by show PyData.weightAll (dk ++ dk ++ dk) ≤ 7000; rw [wa_app, wa_app]; omega)⟩
      · exact ⟨.str (strD (.list dk)), .str (strD (.list dk)), rfl, .inr ⟨_, rfl, rfl⟩, .inl rfl⟩
      · exact ⟨.ref a5, .list [.list [.list [.list [.list [.tuple []]]]]], rfl, .inl (ta5.up (Nat.le_refl _) (by decide)), .inr (by decide +kernel)⟩
      · exact ⟨.ref b5, .tuple [.tuple [.tuple [.tuple [.tuple [.tuple []]]]]], rfl, .inl (tb5.up (Nat.le_refl _) (by decide)), .inr (by decide +kernel)⟩
      · exact ⟨x0, d0, rfl, .inl ((tgz.2 0 x0 d0 ex0 ed0).up (Nat.le_refl _) (by decide)), .inr (by have := wa_at ed0; omega)⟩
      · exact ⟨.ref g2, .list (List.replicate xs.length .none), rfl, .inl (((rep_tg (n := 0) (.non 0)).l k_g2 p_g2).up (Nat.le_refl _) (by decide)), .inr (by have := wa_bd (w := 0) (ds := List.replicate xs.length PyData.none) (fun d hd => by rw [List.eq_of_mem_replicate hd]; exact Nat.le_refl _); rw [List.length_replicate] at this; show PyData.weightAll _ ≤ 7000; omega)⟩
    refine ⟨L, _, z, _, rfl, rfl, SqL.of (FZ _ _ Lp h_L), ev, ?_⟩
    exact q v d HZ (BZ.mono (by omega)) FH tv wv

end
end KR
namespace KR
open PySem PySem.Spec PyProof.Rows L2
section
variable {P : Program} {w : World} {K : PySem.W.Frag} {mg : Str → Option Value} {base : Heap}
def sp_p_is_number (K : PySem.W.Frag) : Sp := fun vs H Q _ => ∃ (Av : Addr → Prop) (B n : Nat) (v : V) (d : PyData), vs = [v] ∧ Tg K Av H B n v d ∧ Q (.bl (isI d)) H
theorem ok_p_is_number (T : All K mg) : FnOk P w K mg base CX0 1 T.f_p_is_number T.fd_p_is_number ["thing"] (sp_p_is_number K) := by
  refine T.d_p_is_number.fn.ok sc_p_is_number (fun vs H Q E h => ?_) (fun cdv A outer s H vs Q E hr h => ?_)
  · obtain ⟨Av, B, n, v, d, rfl, _⟩ := h
    rfl
  · obtain ⟨Av, B, n, v, d, rfl, h, q⟩ := h
    refine ⟨_, (pss_one (ps_ret (pe_and (pe_callB (isiK (K := K) rfl) (by rfl) T.b_isinstance (by decide +kernel) (pa_cons (pv 0) (pa_cons (pe_bltn (v := .ty "int") (by rfl) T.b_int (by decide +kernel) rfl) pa_nil))) (pe_one (pe_not (pe_callB (isiK (K := K) rfl) (by rfl) T.b_isinstance (by decide +kernel) (pa_cons (pv 0) (pa_cons (pe_bltn (v := .ty "bool") (by rfl) T.b_bool (by decide +kernel) rfl) pa_nil)))))))), ?_⟩
    obtain ⟨t, ty, _, _, ki, kb, _⟩ := h.ty
    cases e : isBo d with
    | true =>
      rw [boI e] at q
      rw [e, Bool.or_true] at ki
      rw [e] at kb
      refine ⟨_, rfl, _, _, _, _, _, rfl, .ty _, ty, kit_ty ki, _, rfl, ?_⟩
      refine iteT ?_
      refine ⟨_, rfl, _, _, _, _, _, rfl, .ty _, ty, kit_ty kb, _, rfl, ?_⟩
      exact q
    | false =>
      rw [e, Bool.or_false] at ki
      rw [e] at kb
      refine ⟨_, rfl, _, _, _, _, _, rfl, .ty _, ty, kit_ty ki, _, rfl, ?_⟩
      cases e2 : isI d with
      | true =>
        rw [e2] at q
        refine iteT ?_
        refine ⟨_, rfl, _, _, _, _, _, rfl, .ty _, ty, kit_ty kb, _, rfl, ?_⟩
        exact q
      | false =>
        rw [e2] at q
        refine iteF ?_
        exact q

end
end KR
namespace KR
open PySem PySem.Spec PyProof.Rows L2
section
variable {P : Program} {w : World} {K : PySem.W.Frag} {mg : Str → Option Value} {base : Heap}
def sp_p_is_number_within (K : PySem.W.Frag) : Sp := fun vs H Q _ => ∃ (Av : Addr → Prop) (B n : Nat) (v : V) (d : PyData) (l m : Int), vs = [v, .int l, .int m] ∧ Tg K Av H B n v d ∧ Q (.bl (numIn l m d)) H
theorem ok_p_is_number_within (T : All K mg) : FnOk P w K mg base CX0 2 T.f_p_is_number_within T.fd_p_is_number_within ["thing", "least", "most"] (sp_p_is_number_within K) := by
  refine T.d_p_is_number_within.fn.ok sc_p_is_number_within (fun vs H Q E h => ?_) (fun cdv A outer s H vs Q E hr h => ?_)
  · obtain ⟨Av, B, n, v, d, l, m, rfl, _⟩ := h
    rfl
  · obtain ⟨Av, B, n, v, d, l, m, rfl, h, q⟩ := h
    refine ⟨_, (pss_one (ps_ret (pe_and (pe_call (ok_p_is_number T) hr (by rfl) T.d_p_is_number.mg T.d_p_is_number.fn.kp T.d_p_is_number.b .nil pass0 (pa_cons (pv 0) pa_nil)) (pe_one (pe_chain op_le op_le (pv 1) (pv 0) (pv 2)))))), ?_⟩
    refine ⟨_, rfl, Av, B, n, v, d, rfl, h, _, rfl, ?_⟩
    cases e : isI d with
    | false =>
      rw [numIn_no e] at q
      exact iteF q
    | true =>
      obtain ⟨i, rfl, rfl, _⟩ := h.intI e
      refine iteT ?_
      refine ⟨_, rfl, _, rfl, _, _, rfl, rfl, _, rfl, ?_⟩
      have q2 : Q (.bl (decide (l ≤ i) && decide (i ≤ m))) H := q
      by_cases c : l ≤ i
      · refine ite_bT (decide_eq_true c) ?_
        refine ⟨_, rfl, _, _, rfl, rfl, ?_⟩
        rw [decide_eq_true c] at q2
        exact q2
      · refine ite_bF (decide_eq_false c) ?_
        rw [decide_eq_false c] at q2
        exact q2

end
end KR
namespace KR
open PySem PySem.Spec PyProof.Rows L2
section
variable {P : Program} {w : World} {K : PySem.W.Frag} {mg : Str → Option Value} {base : Heap}
def sp_p_is_frac (K : PySem.W.Frag) : Sp := fun vs H Q _ => ∃ (Av : Addr → Prop) (B n : Nat) (v : V) (d : PyData), vs = [v] ∧ Tg K Av H B n v d ∧ Q (.bl (fracD d)) H
theorem ok_p_is_frac (T : All K mg) : FnOk P w K mg base CX0 2 T.f_p_is_frac T.fd_p_is_frac ["thing"] (sp_p_is_frac K) := by
  refine T.d_p_is_frac.fn.ok sc_p_is_frac (fun vs H Q E h => ?_) (fun cdv A outer s H vs Q E hr h => ?_)
  · obtain ⟨Av, Bn, n, v, d, rfl, _⟩ := h
    rfl
  · obtain ⟨Av, Bn, n, v, d, rfl, hv, q⟩ := h
    refine ⟨_, (pss_cons (ps_if (PW.pt (pw_or (pt_not (pt_val (pe_callB (isiK (K := K) rfl) (by rfl) T.b_isinstance (by decide +kernel) (pa_cons (pv 0) (pa_cons (pe_bltn (v := .ty "tuple") (by rfl) T.b_tuple (by decide +kernel) rfl) pa_nil))))) (pw_or1 (pt_cmpR op_ne (pe_callB (lenQ (K := K) rfl) (by rfl) T.b_len PySem.boot_len (pa_cons (pv 0) pa_nil)) pe_int (nomark _))))) (pss_one (ps_ret pe_bl)) pss_nil)
      (pss_cons (ps_asg (pv 0) (pg_tupK (K := K) rfl rfl (pgs_cons (pg_name (i := 1) sc_p_is_frac.nd rfl (by first | exact Or.inl rfl | exact Or.inr rfl)) (pgs_cons (pg_name (i := 2) sc_p_is_frac.nd rfl (by first | exact Or.inl rfl | exact Or.inr rfl)) pgs_nil))))
      (pss_cons (ps_if (PW.pt (pw_or (pt_not (pt_val (pe_call (ok_p_is_number T) hr (by rfl) T.d_p_is_number.mg T.d_p_is_number.fn.kp T.d_p_is_number.b .nil pass0 (pa_cons (pv 1) pa_nil)))) (pw_or1 (pt_not (pt_val (pe_call (ok_p_is_number T) hr (by rfl) T.d_p_is_number.mg T.d_p_is_number.fn.kp T.d_p_is_number.b .nil pass0 (pa_cons (pv 2) pa_nil))))))) (pss_one (ps_ret pe_bl)) pss_nil)
      (pss_one (ps_ret (pe_and (pe_cmpR op_gt (pv 2) pe_int (nomark _)) (pe_one (pe_cmpR op_eq (pe_callBfun cr_gcd (by rfl) T.m_gcd (pa_cons (pv 1) (pa_cons (pv 2) pa_nil))) pe_int (nomark _))))))))), ?_⟩
    obtain ⟨ty, hty, _, kty, _, _, _⟩ := hv.ty
    refine ⟨_, rfl, _, _, _, _, _, rfl, .ty _, hty, kit_ty kty, ?_⟩
    cases et : isT d with
    | false =>
      rw [fracD_no et] at q
      exact ⟨_, rfl, iteT q⟩
    | true =>
    obtain ⟨a, xs, ds, m, rfl, rfl, rfl, sq, tg⟩ := hv.tupI et
    refine ⟨_, rfl, iteF ?_⟩
    refine ⟨_, rfl, a, _, rfl, .inr sq, rfl, _, rfl, ?_⟩
    by_cases cl : xs.length = 2
    rotate_left
    · rw [fracD_len (by rw [← tg.1]; exact cl)] at q
      exact ite_nT (by omega) q
    refine ite_nF (by omega) ?_
    obtain ⟨x1, x2, d1, d2, rfl, rfl, t1, t2⟩ := two tg cl
    refine ⟨_, rfl, a, _, rfl, sq, rfl, _, _, rfl, _, _, rfl, rfl, ?_⟩
    refine ⟨_, rfl, Av, Bn, m, x1, d1, rfl, t1, ?_⟩
    cases e1 : isI d1 with
    | false =>
      rw [fracD_i (.inl e1)] at q
      exact ⟨_, rfl, iteT q⟩
    | true =>
    obtain ⟨i, rfl, rfl, _⟩ := t1.intI e1
    refine ⟨_, rfl, iteF ?_⟩
    refine ⟨_, rfl, Av, Bn, m, x2, d2, rfl, t2, ?_⟩
    cases e2 : isI d2 with
    | false =>
      rw [fracD_i (.inr e2)] at q
      exact ⟨_, rfl, iteT q⟩
    | true =>
    obtain ⟨j, rfl, rfl, _⟩ := t2.intI e2
    refine ⟨_, rfl, iteF ?_⟩
    have q : Q (.bl (decide (0 < j) && decide (Nat.gcd i.natAbs j.natAbs = 1))) H := q
    refine ⟨_, rfl, _, _, rfl, rfl, _, rfl, ?_⟩
    by_cases c : 0 < j
    · refine ite_bT (decide_eq_true c) ?_
      refine ⟨_, rfl, _, rfl, _, _, rfl, rfl, ?_⟩
      rw [decide_eq_true c] at q
      have e : decide (V.int ((Nat.gcd i.natAbs j.natAbs : Nat) : Int) = V.int 1) = decide (Nat.gcd i.natAbs j.natAbs = 1) := by
        rw [decide_eq_decide]
        constructor
        · intro z
          injection z with z
          omega
        · intro z
          rw [z] <;> rfl
      rw [e]
      exact q
    · refine ite_bF (decide_eq_false c) ?_
      rw [decide_eq_false c] at q
      exact q

end
end KR
namespace KR
open PySem PySem.Spec PyProof.Rows L2
section
variable {P : Program} {w : World} {K : PySem.W.Frag} {mg : Str → Option Value} {base : Heap}
theorem fdivs {t b : Int} (hb : b ≠ 0) : (b < 0 → t.fdiv (-((Nat.gcd t.natAbs b.natAbs : Nat) : Int)) = (low t b).1 ∧ b.fdiv (-((Nat.gcd t.natAbs b.natAbs : Nat) : Int)) = (low t b).2) ∧
    (¬ b < 0 → t.fdiv ((Nat.gcd t.natAbs b.natAbs : Nat) : Int) = (low t b).1 ∧ b.fdiv ((Nat.gcd t.natAbs b.natAbs : Nat) : Int) = (low t b).2) := by
  have d1 : ((Nat.gcd t.natAbs b.natAbs : Nat) : Int) ∣ t := Int.ofNat_dvd_left.mpr (Nat.gcd_dvd_left _ _)
  have d2 : ((Nat.gcd t.natAbs b.natAbs : Nat) : Int) ∣ b := Int.ofNat_dvd_left.mpr (Nat.gcd_dvd_right _ _)
  have hg : 0 < Nat.gcd t.natAbs b.natAbs := Nat.gcd_pos_of_pos_right _ (by omega)
  unfold low
  generalize Nat.gcd t.natAbs b.natAbs = g at *
  refine ⟨fun c => ?_, fun c => ?_⟩
  · rw [fdiv_neg d1, fdiv_neg d2, if_pos c]
    refine ⟨rfl, ?_⟩
    have e : (b.natAbs : Int) = -b := by omega
    show b / (g : Int) * -1 = (b.natAbs : Int) / (g : Int)
    rw [e]
    obtain ⟨z, rfl⟩ := d2
    rw [Int.mul_ediv_cancel_left _ (by omega), ← Int.mul_neg, Int.mul_ediv_cancel_left _ (by omega)]
    omega
  · rw [if_neg c, Int.fdiv_eq_ediv_of_nonneg _ (by omega), Int.fdiv_eq_ediv_of_nonneg _ (by omega)]
    have e : (b.natAbs : Int) = b := by omega
    refine ⟨by omega, ?_⟩
    show b / (g : Int) = (b.natAbs : Int) / (g : Int)
    rw [e]
theorem ok0_p_frac_of (T : All K mg) : FnOk P w K mg base CX0 1 T.f_p_frac_of T.fd_p_frac_of ["top", "bottom"] sp_lowV := by
  refine T.d_p_frac_of.fn.ok sc_p_frac_of (fun vs H Q E h => ?_) (fun cdv A outer s H vs Q E hr h => ?_)
  · obtain ⟨t, b, rfl, _⟩ := h
    rfl
  · obtain ⟨t, b, rfl, hb, ht, hb2, q⟩ := h
    refine ⟨_, (pss_cons (ps_set (i := 2) sc_p_frac_of.nd rfl (by first | exact Or.inl rfl | exact Or.inr rfl) (pe_callBfun cr_gcd (by rfl) T.m_gcd (pa_cons (pv 0) (pa_cons (pv 1) pa_nil))))
      (pss_cons (ps_if (pt_cmpR op_lt (pv 1) pe_int (nomark _)) (pss_one (ps_set (i := 2) sc_p_frac_of.nd rfl (by first | exact Or.inl rfl | exact Or.inr rfl) (pe_un un_neg (pv 2)))) pss_nil)
      (pss_one (ps_ret (pe_tupI (pa_cons (pe_op op_fdivX (pv 0) (pv 2)) (pa_cons (pe_op op_fdivX (pv 1) (pv 2)) pa_nil))))))), ?_⟩
    have hg : 0 < Nat.gcd t.natAbs b.natAbs := Nat.gcd_pos_of_pos_right _ (by omega)
    have hg2 : Nat.gcd t.natAbs b.natAbs < 2 ^ 8900 := Nat.lt_of_le_of_lt (Nat.le_of_dvd (by omega) (Nat.gcd_dvd_right _ _)) hb2
    obtain ⟨k1, k2⟩ := fdivs (t := t) hb
    refine ⟨_, rfl, _, rfl, _, _, rfl, ?_⟩
    refine ⟨_, rfl, _, _, rfl, rfl, _, rfl, ite2 (fun c => ?_) (fun c => ?_)⟩
    · have c1 : b < 0 := of_decide_eq_true c
      have hd : ∀ z : Int, DivOk z (-((Nat.gcd t.natAbs b.natAbs : Nat) : Int)) := fun z => divOk (b := 8900) (by omega) (by rw [Int.natAbs_neg, Int.natAbs_natCast]; exact hg2) (by decide) (by decide)
      refine ⟨_, rfl, _, rfl, _, rfl, _, rfl, _, _, rfl, rfl, hd _, _, rfl, _, rfl, _, _, rfl, rfl, hd _, rfl, fun p H1 s1 hp h1 => ?_⟩
      refine q p H1 s1 hp ?_
      rw [← (k1 c1).1, ← (k1 c1).2]
      exact h1
    · have c1 : ¬ b < 0 := of_decide_eq_false (Bool.eq_false_iff.mpr c)
      have hd : ∀ z : Int, DivOk z ((Nat.gcd t.natAbs b.natAbs : Nat) : Int) := fun z => divOk (b := 8900) (by omega) (by rw [Int.natAbs_natCast]; exact hg2) (by decide) (by decide)
      refine ⟨_, rfl, _, rfl, _, _, rfl, rfl, hd _, _, rfl, _, rfl, _, _, rfl, rfl, hd _, rfl, fun p H1 s1 hp h1 => ?_⟩
      refine q p H1 s1 hp ?_
      rw [← (k2 c1).1, ← (k2 c1).2]
      exact h1
theorem ok_p_frac_of (T : All K mg) : FnOk P w K mg base CX0 1 T.f_p_frac_of T.fd_p_frac_of ["top", "bottom"] (sp_lowW K) := (ok0_p_frac_of T).imp fun _ _ _ _ h => lowW h

end
end KR
namespace KR
open PySem PySem.Spec PyProof.Rows L2
section
variable {P : Program} {w : World} {K : PySem.W.Frag} {mg : Str → Option Value} {base : Heap}
theorem ok_p_sum_of (T : All K mg) : FnOk P w K mg base CX0 2 T.f_p_sum_of T.fd_p_sum_of ["one", "other"] (sp_w2 K (fun p q => p + q) (fun _ q => True)) := by
  refine T.d_p_sum_of.fn.ok sc_p_sum_of (fun vs H Q E h => ?_) (fun cdv A outer s H vs Q E hr h => ?_)
  · obtain ⟨x, y, p, q, rfl, _⟩ := h
    rfl
  · obtain ⟨x, y, p, q, rfl, hx, hy, zp, zq, hok, k⟩ := h
    have hx' : SqT K H x [.int p.num, .int (p.den : Int)] := hx
    have hy' : SqT K H y [.int q.num, .int (q.den : Int)] := hy
    refine ⟨_, (pss_one (ps_ret (pe_call (ok_p_frac_of T) hr (by rfl) T.d_p_frac_of.mg T.d_p_frac_of.fn.kp T.d_p_frac_of.b .nil pass0 (pa_cons (pe_op op_add (pe_op op_mulX (pe_ix (ixT (K := K) rfl) (pv 0) pe_int (fun _ _ => rfl)) (pe_ix (ixT (K := K) rfl) (pv 1) pe_int (fun _ _ => rfl))) (pe_op op_mulX (pe_ix (ixT (K := K) rfl) (pv 1) pe_int (fun _ _ => rfl)) (pe_ix (ixT (K := K) rfl) (pv 0) pe_int (fun _ _ => rfl)))) (pa_cons (pe_op op_mulX (pe_ix (ixT (K := K) rfl) (pv 0) pe_int (fun _ _ => rfl)) (pe_ix (ixT (K := K) rfl) (pv 1) pe_int (fun _ _ => rfl))) pa_nil))))), ?_⟩
    obtain ⟨a1, a2⟩ := zp
    obtain ⟨b1, b2⟩ := zq
    have hp := den_ne' p
    have hq := den_ne' q
    refine ⟨_, rfl, x, _, 0, _, rfl, rfl, hx', at0, _, rfl, y, _, 1, _, rfl, rfl, hy', at1, _, _, rfl, rfl, mulZ a1 b2 (by omega), _, rfl, y, _, 0, _, rfl, rfl, hy', at0, _, rfl, x, _, 1, _, rfl, rfl, hx', at1, _, _, rfl, rfl, mulZ b1 a2 (by omega), _, _, rfl, rfl, ?_⟩
    refine ⟨_, rfl, x, _, 1, _, rfl, rfl, hx', at1, _, rfl, y, _, 1, _, rfl, rfl, hy', at1, _, _, rfl, rfl, mulZ a2 b2 (by omega), ?_⟩
    refine ⟨_, _, rfl, Int.mul_ne_zero hp hq, lt_up (add_lt (wide_lt a1 b2) (wide_lt b1 a2)) (by omega), lt_up (wide_lt a2 b2) (by omega), ?_⟩
    intro z H' s1 n1 h1
    rw [rq_add] at h1
    exact k z H' s1 n1 h1

end
end KR
namespace KR
open PySem PySem.Spec PyProof.Rows L2
section
variable {P : Program} {w : World} {K : PySem.W.Frag} {mg : Str → Option Value} {base : Heap}
def sp_p_sum_of_all (K : PySem.W.Frag) : Sp := fun vs H Q _ => ∃ (a : Addr) (l : List Fz) (p : Bool), vs = [.ref a] ∧ SqB K H a (rz l) p ∧ FL K H l ∧ (∀ z ∈ l, Big z.2) ∧ AddOk (l.map (·.2)) ∧ ∀ z H', Same H H' → FrQ K H' z (zsum (l.map (·.2))) → Q (.ref z) H'
theorem ok_p_sum_of_all (T : All K mg) : FnOk P w K mg base CX0 3 T.f_p_sum_of_all T.fd_p_sum_of_all ["ones"] (sp_p_sum_of_all K) := by
  refine T.d_p_sum_of_all.fn.ok sc_p_sum_of_all (fun vs H Q E h => ?_) (fun cdv A outer s H vs Q E hr h => ?_)
  · obtain ⟨a, l, p, rfl, _⟩ := h
    rfl
  · obtain ⟨a, l, p, rfl, ha, hf, big, add, q⟩ := h
    refine ⟨_, (pss_cons (ps_set (i := 1) sc_p_sum_of_all.nd rfl (by first | exact Or.inl rfl | exact Or.inr rfl) (pe_glob (v := .ref T.C_NOUGHT) rfl T.g_NOUGHT rfl))
      (pss_cons (ps_for PassesOwn.never rfl (pi_seqB (K := K) rfl (pv 0)) (pg_name (i := 2) sc_p_sum_of_all.nd rfl (by first | exact Or.inl rfl | exact Or.inr rfl)) (pss_one (ps_set (i := 1) sc_p_sum_of_all.nd rfl (by first | exact Or.inl rfl | exact Or.inr rfl) (pe_call (ok_p_sum_of T) hr (by rfl) T.d_p_sum_of.mg T.d_p_sum_of.fn.kp T.d_p_sum_of.b .nil pass0 (pa_cons (pv 1) (pa_cons (pv 2) pa_nil))))))
      (pss_one (ps_ret (pv 1))))), ?_⟩
    have s1 : Same H H := .refl _
    have h1 : FrQ K H T.C_NOUGHT 0 := T.q_NOUGHT H
    cases p with
    | true => exact ⟨_, rfl, a, rfl, .inl ⟨⟨_, s1.seq ha⟩, all_loop walk_list (fun H' s => s.seq ha) s1 h1 hf big add fun z v H' s hz => ⟨_, rfl, q z H' s hz⟩⟩⟩
    | false => exact ⟨_, rfl, a, rfl, .inr ⟨⟨_, Same.tup s1 ha⟩, all_loop walk_tup (fun H' s => Same.tup s ha) s1 h1 hf big add fun z v H' s hz => ⟨_, rfl, q z H' s hz⟩⟩⟩

end
end KR
namespace KR
open PySem PySem.Spec PyProof.Rows L2
section
variable {P : Program} {w : World} {K : PySem.W.Frag} {mg : Str → Option Value} {base : Heap}
def sp_p_is_lesser (K : PySem.W.Frag) : Sp := fun vs H Q _ => ∃ (x y : Addr) (p q : Rat), vs = [.ref x, .ref y] ∧ FrQ K H x p ∧ FrQ K H y q ∧ Big p ∧ Big q ∧ Q (.bl (decide (p < q))) H
theorem ok_p_is_lesser (T : All K mg) : FnOk P w K mg base CX0 3 T.f_p_is_lesser T.fd_p_is_lesser ["one", "other"] (sp_p_is_lesser K) := by
  refine T.d_p_is_lesser.fn.ok sc_p_is_lesser (fun vs H Q E h => ?_) (fun cdv A outer s H vs Q E hr h => ?_)
  · obtain ⟨x, y, p, q, rfl, _⟩ := h
    rfl
  · obtain ⟨x, y, p, q, rfl, hx, hy, zp, zq, k⟩ := h
    have hx' : SqT K H x [.int p.num, .int (p.den : Int)] := hx
    have hy' : SqT K H y [.int q.num, .int (q.den : Int)] := hy
    refine ⟨_, (pss_one (ps_ret (pe_and (pe_call (ok_p_is_frac T) hr (by rfl) T.d_p_is_frac.mg T.d_p_is_frac.fn.kp T.d_p_is_frac.b .nil pass0 (pa_cons (pv 1) pa_nil)) (pe_one (pe_cmpR op_lt (pe_op op_mulX (pe_ix (ixT (K := K) rfl) (pv 0) pe_int (fun _ _ => rfl)) (pe_ix (ixT (K := K) rfl) (pv 1) pe_int (fun _ _ => rfl))) (pe_op op_mulX (pe_ix (ixT (K := K) rfl) (pv 1) pe_int (fun _ _ => rfl)) (pe_ix (ixT (K := K) rfl) (pv 0) pe_int (fun _ _ => rfl))) (nomark _)))))), ?_⟩
    have ty : Tg K (fun _ => False) H (max q.num.natAbs q.den) 1 (.ref y) (dq q) := (TgAll.cons (.int _ _ (by omega)) (.cons (.int _ _ (by omega)) .nil)).t hy'
    have l := rat_low q
    have fq : fracD (dq q) = true := by
      show (decide (0 < (q.den : Int)) && decide (Nat.gcd q.num.natAbs (q.den : Int).natAbs = 1)) = true
      rw [decide_eq_true l.pos, decide_eq_true l.cop] <;> rfl
    refine ⟨_, rfl, _, _, _, _, _, rfl, ty, ?_⟩
    rw [fq]
    refine ⟨_, rfl, iteT ?_⟩
    obtain ⟨a1, a2⟩ := zp
    obtain ⟨b1, b2⟩ := zq
    refine ⟨_, rfl, x, _, 0, _, rfl, rfl, hx', at0, _, rfl, y, _, 1, _, rfl, rfl, hy', at1, _, _, rfl, rfl, mulZ a1 b2 (by omega), ?_⟩
    refine ⟨_, rfl, y, _, 0, _, rfl, rfl, hy', at0, _, rfl, x, _, 1, _, rfl, rfl, hx', at1, _, _, rfl, rfl, mulZ b1 a2 (by omega), _, _, rfl, rfl, ?_⟩
    have e : decide (p.num * (q.den : Int) < q.num * (p.den : Int)) = decide (p < q) := by
      rw [decide_eq_decide]
      exact lt_cross p q
    show Q (.bl (decide (p.num * (q.den : Int) < q.num * (p.den : Int)))) H
    rw [e]
    exact k

end
end KR
namespace KR
open PySem PySem.Spec PyProof.Rows L2
section
variable {P : Program} {w : World} {K : PySem.W.Frag} {mg : Str → Option Value} {base : Heap}
theorem Tg.frac {K : PySem.W.Frag} {Av : Addr → Prop} {H : Hp} {B n : Nat} {v : V} {d : PyData} (h : Tg K Av H B n v d) (e : fracD d = true) : ∃ (a : Addr) (i j : Int), v = .ref a ∧ d = .tuple [.int i, .int j] ∧ SqT K H a [.int i, .int j] := by
  have it : isT d = true := by
    cases c : isT d with
    | true => rfl
    | false =>
      rw [fracD_no c] at e
      cases e
  obtain ⟨a, xs, ds, m, rfl, rfl, rfl, sq, tg⟩ := h.tupI it
  have l2 : xs.length = 2 := by
    by_cases c : xs.length = 2
    · exact c
    · rw [fracD_len (by rw [← tg.1]; exact c)] at e
      cases e
  obtain ⟨x1, x2, d1, d2, rfl, rfl, g1, g2⟩ := two tg l2
  have i1 : isI d1 = true := by
    cases c : isI d1 with
    | true => rfl
    | false =>
      rw [fracD_i (.inl c)] at e
      cases e
  have i2 : isI d2 = true := by
    cases c : isI d2 with
    | true => rfl
    | false =>
      rw [fracD_i (.inr c)] at e
      cases e
  obtain ⟨i, rfl, rfl, _⟩ := g1.intI i1
  obtain ⟨j, rfl, rfl, _⟩ := g2.intI i2
  exact ⟨a, i, j, rfl, rfl, sq⟩
def sp_p__is_part (K : PySem.W.Frag) : Sp := fun vs H Q _ => ∃ (Av : Addr → Prop) (B n : Nat) (v : V) (d : PyData), vs = [v] ∧ Tg K Av H B n v d ∧ Q (.bl (partD d)) H
theorem ok_p__is_part (T : All K mg) : FnOk P w K mg base CX0 3 T.f_p__is_part T.fd_p__is_part ["thing"] (sp_p__is_part K) := by
  refine T.d_p__is_part.fn.ok sc_p__is_part (fun vs H Q E h => ?_) (fun cdv A outer s H vs Q E hr h => ?_)
  · obtain ⟨Av, Bn, n, v, d, rfl, _⟩ := h
    rfl
  · obtain ⟨Av, Bn, n, v, d, rfl, hv, q⟩ := h
    refine ⟨_, (pss_one (ps_ret (pe_and (pe_call (ok_p_is_frac T) hr (by rfl) T.d_p_is_frac.mg T.d_p_is_frac.fn.kp T.d_p_is_frac.b .nil pass0 (pa_cons (pv 0) pa_nil)) (pe_one (pe_chain3 op_le op_le op_le pe_int (pe_ix (ixT (K := K) rfl) (pv 0) pe_int (fun _ _ => rfl)) (pe_ix (ixT (K := K) rfl) (pv 0) pe_int (fun _ _ => rfl)) (pe_glob (v := .int 12) rfl T.c_MOST_BOTTOM ⟨_, rfl⟩)))))), ?_⟩
    have q : Q (.bl (fracD d && rngD d)) H := q
    refine ⟨_, rfl, Av, Bn, n, v, d, rfl, hv, _, rfl, ?_⟩
    cases e : fracD d with
    | false =>
      rw [e] at q
      exact iteF q
    | true =>
      rw [e] at q
      refine iteT ?_
      obtain ⟨a, i, j, rfl, rfl, hm⟩ := hv.frac e
      have q : Q (.bl (decide (0 ≤ i) && (decide (i ≤ j) && decide (j ≤ 12)))) H := q
      refine ⟨_, rfl, a, _, 0, _, rfl, rfl, hm, at0, _, _, rfl, rfl, _, rfl, ?_⟩
      by_cases c : 0 ≤ i
      · refine ite_bT (decide_eq_true c) ?_
        rw [decide_eq_true c] at q
        refine ⟨_, rfl, a, _, 1, _, rfl, rfl, hm, at1, _, _, rfl, rfl, _, rfl, ?_⟩
        by_cases c1 : i ≤ j
        · refine ite_bT (decide_eq_true c1) ?_
          rw [decide_eq_true c1] at q
          exact ⟨_, _, rfl, rfl, q⟩
        · refine ite_bF (decide_eq_false c1) ?_
          rw [decide_eq_false c1] at q
          exact q
      · refine ite_bF (decide_eq_false c) ?_
        rw [decide_eq_false c] at q
        exact q

end
end KR
namespace KR
open PySem PySem.Spec PyProof.Rows L2
section
variable {P : Program} {w : World} {K : PySem.W.Frag} {mg : Str → Option Value} {base : Heap}
def sp_p__are_goes (K : PySem.W.Frag) (P : Addr) : Sp := fun vs H Q _ => ∃ (Av : Addr → Prop) (B n : Nat) (v : V) (d : PyData) (h : Int), vs = [v, .int h] ∧ Tg K Av H B n v d ∧ GxR.TabG H P ∧ h ≤ 7 ∧ ∀ H', Sm H H' → Q (.bl (goesD h d)) H'
theorem ok_p__are_goes (T : All K mg) (B : Tabs T base) : FnOk P w K mg base CX0 5 T.f_p__are_goes T.fd_p__are_goes ["thing", "many"] (sp_p__are_goes K T.P_p__are_goes) := by
  refine T.k_p__are_goes.ok sc_p__are_goes (fun vs H Q E h => ?_) (fun cdv A outer s H vs Q E hc hr h => ?_)
  · obtain ⟨Av, Bn, n, v, d, h, rfl, _⟩ := h
    rfl
  · obtain ⟨Av, Bn, n, v, d, h, rfl, hv, hT, h7, q⟩ := h
    refine ⟨_, (pss_cons (ps_if (PW.pt (pw_or (pt_not (pt_val (pe_callB (isiK (K := K) rfl) (by rfl) T.b_isinstance (by decide +kernel) (pa_cons (pv 0) (pa_cons (pe_bltn (v := .ty "tuple") (by rfl) T.b_tuple (by decide +kernel) rfl) pa_nil))))) (pw_or (pt_cmpR op_ne (pe_callB (lenQ (K := K) rfl) (by rfl) T.b_len PySem.boot_len (pa_cons (pv 0) pa_nil)) (pv 1) (nomark _)) (pw_or1 (pt_not (pt_val (pe_allG hr (by rfl) T.b_all (by decide +kernel) B.t_p__are_goes hc ⟨rfl, rfl, by decide +kernel, by decide +kernel, rfl, rfl⟩ (pi_tupK (K := K) rfl (pv 0)) (fun _ _ _ _ _ _ => (pe_call (ok_p__is_part T) (room_gen hr) (by rfl) T.d_p__is_part.mg T.d_p__is_part.fn.kp T.d_p__is_part.b .nil pass0 (pa_cons (pv 0) pa_nil))) (by intro _; rfl)))))))) (pss_one (ps_ret pe_bl)) pss_nil)
      (pss_one (ps_ret (pe_not (pe_call (ok_p_is_lesser T) (hr.mono (by decide)) (by rfl) T.d_p_is_lesser.mg T.d_p_is_lesser.fn.kp T.d_p_is_lesser.b .nil pass0 (pa_cons (pe_glob (v := .ref T.C_ONE) rfl T.g_ONE rfl) (pa_cons (pe_call (ok_p_sum_of_all T) (hr.mono (by decide)) (by rfl) T.d_p_sum_of_all.mg T.d_p_sum_of_all.fn.kp T.d_p_sum_of_all.b .nil pass0 (pa_cons (pv 0) pa_nil)) pa_nil))))))), ?_⟩
    obtain ⟨ty, hty, _, kty, _, _, _⟩ := hv.ty
    refine ⟨_, rfl, _, _, _, _, _, rfl, .ty _, hty, kit_ty kty, ?_⟩
    cases et : isT d with
    | false =>
      rw [goesD_no et] at q
      exact ⟨_, rfl, iteT (q _ .refl)⟩
    | true =>
    obtain ⟨a, xs, ds, m, rfl, rfl, rfl, sq, tg⟩ := hv.tupI et
    refine ⟨_, rfl, iteF ?_⟩
    refine ⟨_, rfl, a, _, rfl, .inr sq, _, rfl, rfl, _, rfl, ?_⟩
    have q2 : ∀ H', Sm H H' → Q (.bl ((decide ((ds.length : Int) = h) && ds.all partD) && decide (zsum (ds.map ratD) ≤ 1))) H' := q
    by_cases cl : (xs.length : Int) = h
    rotate_left
    · rw [decide_eq_false (show ¬ (ds.length : Int) = h by rw [← tg.1]; exact cl)] at q2
      exact ite_nT cl (q2 _ .refl)
    rw [decide_eq_true (show (ds.length : Int) = h by rw [← tg.1]; exact cl)] at q2
    refine ite_nF cl ?_
    refine ⟨_, rfl, a, rfl, ⟨_, sq⟩, hT, xs.length, fun i H' => Sm H H' ∧ i ≤ xs.length ∧ (ds.take i).all partD = true, fun H2 tb => ⟨Sm.tabbed tb hT, Nat.zero_le _, rfl⟩, fun i H2 ⟨sm, le, al⟩ => ?_⟩
    by_cases c : i = xs.length
    · rw [List.take_of_length_le (by rw [← tg.1]; omega)] at al
      rw [al] at q2
      refine .inl ⟨⟨_, sm.tup sq, by omega⟩, _, rfl, iteF ?_⟩
      obtain ⟨l, rfl, fl, pa, ez⟩ := (tg.sm sm).parts al
      rw [← ez] at q2
      have ll : l.length ≤ 7 := by rw [rz_len] at cl; omega
      have add := parts_add (mem_q pa) (by rw [List.length_map]; exact ll)
      have bz : Big (zsum (l.map (·.2))) := by
        have z := add (l.map (·.2)).length (Nat.le_refl _)
        rw [List.take_length] at z
        exact z
      refine ⟨_, rfl, a, l, false, rfl, sm.tup sq, fl, fun z hz => part_big (pa z hz), add, fun wq H3 s3 hw => ?_⟩
      refine ⟨_, wq, 1, _, rfl, T.q_ONE H3, hw, part_big ⟨by decide, by decide, by decide⟩, bz, _, rfl, ?_⟩
      have e : (!decide ((1 : Rat) < zsum (l.map (·.2)))) = decide (zsum (l.map (·.2)) ≤ 1) := by
        by_cases c1 : (1 : Rat) < zsum (l.map (·.2))
        · rw [decide_eq_true c1, decide_eq_false (Rat.not_le.mpr c1)] <;> rfl
        · rw [decide_eq_false c1, decide_eq_true (Rat.not_lt.mp c1)] <;> rfl
      rw [e]
      exact q2 H3 (sm.trans (.of s3))
    · obtain ⟨x, e, ex, ee, tx⟩ := tg.at_ (i := i) (by omega)
      refine .inr ⟨⟨_, _, sm.tup sq, ex⟩, by omega, fun y H3 ⟨e3, hy⟩ => ?_⟩
      subst e3
      obtain rfl := Option.some.inj ((hy _ (sm.tup sq)).symm.trans ex)
      refine ⟨_, rfl, Av, Bn, m, y, e, rfl, tx.sm sm, ?_⟩
      cases ck : partD e with
      | true => exact ⟨true, rfl, sm, by omega, all_up al ee ck⟩
      | false =>
        rw [all_at ee ck] at q2
        exact ⟨false, rfl, _, rfl, iteT (q2 H3 sm)⟩

end
end KR
namespace KR
open PySem PySem.Spec PyProof.Rows L2
section
variable {P : Program} {w : World} {K : PySem.W.Frag} {mg : Str → Option Value} {base : Heap}
def sp_p__is_kind (K : PySem.W.Frag) (P : Addr) : Sp := fun vs H Q _ => ∃ (Av : Addr → Prop) (B n : Nat) (v : V) (d : PyData) (h : Int), vs = [v, .int h] ∧ Tg K Av H B n v d ∧ GxR.TabG H P ∧ h ≤ 7 ∧ ∀ H', Sm H H' → Q (.bl (kindD h d)) H'
theorem ok_p__is_kind (T : All K mg) (B : Tabs T base) : FnOk P w K mg base CX0 6 T.f_p__is_kind T.fd_p__is_kind ["thing", "many"] (sp_p__is_kind K T.P_p__are_goes) := by
  refine T.d_p__is_kind.fn.ok sc_p__is_kind (fun vs H Q E h => ?_) (fun cdv A outer s H vs Q E hr h => ?_)
  · obtain ⟨Av, Bn, n, v, d, h, rfl, _⟩ := h
    rfl
  · obtain ⟨Av, Bn, n, v, d, h, rfl, hv, hT, h7, q⟩ := h
    refine ⟨_, (pss_cons (ps_if (PW.pt (pw_or (pt_not (pt_val (pe_callB (isiK (K := K) rfl) (by rfl) T.b_isinstance (by decide +kernel) (pa_cons (pv 0) (pa_cons (pe_bltn (v := .ty "tuple") (by rfl) T.b_tuple (by decide +kernel) rfl) pa_nil))))) (pw_or1 (pt_cmpR op_ne (pe_callB (lenQ (K := K) rfl) (by rfl) T.b_len PySem.boot_len (pa_cons (pv 0) pa_nil)) pe_int (nomark _))))) (pss_one (ps_ret pe_bl)) pss_nil)
      (pss_cons (ps_asg (pv 0) (pg_tupK (K := K) rfl rfl (pgs_cons (pg_name (i := 2) sc_p__is_kind.nd rfl (by first | exact Or.inl rfl | exact Or.inr rfl)) (pgs_cons (pg_name (i := 3) sc_p__is_kind.nd rfl (by first | exact Or.inl rfl | exact Or.inr rfl)) (pgs_cons (pg_name (i := 4) sc_p__is_kind.nd rfl (by first | exact Or.inl rfl | exact Or.inr rfl)) pgs_nil)))))
      (pss_one (ps_ret (pe_and (pe_call (ok_p_is_number_within T) (hr.mono (by decide)) (by rfl) T.d_p_is_number_within.mg T.d_p_is_number_within.fn.kp T.d_p_is_number_within.b .nil pass0 (pa_cons (pv 2) (pa_cons pe_int (pa_cons (pe_glob (v := .int 1000000) rfl T.c_MOST_FRESH ⟨_, rfl⟩) pa_nil)))) (pe_and (pe_call (ok_p__is_part T) (hr.mono (by decide)) (by rfl) T.d_p__is_part.mg T.d_p__is_part.fn.kp T.d_p__is_part.b .nil pass0 (pa_cons (pv 3) pa_nil)) (pe_one (pe_call (ok_p__are_goes T B) hr (by rfl) T.d_p__are_goes.mg T.d_p__are_goes.fn.kp T.d_p__are_goes.b .nil pass0 (pa_cons (pv 4) (pa_cons (pv 1) pa_nil)))))))))), ?_⟩
    obtain ⟨ty, hty, _, kty, _, _, _⟩ := hv.ty
    refine ⟨_, rfl, _, _, _, _, _, rfl, .ty _, hty, kit_ty kty, ?_⟩
    cases et : isT d with
    | false =>
      rw [kindD_no et] at q
      exact ⟨_, rfl, iteT (q _ .refl)⟩
    | true =>
    obtain ⟨a, xs, ds, m, rfl, rfl, rfl, sq, tg⟩ := hv.tupI et
    refine ⟨_, rfl, iteF ?_⟩
    refine ⟨_, rfl, a, _, rfl, .inr sq, rfl, _, rfl, ?_⟩
    by_cases cl : xs.length = 3
    rotate_left
    · rw [kindD_len (by rw [← tg.1]; exact cl)] at q
      exact ite_nT (by omega) (q _ .refl)
    refine ite_nF (by omega) ?_
    obtain ⟨x1, x2, x3, d1, d2, d3, rfl, rfl, t1, t2, t3⟩ := threeT tg cl
    refine ⟨_, rfl, a, _, rfl, sq, rfl, _, _, rfl, _, _, rfl, _, _, rfl, rfl, ?_⟩
    refine ⟨_, rfl, Av, Bn, m, x1, d1, 0, 1000000, rfl, t1, _, rfl, ?_⟩
    have q2 : ∀ H', Sm H H' → Q (.bl (numIn 0 1000000 d1 && (partD d2 && goesD h d3))) H' := q
    cases c : numIn 0 1000000 d1 with
    | false =>
      rw [c] at q2
      exact iteF (q2 _ .refl)
    | true =>
      rw [c] at q2
      refine iteT ?_
      refine ⟨_, rfl, Av, Bn, m, x2, d2, rfl, t2, _, rfl, ?_⟩
      cases c2 : partD d2 with
      | false =>
        rw [c2] at q2
        exact iteF (q2 _ .refl)
      | true =>
        rw [c2] at q2
        refine iteT ?_
        exact ⟨_, rfl, _, rfl, Av, Bn, m, x3, d3, h, rfl, t3, hT, h7, q2⟩

end
end KR
namespace KR
open PySem PySem.Spec PyProof.Rows L2
section
variable {P : Program} {w : World} {K : PySem.W.Frag} {mg : Str → Option Value} {base : Heap}
def sp_p_are_kinds (K : PySem.W.Frag) (Ps : List Addr) : Sp := fun vs H Q _ => ∃ (Av : Addr → Prop) (B n : Nat) (v : V) (d : PyData), vs = [v] ∧ TgS K Av H B n v d ∧ Tbs Ps H ∧ ∀ H', Sm H H' → Q (.bl (kindsD d)) H'
theorem ok_p_are_kinds (T : All K mg) (B : Tabs T base) : FnOk P w K mg base CX0 8 T.f_p_are_kinds T.fd_p_are_kinds ["thing"] (sp_p_are_kinds K T.Ps) := by
  refine T.k_p_are_kinds.ok sc_p_are_kinds (fun vs H Q E h => ?_) (fun cdv A outer s H vs Q E hc hr h => ?_)
  · obtain ⟨Av, Bn, n, v, d, rfl, _⟩ := h
    rfl
  · obtain ⟨Av, Bn, n, v, d, rfl, hv, hT, q⟩ := h
    have t1 : GxR.TabG H T.P_p_are_kinds := hT _ (by simp [All.Ps])
    have t2 : GxR.TabG H T.P_p__are_goes := hT _ (by simp [All.Ps])
    refine ⟨_, (pss_cons (ps_if (PW.pt (pw_or (pt_not (pt_val (pe_callB (isiK (K := K) rfl) (by rfl) T.b_isinstance (by decide +kernel) (pa_cons (pv 0) (pa_cons (pe_bltn (v := .ty "list") (by rfl) T.b_list (by decide +kernel) rfl) pa_nil))))) (pw_or1 (pt_not (pt_chain op_le op_le pe_int (pe_callB (lenQ (K := K) rfl) (by rfl) T.b_len PySem.boot_len (pa_cons (pv 0) pa_nil)) (pe_glob (v := .int 6) rfl T.c_MOST_KINDS ⟨_, rfl⟩)))))) (pss_one (ps_ret pe_bl)) pss_nil)
      (pss_one (ps_ret (pe_allF (jy := 0) hr (by rfl) T.b_all (by decide +kernel) B.t_p_are_kinds hc ⟨rfl, rfl, by decide +kernel, by decide +kernel, fun _ => rfl, rfl, rfl, rfl⟩ rfl rfl (pi_listK (K := K) rfl (pv 0)) (fun _ _ _ _ _ _ _ => (pe_call (ok_p__is_kind T B) (room_gen hr) (by rfl) T.d_p__is_kind.mg T.d_p__is_kind.fn.kp T.d_p__is_kind.b .nil pass0 (pa_cons (pv 0) (pa_cons (pe_callB (lenQ (K := K) rfl) (by rfl) T.b_len PySem.boot_len (pa_cons (pv 1) pa_nil)) pa_nil)))) (by intro _; rfl))))), ?_⟩
    obtain ⟨ty, hty, kl, _⟩ := hv.kl
    refine ⟨_, rfl, _, _, _, _, _, rfl, .ty _, hty, kit_ty kl, ?_⟩
    cases el : isL d with
    | false =>
      rw [kindsD_no el] at q
      exact ⟨_, rfl, iteT (q _ .refl)⟩
    | true =>
    obtain ⟨f, ks, dk, m, rfl, rfl, rfl, hf, tg⟩ := (hv.tg (.inl el)).lstI el
    have lk : ks.length = dk.length := tg.1
    refine ⟨_, rfl, iteF ?_⟩
    have q2 : ∀ H', Sm H H' → Q (.bl ((decide (1 ≤ dk.length) && decide (dk.length ≤ 6)) && dk.all (kindD (dk.length : Int)))) H' := q
    refine ⟨_, rfl, f, _, rfl, .inl (SqL.of hf), _, _, rfl, rfl, _, rfl, ?_⟩
    by_cases c1 : 1 ≤ dk.length
    rotate_left
    · rw [decide_eq_false c1] at q2
      exact ite_bF (decide_eq_false (by omega)) ⟨_, rfl, iteT (q2 H .refl)⟩
    rw [decide_eq_true c1] at q2
    refine ite_bT (decide_eq_true (by omega)) ?_
    refine ⟨_, _, rfl, rfl, _, rfl, ?_⟩
    by_cases c6 : dk.length ≤ 6
    rotate_left
    · rw [decide_eq_false c6] at q2
      rw [decide_eq_false (show ¬ ((ks.length : Nat) : Int) ≤ 6 by omega)]
      exact iteT (q2 H .refl)
    rw [decide_eq_true c6] at q2
    rw [decide_eq_true (show ((ks.length : Nat) : Int) ≤ 6 by omega)]
    refine iteF ?_
    have q3 : ∀ H', Sm H H' → Q (.bl (dk.all (kindD (dk.length : Int)))) H' := q2
    refine ⟨_, rfl, f, rfl, ⟨_, SqL.of hf⟩, t1, .ref f, ks.length, fun i H' => Sm H H' ∧ i ≤ ks.length ∧ (dk.take i).all (kindD (dk.length : Int)) = true, rfl, fun H3 tb => ⟨Sm.tabbed tb t1, Nat.zero_le _, rfl⟩, fun i H3 ⟨sm, le, al⟩ => ?_⟩
    by_cases c : i = ks.length
    · rw [List.take_of_length_le (by omega)] at al
      rw [al] at q3
      exact .inl ⟨⟨_, sm.seq (SqL.of hf), by omega⟩, q3 H3 sm⟩
    · obtain ⟨x, e, ex, ee, tx⟩ := tg.at_ (i := i) (by omega)
      refine .inr ⟨⟨_, _, sm.seq (SqL.of hf), ex⟩, by omega, fun y H4 ⟨e3, hy⟩ => ?_⟩
      subst e3
      obtain rfl := Option.some.inj ((hy _ (sm.seq (SqL.of hf))).symm.trans ex)
      refine ⟨_, rfl, _, rfl, f, _, rfl, .inl (sm.seq (SqL.of hf)), ?_⟩
      rw [lk]
      refine ⟨Av, Bn, m, y, e, (dk.length : Int), rfl, tx.sm sm, sm.tab _ t2, by omega, fun H5 s5 => ?_⟩
      cases ck : kindD (dk.length : Int) e with
      | true => exact ⟨true, rfl, sm.trans s5, by omega, all_up al ee ck⟩
      | false =>
        rw [all_at ee ck] at q3
        exact ⟨false, rfl, q3 H5 (sm.trans s5)⟩

end
end KR
namespace KR
open PySem PySem.Spec PyProof.Rows L2
section
variable {P : Program} {w : World} {K : PySem.W.Frag} {mg : Str → Option Value} {base : Heap}
def sp_l_right (K : PySem.W.Frag) (Ps : List Addr) : Sp := fun vs H Q _ => ∃ (p : Addr) (nb : Nat), vs = [.ref p] ∧ BoxAt H p nb ∧ nb ≤ 1000 ∧ Tbs Ps H ∧ ∀ H', Fs p H H' → Q (.bl true) H'
theorem ok_l_right (T : All K mg) (B : Tabs T base) : FnG P w K mg base 9 T.f_l_right T.fd_l_right ["_law_box_here"] (sp_l_right K T.Ps) := by
  refine okG T.d_l_right.fn sc_l_right (fun vs H Q E h => ?_) (fun cdv A outer s H vs Q E hr hg h => ?_)
  · obtain ⟨p, nb, rfl, _⟩ := h
    rfl
  · obtain ⟨p, nb, rfl, hB, hnb, hT, q⟩ := h
    refine ⟨_, (pss_cons (ps_set (i := 1) sc_l_right.nd rfl (by first | exact Or.inl rfl | exact Or.inr rfl) (pe_call (ok_l_kinds T) (hr.mono (by decide)) (by rfl) T.d_l_kinds.mg T.d_l_kinds.fn.kp T.d_l_kinds.b .nil pass0 (pa_cons (pv 0) (pa_cons (pe_op op_add pe_int (pe_call (ok_l_take T) (hr.mono (by decide)) (by rfl) T.d_l_take.mg T.d_l_take.fn.kp T.d_l_take.b .nil pass0 (pa_cons (pv 0) (pa_cons pe_int pa_nil)))) pa_nil))))
      (pss_cons (ps_if (pt_cmpR op_notBl (pe_call (ok_p_are_kinds T B) hr (by rfl) T.d_p_are_kinds.mg T.d_p_are_kinds.fn.kp T.d_p_are_kinds.b .nil pass0 (pa_cons (pv 1) pa_nil)) pe_bl (nomark _)) (pss_one (ps_ret pe_bl)) pss_nil)
      (pss_cons (ps_for PassesOwn.never rfl (pi_range1 (by rfl) T.b_range (pa_cons pe_int pa_nil)) (pg_name (i := 2) sc_l_right.nd rfl (by first | exact Or.inl rfl | exact Or.inr rfl)) (pss_cons (ps_set (i := 3) sc_l_right.nd rfl (by first | exact Or.inl rfl | exact Or.inr rfl) (pe_callG (ok_l_bent T) (hr.mono (by decide)) hg (by rfl) T.d_l_bent.mg T.d_l_bent.fn.kp T.d_l_bent.b .nil pass0 (pa_cons (pv 0) (pa_cons (pv 1) (pa_cons pe_int pa_nil)))))
      (pss_cons (ps_J (ps_if (pt_cmpR op_gt (pv 2) pe_int (nomark _)) (pss_one (ps_set (i := 3) sc_l_right.nd rfl (by first | exact Or.inl rfl | exact Or.inr rfl) (pe_ifExp (pt_cmpR op_lt (pv 2) pe_int (nomark _)) (pe_call (ok_l_edge T) (hr.mono (by decide)) (by rfl) T.d_l_edge.mg T.d_l_edge.fn.kp T.d_l_edge.b .nil pass0 (pa_cons (pv 0) (pa_cons (pe_op op_add pe_int (pe_call (ok_l_take T) (hr.mono (by decide)) (by rfl) T.d_l_take.mg T.d_l_take.fn.kp T.d_l_take.b .nil pass0 (pa_cons (pv 0) (pa_cons pe_int pa_nil)))) pa_nil))) (pe_callG (ok_l_odd T) (hr.mono (by decide)) hg (by rfl) T.d_l_odd.mg T.d_l_odd.fn.kp T.d_l_odd.b .nil pass0 (pa_cons (pv 0) (pa_cons (pv 1) pa_nil)))))) pss_nil))
      (pss_cons (ps_J (ps_if (PW.pt (pw_and (pt_cmpR op_eq (pe_op op_mod (pv 2) pe_int) pe_int (nomark _)) (pw_and1 (pt_val (pe_callB (isiTK (K := K) rfl) (by rfl) T.b_isinstance (by decide +kernel) (pa_cons (pv 3) (pa_cons (pe_tupI (pa_cons (pe_bltn (v := .ty "list") (by rfl) T.b_list (by decide +kernel) rfl) (pa_cons (pe_bltn (v := .ty "tuple") (by rfl) T.b_tuple (by decide +kernel) rfl) pa_nil))) pa_nil))))))) (pss_one (ps_set (i := 3) sc_l_right.nd rfl (by first | exact Or.inl rfl | exact Or.inr rfl) (pe_callG (ok_l_bent T) (hr.mono (by decide)) hg (by rfl) T.d_l_bent.mg T.d_l_bent.fn.kp T.d_l_bent.b .nil pass0 (pa_cons (pv 0) (pa_cons (pv 3) (pa_cons pe_int pa_nil)))))) pss_nil))
      (pss_cons (ps_set (i := 4) sc_l_right.nd rfl (by first | exact Or.inl rfl | exact Or.inr rfl) (pe_callTy (cr_strV (K := K) rfl hg hr.units) (by rfl) T.b_str (by decide +kernel) (pa_cons (pv 3) pa_nil)))
      (pss_cons (ps_set (i := 5) sc_l_right.nd rfl (by first | exact Or.inl rfl | exact Or.inr rfl) (pe_call (ok_p_are_kinds T B) hr (by rfl) T.d_p_are_kinds.mg T.d_p_are_kinds.fn.kp T.d_p_are_kinds.b .nil pass0 (pa_cons (pv 3) pa_nil)))
      (pss_one (ps_if (PW.pt (pw_or (pt_not (pt_val (pe_callB (isiK (K := K) rfl) (by rfl) T.b_isinstance (by decide +kernel) (pa_cons (pv 5) (pa_cons (pe_bltn (v := .ty "bool") (by rfl) T.b_bool (by decide +kernel) rfl) pa_nil))))) (pw_or (pt_cmpR op_ne (pv 5) (pe_call (ok_l_due T) (hr.mono (by decide)) (by rfl) T.d_l_due.mg T.d_l_due.fn.kp T.d_l_due.b .nil pass0 (pa_cons (pv 3) pa_nil)) (nomark _)) (pw_or1 (pt_cmpR op_ne (pe_callTy (cr_strV (K := K) rfl hg hr.units) (by rfl) T.b_str (by decide +kernel) (pa_cons (pv 3) pa_nil)) (pv 4) (nomark _)))))) (pss_one (ps_ret pe_bl)) pss_nil))))))))
      (pss_one (ps_ret (pe_cmpR op_isBl (pe_call (ok_p_are_kinds T B) hr (by rfl) T.d_p_are_kinds.mg T.d_p_are_kinds.fn.kp T.d_p_are_kinds.b .nil pass0 (pa_cons (pv 1) pa_nil)) pe_bl (nomark _))))))), ?_⟩
    let Av : Addr → Prop := fun a => a = p
    have hAv : ∀ {Hx : Hp} {n : Nat}, BoxAt Hx p n → ∀ a, Av a → ∃ o, Hx a = some o := fun {Hx n} B a e => (show a = p from e) ▸ B.some
    refine ⟨_, rfl, _, rfl, p, 6, nb, rfl, hB, by omega, by decide, by decide, fun z H1 z0 z1 B1 F1 => ?_⟩
    obtain ⟨zn, rfl⟩ : ∃ zn : Nat, z = (zn : Int) := ⟨z.toNat, by omega⟩
    refine ⟨_, _, rfl, rfl, p, 1 + zn, nb + 1, rfl, B1, by omega, by omega, by omega, fun f ks H2 hf kn lk B2 F2 fp nf => ?_⟩
    have l1 : 1 ≤ ks.length := by omega
    have l6 : ks.length ≤ 6 := by omega
    have kn : KnL K H2 ks.length ks := by rw [lk]; exact kn
    have tk : Tg K Av H2 1000001 4 (.ref f) (.list (ks.map kindE)) := (kns_tg kn).l hf fp
    have wk : PyData.weight (.list (ks.map kindE)) ≤ 2040 := by
      have := kinds_wa l6 kn
      show PyData.weightAll (ks.map kindE) ≤ 2040
      omega
    have F02 : Fs p H H2 := .of (F1.trans F2)
    have hT2 : Tbs T.Ps H2 := (box_lst hB).elim fun _ z => hT.fs z F02
    refine ⟨_, rfl, Av, 1000001, 4, _, _, rfl, .inl tk, hT2, fun H3 s3 => ?_⟩
    rw [kinds_is kn l1 l6]
    refine ⟨_, _, rfl, rfl, _, rfl, iteF ?_⟩
    have B3 := B2.sm s3
    have hT3 := hT2.sm s3
    have tk3 := tk.sm s3
    have hf3 := s3.lst hf
    have kal := (kns_tg (Av := Av) kn).sm s3
    refine ⟨_, rfl, by decide, by decide, for_range (lo := 0) (n := 20) (fun k σ H' => ∃ (v3 v4 v5 v2 : Option V), σ = [some (.ref p), some (.ref f), v2, v3, v4, v5] ∧ Fs p H3 H' ∧ BoxAt H' p (nb + 400 + 100 * k))
      ⟨_, _, _, _, rfl, .refl, B3.mono (by omega)⟩ ?_ ?_⟩
    · rintro k σ H4 hk ⟨v3, v4, v5, v2, rfl, F4, B4⟩
      rw [Int.zero_add]
      have tk4 : Tg K Av H4 1000001 4 (.ref f) (.list (ks.map kindE)) := Tg.fs (p := Av) (q := p) rfl B3 F4 tk3
      have hf4 := F4.keep _ _ fp hf3 nofun
      refine ⟨_, rfl, _, rfl, p, Av, _, 4, 4, 1000001, 2040, .ref f, .list (ks.map kindE), rfl, rfl, hAv B4, B4, by omega, tk4, by decide, by decide, wk, by decide, by decide, by decide, by decide, fun va da H5 B5 F5 ta wa => ?_⟩
      have F35 : Fs p H3 H5 := F4.trans (.of F5)
      refine ⟨fun σ' H' => ∃ (v : V) (d : PyData), σ' = [some (.ref p), some (.ref f), some (.int (k : Int)), some v, v4, v5] ∧ Fs p H3 H' ∧ BoxAt H' p (nb + 400 + 100 * k + 50) ∧ TgS K Av H' 1000013 7 v d ∧ (isS d = true ∨ PyData.weight d ≤ 7000), ?_, ?_⟩
      rotate_left
      · refine ⟨_, rfl, _, _, rfl, rfl, _, rfl, ?_⟩
        by_cases c9 : 9 < k
        · refine ite_bT (decide_eq_true (by omega)) ?_
          refine ⟨_, rfl, _, _, rfl, rfl, _, rfl, ?_⟩
          by_cases c15 : k < 15
          · refine ite_bT (decide_eq_true (by omega)) ?_
            refine ⟨_, rfl, _, rfl, p, 7, _, rfl, B5, by omega, by decide, by decide, fun y H6 y0 y1 B6 F6 => ?_⟩
            obtain ⟨yn, rfl⟩ : ∃ yn : Nat, y = (yn : Int) := ⟨y.toNat, by omega⟩
            refine ⟨_, _, rfl, rfl, p, _, 1 + yn, rfl, B6, by omega, by omega, by omega, fun g d H7 B7 F7 tg wg => ?_⟩
            exact ⟨_, d, rfl, F35.trans (.of (F6.trans F7)), B7.mono (by omega), .inl (tg.up (by decide) (by decide)), .inr (by omega)⟩
          · refine ite_bF (decide_eq_false (by omega)) ?_
            have kal5 : TgAll K Av H5 1000001 3 (rk ks) (ks.map kindE) := ⟨kal.1, fun i x d e1 e2 => Tg.fs (p := Av) (q := p) rfl B3 F35 (kal.2 i x d e1 e2)⟩
            refine ⟨_, rfl, _, rfl, p, f, _, rk ks, ks.map kindE, rfl, B5, by omega, F35.keep _ _ fp hf3 nofun, fp, kal5, by rw [rk_len]; exact l1, by rw [rk_len]; exact l6, wk, fun v d H7 B7 F7 tv wv => ?_⟩
            exact ⟨v, d, rfl, F35.trans (.of F7), B7.mono (by omega), tv.imp (fun t => t.up (by decide) (by decide)) id, wv⟩
        · refine ite_bF (decide_eq_false (by omega)) ?_
          exact ⟨va, da, rfl, F35, B5.mono (by omega), .inl (ta.up (by decide) (by decide)), .inr (by omega)⟩
      rintro σ H6 ⟨vb, db, rfl, F6, B6, tb, wb⟩
      refine ⟨fun σ' H' => ∃ (v : V) (d : PyData), σ' = [some (.ref p), some (.ref f), some (.int (k : Int)), some v, v4, v5] ∧ Fs p H3 H' ∧ BoxAt H' p (nb + 400 + 100 * k + 100) ∧ TgS K Av H' 1000025 8 v d ∧ (isS d = true ∨ PyData.weight d ≤ 99000), ?_, ?_⟩
      rotate_left
      · have no : ∀ {Hx : Hp}, Sm H6 Hx → ∃ (v : V) (d : PyData), [some (V.ref p), some (.ref f), some (.int (k : Int)), some vb, v4, v5] = [some (V.ref p), some (.ref f), some (.int (k : Int)), some v, v4, v5] ∧ Fs p H3 Hx ∧ BoxAt Hx p (nb + 400 + 100 * k + 100) ∧ TgS K Av Hx 1000025 8 v d ∧ (isS d = true ∨ PyData.weight d ≤ 99000) := fun {Hx} s =>
          ⟨vb, db, rfl, F6.trans (.sm s), (B6.sm s).mono (by omega), (tb.sm s).imp (fun t => t.up (by decide) (by decide)) id, wb.imp id fun z => by omega⟩
        refine ⟨_, rfl, _, _, rfl, rfl, (by show (0 : Int) < 3; decide), rfl, _, rfl, ite2 (fun c => ?_) (fun c => no .refl)⟩
        obtain ⟨t, hty, kl, kt⟩ := tb.kl
        refine ⟨_, rfl, rfl, fun tp H7 s7 htp htp2 => ?_⟩
        obtain ⟨t', hty', kl', kt'⟩ := (tb.sm (.of s7)).kl
        cases er : (isL db || isT db) with
        | false =>
          have e1 : isL db = false := by cases h1 : isL db with | false => rfl | true => rw [h1] at er; cases er
          have e2 : isT db = false := by cases h1 : isT db with | false => rfl | true => rw [h1, Bool.or_true] at er; cases er
          rw [e1] at kl'
          rw [e2] at kt'
          refine ⟨_, tp, _, _, [.type "list", .type "tuple"], false, rfl, htp2, .cons (.ty _) (.cons (.ty _) .nil), hty', kitAny_cons (kit_ty kl') (fun _ => kitAny_cons (kit_ty kt') (fun _ => rfl) (fun z => nomatch z)) (fun z => nomatch z), _, rfl, iteF (no (.of s7))⟩
        | true =>
          refine ⟨_, tp, _, _, [.type "list", .type "tuple"], true, rfl, htp2, .cons (.ty _) (.cons (.ty _) .nil), hty', kitAny_cons (kit_ty kl') (fun e1 => kitAny_cons (kit_ty kt') (fun e2 => ?_) (fun _ => rfl)) (fun _ => rfl), _, rfl, iteT ?_⟩
          · rw [e1, e2] at er
            cases er
          · have tg7 : Tg K Av H7 1000013 7 vb db := (tb.tg (by
              cases h1 : isL db with
              | true => exact .inl rfl
              | false =>
                rw [h1, Bool.false_or] at er
                exact .inr er)).same s7
            have w7 : PyData.weight db ≤ 7000 := by
              rcases wb with z | z
              · cases db <;> first | (cases z; done) | (cases er; done)
              · exact z
            have B7 := B6.same s7
            refine ⟨_, rfl, _, rfl, p, Av, _, 4, 7, 1000013, 7000, vb, db, rfl, rfl, hAv B7, B7, by omega, tg7, by decide, by decide, w7, by decide, by decide, by decide, by decide, fun vc dc H8 B8 F8 tc wc => ?_⟩
            exact ⟨vc, dc, rfl, F6.trans ((Fs.sm (.of s7)).trans (.of F8)), B8.mono (by omega), .inl (tc.up (by decide) (by decide)), .inr (by omega)⟩
      rintro σ H8 ⟨v, d, rfl, F8, B8, tv, wv⟩
      have hT8 : Tbs T.Ps H8 := (box_lst B3).elim fun _ z => hT3.fs z F8
      have fin : isS d = true ∨ ∃ k w : Nat, Fine k w d ∧ k ≤ 60 ∧ w ≤ 100000 := by
        rcases tv with t | ⟨x, _, e⟩
        · rcases wv with z | z
          · exact .inl z
          · exact .inr ⟨8, 100000, t.show_ (by decide) (by omega), by decide, by decide⟩
        · exact .inl (by rw [e] <;> rfl)
      refine ⟨_, rfl, v, d, rfl, tv.dp, fin, ?_⟩
      refine ⟨_, rfl, Av, 1000025, 8, v, d, rfl, tv, hT8, fun H9 s9 => ?_⟩
      refine ⟨_, rfl, _, _, _, _, _, rfl, .ty _, .base (.bl _), kit_ty (show kitB "bool" "bool" = some true by decide +kernel), _, rfl, iteF ?_⟩
      refine ⟨_, rfl, _, rfl, Av, 1000025, 8, v, d, rfl, tv.sm s9, fun H10 s10 => ?_⟩
      refine ⟨rfl, _, rfl, ?_⟩
      rw [decide_eq_true rfl]
      refine iteF ?_
      have s810 := s9.trans (.of s10)
      refine ⟨_, rfl, v, d, rfl, (tv.sm s810).dp, fin, _, rfl, rfl, _, rfl, ?_⟩
      rw [decide_eq_true rfl]
      refine iteF ?_
      exact ⟨_, _, _, _, rfl, F8.trans (.sm s810), (B8.sm s810).mono (by omega)⟩
    · rintro σ H4 ⟨v3, v4, v5, v2, rfl, F4, B4⟩
      have tk4 : Tg K Av H4 1000001 4 (.ref f) (.list (ks.map kindE)) := Tg.fs (p := Av) (q := p) rfl B3 F4 tk3
      have hT4 : Tbs T.Ps H4 := (box_lst B3).elim fun _ z => hT3.fs z F4
      refine ⟨_, rfl, Av, 1000001, 4, _, _, rfl, .inl tk4, hT4, fun H5 s5 => ?_⟩
      rw [kinds_is kn l1 l6]
      refine ⟨_, _, rfl, rfl, ?_⟩
      exact q H5 (F02.trans ((Fs.sm s3).trans (F4.trans (.sm s5))))

end
end KR
namespace KR
open PySem PySem.Spec PyProof.Rows L2
section
variable {P : Program} {w : World} {K : PySem.W.Frag} {mg : Str → Option Value} {base : Heap}
def sp_p_law (K : PySem.W.Frag) (Ps : List Addr) : Sp := fun vs H Q _ => ∃ (a : Addr) (ns : List Int), vs = [.ref a] ∧ SqL K H a (ns.map V.int) ∧ ns.length ≤ 63 ∧ Tbs Ps H ∧ ∀ H', Q (.bl true) H'
theorem ok_p_law (T : All K mg) (B : Tabs T base) : FnG P w K mg base 10 T.f_p_law T.fd_p_law ["_law_script"] (sp_p_law K T.Ps) := by
  refine okG T.d_p_law.fn sc_p_law (fun vs H Q E h => ?_) (fun cdv A outer s H vs Q E hr hg h => ?_)
  · obtain ⟨a, ns, rfl, _⟩ := h
    rfl
  · obtain ⟨a, ns, rfl, hS, hlen, hT, q⟩ := h
    refine ⟨_, (pss_one (ps_ret (pe_callB (allK (K := K) rfl rfl) (by rfl) T.b_all (by decide +kernel) (pa_cons (pe_lc (own := [("_law_k", 1)]) (g := gName 1) (tt := tYes) (by rfl) sc_p_law.nd (pi_range1 (by rfl) T.b_range (pa_cons (pe_op op_add pe_int (pe_callB (call_min2 rfl) (by rfl) T.b_min (by decide +kernel) (pa_cons pe_int (pa_cons (pe_callB (lenQ (K := K) rfl) (by rfl) T.b_len PySem.boot_len (pa_cons (pv 0) pa_nil)) pa_nil)))) pa_nil)) (blkOk_by (own := [("_law_k", 1)]) (N := ["_law_script", "_law_k"]) (sc := defScope s_p_law) (by decide +kernel)) (fun _ _ _ _ _ => (pg_name (i := 1) sc_p_law.nd rfl (by first | exact Or.inl rfl | exact Or.inr rfl))) (fun _ _ _ _ _ => pts_nil) (fun _ _ _ _ _ => (pe_callG (ok_l_right T B) hr hg (by rfl) T.d_l_right.mg T.d_l_right.fn.kp T.d_l_right.b .nil pass0 (pa_cons (pe_call (ok_l_box T) (hr.mono (by decide)) (by rfl) T.d_l_box.mg T.d_l_box.fn.kp T.d_l_box.b .nil pass0 (pa_cons (pv 0) (pa_cons (pv 1) pa_nil))) pa_nil)))) pa_nil)))), ?_⟩
    refine ⟨_, rfl, a, _, rfl, .inl hS, _, _, rfl, _, _, rfl, rfl, _, rfl, ?_⟩
    rw [List.length_map]
    obtain ⟨m, em, m1⟩ : ∃ m : Nat, (1 + (if (ns.length : Int) < 3 then (ns.length : Int) else 3)) = (m : Int) ∧ m ≤ 4 := by
      refine ⟨(1 + (if (ns.length : Int) < 3 then (ns.length : Int) else 3)).toNat, ?_, ?_⟩ <;> split <;> omega
    dsimp only
    rw [em]
    refine ⟨by omega, by omega, fun D hD => ?_⟩
    refine lc_range (lo := 0) (n := m) (fun i H' => Sm H H' ∧ H' D = some (.lst (List.replicate i (.bl true)))) ⟨.of (same_new hD), upd_same⟩ (fun i H1 hi z => ?_) (fun H1 z => ?_)
    · obtain ⟨sm, hd⟩ := z
      refine ⟨rfl, yesT ?_⟩
      refine ⟨_, rfl, _, rfl, a, ns, _, rfl, sm.seq hS, by omega, by omega, fun p H2 s2 n2 B2 => ?_⟩
      refine ⟨p, 0, rfl, B2, by decide, (hT.sm sm).same s2, fun H3 F3 => ?_⟩
      have dp : D ≠ p := ne_of_none hd n2
      have s3 : Sm H1 H3 := sm_new_fs s2 n2 F3
      have hd3 := s3.lst hd
      refine ⟨_, hd3, by rw [List.length_replicate]; exact small' (by omega), Sm.put (sm.trans s3) hD, ?_⟩
      rw [upd_same, List.replicate_succ'] <;> rfl
    · obtain ⟨sm, hd⟩ := z
      obtain ⟨t1, t2⟩ := all_true m
      refine ⟨D, List.replicate m true, rfl, SqL.of (by rw [t1]; exact hd), ?_⟩
      rw [t2]
      exact q H1

end
end KR
namespace KR
open PySem PySem.Spec PyProof.Rows L2
theorem all_mk {l : PySem.W.OpenLaw} {w : World} {K : PySem.W.Frag} {h : Heap} {mg : Str → Option Value} {fa : Addr} (X : K.In h) (G : h.Ns mainGlobals mg) (hfa : mg "law" = some (.ref fa))
    {od0 an0 : Option Addr} {sl0 : Array (Option Value)} {oc0 kV0 dc0 pm0 cd0 ct0 : Value} {f0 : Addr}
    (a0 : PySem.W.nsIn K mainGlobals "is_number" = some (some (.ref f0))) (l0 : K.lookup f0 = some ⟨oc0, od0, .func (PySem.W.fnOf "is_number" "is_number" (defArgs s_p_is_number) (defBody s_p_is_number) (defScope s_p_is_number) .none kV0 dc0 pm0 an0 cd0 ct0), sl0⟩) (c0 : PySem.W.codeIn K cd0 "is_number" = true) (k0 : PySem.W.keepIn K (.ref f0) = true)
    {od1 an1 : Option Addr} {sl1 : Array (Option Value)} {oc1 kV1 dc1 pm1 cd1 ct1 : Value} {f1 : Addr}
    (a1 : PySem.W.nsIn K mainGlobals "is_number_within" = some (some (.ref f1))) (l1 : K.lookup f1 = some ⟨oc1, od1, .func (PySem.W.fnOf "is_number_within" "is_number_within" (defArgs s_p_is_number_within) (defBody s_p_is_number_within) (defScope s_p_is_number_within) .none kV1 dc1 pm1 an1 cd1 ct1), sl1⟩) (c1 : PySem.W.codeIn K cd1 "is_number_within" = true) (k1 : PySem.W.keepIn K (.ref f1) = true)
    {od2 an2 : Option Addr} {sl2 : Array (Option Value)} {oc2 kV2 dc2 pm2 cd2 ct2 : Value} {f2 : Addr}
    (a2 : PySem.W.nsIn K mainGlobals "is_frac" = some (some (.ref f2))) (l2 : K.lookup f2 = some ⟨oc2, od2, .func (PySem.W.fnOf "is_frac" "is_frac" (defArgs s_p_is_frac) (defBody s_p_is_frac) (defScope s_p_is_frac) .none kV2 dc2 pm2 an2 cd2 ct2), sl2⟩) (c2 : PySem.W.codeIn K cd2 "is_frac" = true) (k2 : PySem.W.keepIn K (.ref f2) = true)
    {od3 an3 : Option Addr} {sl3 : Array (Option Value)} {oc3 kV3 dc3 pm3 cd3 ct3 : Value} {f3 : Addr}
    (a3 : PySem.W.nsIn K mainGlobals "frac_of" = some (some (.ref f3))) (l3 : K.lookup f3 = some ⟨oc3, od3, .func (PySem.W.fnOf "frac_of" "frac_of" (defArgs s_p_frac_of) (defBody s_p_frac_of) (defScope s_p_frac_of) .none kV3 dc3 pm3 an3 cd3 ct3), sl3⟩) (c3 : PySem.W.codeIn K cd3 "frac_of" = true) (k3 : PySem.W.keepIn K (.ref f3) = true)
    {od4 an4 : Option Addr} {sl4 : Array (Option Value)} {oc4 kV4 dc4 pm4 cd4 ct4 : Value} {f4 : Addr}
    (a4 : PySem.W.nsIn K mainGlobals "sum_of" = some (some (.ref f4))) (l4 : K.lookup f4 = some ⟨oc4, od4, .func (PySem.W.fnOf "sum_of" "sum_of" (defArgs s_p_sum_of) (defBody s_p_sum_of) (defScope s_p_sum_of) .none kV4 dc4 pm4 an4 cd4 ct4), sl4⟩) (c4 : PySem.W.codeIn K cd4 "sum_of" = true) (k4 : PySem.W.keepIn K (.ref f4) = true)
    {od5 an5 : Option Addr} {sl5 : Array (Option Value)} {oc5 kV5 dc5 pm5 cd5 ct5 : Value} {f5 : Addr}
    (a5 : PySem.W.nsIn K mainGlobals "sum_of_all" = some (some (.ref f5))) (l5 : K.lookup f5 = some ⟨oc5, od5, .func (PySem.W.fnOf "sum_of_all" "sum_of_all" (defArgs s_p_sum_of_all) (defBody s_p_sum_of_all) (defScope s_p_sum_of_all) .none kV5 dc5 pm5 an5 cd5 ct5), sl5⟩) (c5 : PySem.W.codeIn K cd5 "sum_of_all" = true) (k5 : PySem.W.keepIn K (.ref f5) = true)
    {od6 an6 : Option Addr} {sl6 : Array (Option Value)} {oc6 kV6 dc6 pm6 cd6 ct6 : Value} {f6 : Addr}
    (a6 : PySem.W.nsIn K mainGlobals "is_lesser" = some (some (.ref f6))) (l6 : K.lookup f6 = some ⟨oc6, od6, .func (PySem.W.fnOf "is_lesser" "is_lesser" (defArgs s_p_is_lesser) (defBody s_p_is_lesser) (defScope s_p_is_lesser) .none kV6 dc6 pm6 an6 cd6 ct6), sl6⟩) (c6 : PySem.W.codeIn K cd6 "is_lesser" = true) (k6 : PySem.W.keepIn K (.ref f6) = true)
    {od7 an7 : Option Addr} {sl7 : Array (Option Value)} {oc7 kV7 dc7 pm7 ct7 : Value} {f7 C7 P7 : Addr}
    (a7 : PySem.W.nsIn K mainGlobals "are_kinds" = some (some (.ref f7))) (l7 : K.lookup f7 = some ⟨oc7, od7, .func (PySem.W.fnOf "are_kinds" "are_kinds" (defArgs s_p_are_kinds) (defBody s_p_are_kinds) (defScope s_p_are_kinds) .none kV7 dc7 pm7 an7 (.ref C7) ct7), sl7⟩) (c7 : PySem.W.codeIn K (.ref C7) "are_kinds" = true) (k7 : PySem.W.keepIn K (.ref f7) = true)
    {te7 : Value} {td7 : Option Addr} {tv7 : Array Value} {ts7 : Array (Option Value)} (q7 : K.lookup C7 = some ⟨te7, td7, .fields tv7, ts7⟩) (p7 : tv7[11]? = some (.ref P7)) (n7 : K.lookup P7 = none)
    {od8 an8 : Option Addr} {sl8 : Array (Option Value)} {oc8 kV8 dc8 pm8 cd8 ct8 : Value} {f8 : Addr}
    (a8 : PySem.W.nsIn K mainGlobals "_is_kind" = some (some (.ref f8))) (l8 : K.lookup f8 = some ⟨oc8, od8, .func (PySem.W.fnOf "_is_kind" "_is_kind" (defArgs s_p__is_kind) (defBody s_p__is_kind) (defScope s_p__is_kind) .none kV8 dc8 pm8 an8 cd8 ct8), sl8⟩) (c8 : PySem.W.codeIn K cd8 "_is_kind" = true) (k8 : PySem.W.keepIn K (.ref f8) = true)
    {od9 an9 : Option Addr} {sl9 : Array (Option Value)} {oc9 kV9 dc9 pm9 ct9 : Value} {f9 C9 P9 : Addr}
    (a9 : PySem.W.nsIn K mainGlobals "_are_goes" = some (some (.ref f9))) (l9 : K.lookup f9 = some ⟨oc9, od9, .func (PySem.W.fnOf "_are_goes" "_are_goes" (defArgs s_p__are_goes) (defBody s_p__are_goes) (defScope s_p__are_goes) .none kV9 dc9 pm9 an9 (.ref C9) ct9), sl9⟩) (c9 : PySem.W.codeIn K (.ref C9) "_are_goes" = true) (k9 : PySem.W.keepIn K (.ref f9) = true)
    {te9 : Value} {td9 : Option Addr} {tv9 : Array Value} {ts9 : Array (Option Value)} (q9 : K.lookup C9 = some ⟨te9, td9, .fields tv9, ts9⟩) (p9 : tv9[11]? = some (.ref P9)) (n9 : K.lookup P9 = none)
    {od10 an10 : Option Addr} {sl10 : Array (Option Value)} {oc10 kV10 dc10 pm10 cd10 ct10 : Value} {f10 : Addr}
    (a10 : PySem.W.nsIn K mainGlobals "_is_part" = some (some (.ref f10))) (l10 : K.lookup f10 = some ⟨oc10, od10, .func (PySem.W.fnOf "_is_part" "_is_part" (defArgs s_p__is_part) (defBody s_p__is_part) (defScope s_p__is_part) .none kV10 dc10 pm10 an10 cd10 ct10), sl10⟩) (c10 : PySem.W.codeIn K cd10 "_is_part" = true) (k10 : PySem.W.keepIn K (.ref f10) = true)
    {od11 an11 : Option Addr} {sl11 : Array (Option Value)} {oc11 kV11 dc11 pm11 cd11 ct11 : Value} {f11 : Addr}
    (a11 : PySem.W.nsIn K mainGlobals "_law_cell_at" = some (some (.ref f11))) (l11 : K.lookup f11 = some ⟨oc11, od11, .func (PySem.W.fnOf "_law_cell_at" "_law_cell_at" (defArgs s_l_cell_at) (defBody s_l_cell_at) (defScope s_l_cell_at) .none kV11 dc11 pm11 an11 cd11 ct11), sl11⟩) (c11 : PySem.W.codeIn K cd11 "_law_cell_at" = true) (k11 : PySem.W.keepIn K (.ref f11) = true)
    {od12 an12 : Option Addr} {sl12 : Array (Option Value)} {oc12 kV12 dc12 pm12 cd12 ct12 : Value} {f12 : Addr}
    (a12 : PySem.W.nsIn K mainGlobals "_law_box" = some (some (.ref f12))) (l12 : K.lookup f12 = some ⟨oc12, od12, .func (PySem.W.fnOf "_law_box" "_law_box" (defArgs s_l_box) (defBody s_l_box) (defScope s_l_box) .none kV12 dc12 pm12 an12 cd12 ct12), sl12⟩) (c12 : PySem.W.codeIn K cd12 "_law_box" = true) (k12 : PySem.W.keepIn K (.ref f12) = true)
    {od13 an13 : Option Addr} {sl13 : Array (Option Value)} {oc13 kV13 dc13 pm13 cd13 ct13 : Value} {f13 : Addr}
    (a13 : PySem.W.nsIn K mainGlobals "_law_take" = some (some (.ref f13))) (l13 : K.lookup f13 = some ⟨oc13, od13, .func (PySem.W.fnOf "_law_take" "_law_take" (defArgs s_l_take) (defBody s_l_take) (defScope s_l_take) .none kV13 dc13 pm13 an13 cd13 ct13), sl13⟩) (c13 : PySem.W.codeIn K cd13 "_law_take" = true) (k13 : PySem.W.keepIn K (.ref f13) = true)
    {od14 an14 : Option Addr} {sl14 : Array (Option Value)} {oc14 kV14 dc14 pm14 cd14 ct14 : Value} {f14 : Addr}
    (a14 : PySem.W.nsIn K mainGlobals "_law_low" = some (some (.ref f14))) (l14 : K.lookup f14 = some ⟨oc14, od14, .func (PySem.W.fnOf "_law_low" "_law_low" (defArgs s_l_low) (defBody s_l_low) (defScope s_l_low) .none kV14 dc14 pm14 an14 cd14 ct14), sl14⟩) (c14 : PySem.W.codeIn K cd14 "_law_low" = true) (k14 : PySem.W.keepIn K (.ref f14) = true)
    {od15 an15 : Option Addr} {sl15 : Array (Option Value)} {oc15 kV15 dc15 pm15 cd15 ct15 : Value} {f15 : Addr}
    (a15 : PySem.W.nsIn K mainGlobals "_law_plus" = some (some (.ref f15))) (l15 : K.lookup f15 = some ⟨oc15, od15, .func (PySem.W.fnOf "_law_plus" "_law_plus" (defArgs s_l_plus) (defBody s_l_plus) (defScope s_l_plus) .none kV15 dc15 pm15 an15 cd15 ct15), sl15⟩) (c15 : PySem.W.codeIn K cd15 "_law_plus" = true) (k15 : PySem.W.keepIn K (.ref f15) = true)
    {od16 an16 : Option Addr} {sl16 : Array (Option Value)} {oc16 kV16 dc16 pm16 cd16 ct16 : Value} {f16 : Addr}
    (a16 : PySem.W.nsIn K mainGlobals "_law_all" = some (some (.ref f16))) (l16 : K.lookup f16 = some ⟨oc16, od16, .func (PySem.W.fnOf "_law_all" "_law_all" (defArgs s_l_all) (defBody s_l_all) (defScope s_l_all) .none kV16 dc16 pm16 an16 cd16 ct16), sl16⟩) (c16 : PySem.W.codeIn K cd16 "_law_all" = true) (k16 : PySem.W.keepIn K (.ref f16) = true)
    {od17 an17 : Option Addr} {sl17 : Array (Option Value)} {oc17 kV17 dc17 pm17 cd17 ct17 : Value} {f17 : Addr}
    (a17 : PySem.W.nsIn K mainGlobals "_law_goes" = some (some (.ref f17))) (l17 : K.lookup f17 = some ⟨oc17, od17, .func (PySem.W.fnOf "_law_goes" "_law_goes" (defArgs s_l_goes) (defBody s_l_goes) (defScope s_l_goes) .none kV17 dc17 pm17 an17 cd17 ct17), sl17⟩) (c17 : PySem.W.codeIn K cd17 "_law_goes" = true) (k17 : PySem.W.keepIn K (.ref f17) = true)
    {od18 an18 : Option Addr} {sl18 : Array (Option Value)} {oc18 kV18 dc18 pm18 cd18 ct18 : Value} {f18 : Addr}
    (a18 : PySem.W.nsIn K mainGlobals "_law_kinds" = some (some (.ref f18))) (l18 : K.lookup f18 = some ⟨oc18, od18, .func (PySem.W.fnOf "_law_kinds" "_law_kinds" (defArgs s_l_kinds) (defBody s_l_kinds) (defScope s_l_kinds) .none kV18 dc18 pm18 an18 cd18 ct18), sl18⟩) (c18 : PySem.W.codeIn K cd18 "_law_kinds" = true) (k18 : PySem.W.keepIn K (.ref f18) = true)
    {od19 an19 : Option Addr} {sl19 : Array (Option Value)} {oc19 kV19 dc19 pm19 cd19 ct19 : Value} {f19 : Addr}
    (a19 : PySem.W.nsIn K mainGlobals "_law_bent" = some (some (.ref f19))) (l19 : K.lookup f19 = some ⟨oc19, od19, .func (PySem.W.fnOf "_law_bent" "_law_bent" (defArgs s_l_bent) (defBody s_l_bent) (defScope s_l_bent) .none kV19 dc19 pm19 an19 cd19 ct19), sl19⟩) (c19 : PySem.W.codeIn K cd19 "_law_bent" = true) (k19 : PySem.W.keepIn K (.ref f19) = true)
    {od20 an20 : Option Addr} {sl20 : Array (Option Value)} {oc20 kV20 dc20 pm20 cd20 ct20 : Value} {f20 : Addr}
    (a20 : PySem.W.nsIn K mainGlobals "_law_is_whole" = some (some (.ref f20))) (l20 : K.lookup f20 = some ⟨oc20, od20, .func (PySem.W.fnOf "_law_is_whole" "_law_is_whole" (defArgs s_l_is_whole) (defBody s_l_is_whole) (defScope s_l_is_whole) .none kV20 dc20 pm20 an20 cd20 ct20), sl20⟩) (c20 : PySem.W.codeIn K cd20 "_law_is_whole" = true) (k20 : PySem.W.keepIn K (.ref f20) = true)
    {od21 an21 : Option Addr} {sl21 : Array (Option Value)} {oc21 kV21 dc21 pm21 cd21 ct21 : Value} {f21 : Addr}
    (a21 : PySem.W.nsIn K mainGlobals "_law_is_part" = some (some (.ref f21))) (l21 : K.lookup f21 = some ⟨oc21, od21, .func (PySem.W.fnOf "_law_is_part" "_law_is_part" (defArgs s_l_is_part) (defBody s_l_is_part) (defScope s_l_is_part) .none kV21 dc21 pm21 an21 cd21 ct21), sl21⟩) (c21 : PySem.W.codeIn K cd21 "_law_is_part" = true) (k21 : PySem.W.keepIn K (.ref f21) = true)
    {od22 an22 : Option Addr} {sl22 : Array (Option Value)} {oc22 kV22 dc22 pm22 cd22 ct22 : Value} {f22 : Addr}
    (a22 : PySem.W.nsIn K mainGlobals "_law_due" = some (some (.ref f22))) (l22 : K.lookup f22 = some ⟨oc22, od22, .func (PySem.W.fnOf "_law_due" "_law_due" (defArgs s_l_due) (defBody s_l_due) (defScope s_l_due) .none kV22 dc22 pm22 an22 cd22 ct22), sl22⟩) (c22 : PySem.W.codeIn K cd22 "_law_due" = true) (k22 : PySem.W.keepIn K (.ref f22) = true)
    {od23 an23 : Option Addr} {sl23 : Array (Option Value)} {oc23 kV23 dc23 pm23 cd23 ct23 : Value} {f23 : Addr}
    (a23 : PySem.W.nsIn K mainGlobals "_law_edge" = some (some (.ref f23))) (l23 : K.lookup f23 = some ⟨oc23, od23, .func (PySem.W.fnOf "_law_edge" "_law_edge" (defArgs s_l_edge) (defBody s_l_edge) (defScope s_l_edge) .none kV23 dc23 pm23 an23 cd23 ct23), sl23⟩) (c23 : PySem.W.codeIn K cd23 "_law_edge" = true) (k23 : PySem.W.keepIn K (.ref f23) = true)
    {od24 an24 : Option Addr} {sl24 : Array (Option Value)} {oc24 kV24 dc24 pm24 cd24 ct24 : Value} {f24 : Addr}
    (a24 : PySem.W.nsIn K mainGlobals "_law_odd" = some (some (.ref f24))) (l24 : K.lookup f24 = some ⟨oc24, od24, .func (PySem.W.fnOf "_law_odd" "_law_odd" (defArgs s_l_odd) (defBody s_l_odd) (defScope s_l_odd) .none kV24 dc24 pm24 an24 cd24 ct24), sl24⟩) (c24 : PySem.W.codeIn K cd24 "_law_odd" = true) (k24 : PySem.W.keepIn K (.ref f24) = true)
    {od25 an25 : Option Addr} {sl25 : Array (Option Value)} {oc25 kV25 dc25 pm25 cd25 ct25 : Value} {f25 : Addr}
    (a25 : PySem.W.nsIn K mainGlobals "_law_right" = some (some (.ref f25))) (l25 : K.lookup f25 = some ⟨oc25, od25, .func (PySem.W.fnOf "_law_right" "_law_right" (defArgs s_l_right) (defBody s_l_right) (defScope s_l_right) .none kV25 dc25 pm25 an25 cd25 ct25), sl25⟩) (c25 : PySem.W.codeIn K cd25 "_law_right" = true) (k25 : PySem.W.keepIn K (.ref f25) = true)
    {od26 an26 : Option Addr} {sl26 : Array (Option Value)} {oc26 kV26 dc26 pm26 cd26 ct26 : Value} {f26 : Addr}
    (a26 : PySem.W.nsIn K mainGlobals "law" = some (some (.ref f26))) (l26 : K.lookup f26 = some ⟨oc26, od26, .func (PySem.W.fnOf "law" "law" (defArgs s_p_law) (defBody s_p_law) (defScope s_p_law) .none kV26 dc26 pm26 an26 cd26 ct26), sl26⟩) (c26 : PySem.W.codeIn K cd26 "law" = true) (k26 : PySem.W.keepIn K (.ref f26) = true)
    (z_abs : PySem.W.nsIn K mainGlobals "abs" = some none)
    (z_all : PySem.W.nsIn K mainGlobals "all" = some none)
    (z_bool : PySem.W.nsIn K mainGlobals "bool" = some none)
    (z_int : PySem.W.nsIn K mainGlobals "int" = some none)
    (z_isinstance : PySem.W.nsIn K mainGlobals "isinstance" = some none)
    (z_len : PySem.W.nsIn K mainGlobals "len" = some none)
    (z_list : PySem.W.nsIn K mainGlobals "list" = some none)
    (z_min : PySem.W.nsIn K mainGlobals "min" = some none)
    (z_range : PySem.W.nsIn K mainGlobals "range" = some none)
    (z_str : PySem.W.nsIn K mainGlobals "str" = some none)
    (z_tuple : PySem.W.nsIn K mainGlobals "tuple" = some none)
    (z_gcd : PySem.W.nsIn K mainGlobals "gcd" = some (some (.builtin "math.gcd")))
    {t_MOST_KINDS : Tok} (z_MOST_KINDS : PySem.W.nsIn K mainGlobals "MOST_KINDS" = some (some (.int 6 t_MOST_KINDS)))
    {t_MOST_FRESH : Tok} (z_MOST_FRESH : PySem.W.nsIn K mainGlobals "MOST_FRESH" = some (some (.int 1000000 t_MOST_FRESH)))
    {t_MOST_BOTTOM : Tok} (z_MOST_BOTTOM : PySem.W.nsIn K mainGlobals "MOST_BOTTOM" = some (some (.int 12 t_MOST_BOTTOM)))
    {a_NOUGHT : Addr} {od_NOUGHT : Option Addr} {n_NOUGHT : Nat} {sl_NOUGHT : Array (Option Value)} {t_NOUGHT_0 t_NOUGHT_1 : Tok} (z_NOUGHT : PySem.W.nsIn K mainGlobals "NOUGHT" = some (some (.ref a_NOUGHT))) (l_NOUGHT : K.lookup a_NOUGHT = some ⟨.type "tuple", od_NOUGHT, .seq #[.int 0 t_NOUGHT_0, .int 1 t_NOUGHT_1] n_NOUGHT, sl_NOUGHT⟩)
    {a_ONE : Addr} {od_ONE : Option Addr} {n_ONE : Nat} {sl_ONE : Array (Option Value)} {t_ONE_0 t_ONE_1 : Tok} (z_ONE : PySem.W.nsIn K mainGlobals "ONE" = some (some (.ref a_ONE))) (l_ONE : K.lookup a_ONE = some ⟨.type "tuple", od_ONE, .seq #[.int 1 t_ONE_0, .int 1 t_ONE_1] n_ONE, sl_ONE⟩)
    : ∃ (fd : FuncData) (cs : List (Addr × Addr)), (∀ p ∈ cs, ∃ y ∈ (["_are_goes", "are_kinds"] : List Str), PySem.W.tabIn K y = some p) ∧ (∀ p ∈ cs, K.lookup p.2 = none) ∧ (∀ (s : Shared) (v : Value), BindsTo s fd ⟨[v], []⟩ [("_law_script", v)]) ∧ ∀ base : Heap, K.In base → base.Ns mainGlobals mg → (∀ p ∈ cs, GxR.TabB base mg p.1 p.2) → FnG l.prog w K mg base 10 fa fd ["_law_script"] (sp_p_law K (cs.map (·.2))) := by
  have e := hfa.symm.trans (PySem.W.mg_of X G a26)
  cases e
  have F0 := fun_mk (st := s_p_is_number) l0 c0 k0
  have F1 := fun_mk (st := s_p_is_number_within) l1 c1 k1
  have F2 := fun_mk (st := s_p_is_frac) l2 c2 k2
  have F3 := fun_mk (st := s_p_frac_of) l3 c3 k3
  have F4 := fun_mk (st := s_p_sum_of) l4 c4 k4
  have F5 := fun_mk (st := s_p_sum_of_all) l5 c5 k5
  have F6 := fun_mk (st := s_p_is_lesser) l6 c6 k6
  have F7 := fun_mk (st := s_p_are_kinds) l7 c7 k7
  have F8 := fun_mk (st := s_p__is_kind) l8 c8 k8
  have F9 := fun_mk (st := s_p__are_goes) l9 c9 k9
  have F10 := fun_mk (st := s_p__is_part) l10 c10 k10
  have F11 := fun_mk (st := s_l_cell_at) l11 c11 k11
  have F12 := fun_mk (st := s_l_box) l12 c12 k12
  have F13 := fun_mk (st := s_l_take) l13 c13 k13
  have F14 := fun_mk (st := s_l_low) l14 c14 k14
  have F15 := fun_mk (st := s_l_plus) l15 c15 k15
  have F16 := fun_mk (st := s_l_all) l16 c16 k16
  have F17 := fun_mk (st := s_l_goes) l17 c17 k17
  have F18 := fun_mk (st := s_l_kinds) l18 c18 k18
  have F19 := fun_mk (st := s_l_bent) l19 c19 k19
  have F20 := fun_mk (st := s_l_is_whole) l20 c20 k20
  have F21 := fun_mk (st := s_l_is_part) l21 c21 k21
  have F22 := fun_mk (st := s_l_due) l22 c22 k22
  have F23 := fun_mk (st := s_l_edge) l23 c23 k23
  have F24 := fun_mk (st := s_l_odd) l24 c24 k24
  have F25 := fun_mk (st := s_l_right) l25 c25 k25
  have F26 := fun_mk (st := s_p_law) l26 c26 k26
  let T : All K mg := ⟨_, _, ⟨F0, PySem.W.mg_of X G a0, F0.binds (ps := ["thing"]) fun _ _ _ _ _ _ us hl => match us, hl with | [_], _ => rfl⟩, _, _, ⟨F1, PySem.W.mg_of X G a1, F1.binds (ps := ["thing", "least", "most"]) fun _ _ _ _ _ _ us hl => match us, hl with | [_, _, _], _ => rfl⟩, _, _, ⟨F2, PySem.W.mg_of X G a2, F2.binds (ps := ["thing"]) fun _ _ _ _ _ _ us hl => match us, hl with | [_], _ => rfl⟩, _, _, ⟨F3, PySem.W.mg_of X G a3, F3.binds (ps := ["top", "bottom"]) fun _ _ _ _ _ _ us hl => match us, hl with | [_, _], _ => rfl⟩, _, _, ⟨F4, PySem.W.mg_of X G a4, F4.binds (ps := ["one", "other"]) fun _ _ _ _ _ _ us hl => match us, hl with | [_, _], _ => rfl⟩, _, _, ⟨F5, PySem.W.mg_of X G a5, F5.binds (ps := ["ones"]) fun _ _ _ _ _ _ us hl => match us, hl with | [_], _ => rfl⟩, _, _, ⟨F6, PySem.W.mg_of X G a6, F6.binds (ps := ["one", "other"]) fun _ _ _ _ _ _ us hl => match us, hl with | [_, _], _ => rfl⟩, _, _, ⟨F7, PySem.W.mg_of X G a7, F7.binds (ps := ["thing"]) fun _ _ _ _ _ _ us hl => match us, hl with | [_], _ => rfl⟩, _, _, ⟨F8, PySem.W.mg_of X G a8, F8.binds (ps := ["thing", "many"]) fun _ _ _ _ _ _ us hl => match us, hl with | [_, _], _ => rfl⟩, _, _, ⟨F9, PySem.W.mg_of X G a9, F9.binds (ps := ["thing", "many"]) fun _ _ _ _ _ _ us hl => match us, hl with | [_, _], _ => rfl⟩, _, _, ⟨F10, PySem.W.mg_of X G a10, F10.binds (ps := ["thing"]) fun _ _ _ _ _ _ us hl => match us, hl with | [_], _ => rfl⟩, _, _, ⟨F11, PySem.W.mg_of X G a11, F11.binds (ps := ["_law_script", "_law_k"]) fun _ _ _ _ _ _ us hl => match us, hl with | [_, _], _ => rfl⟩, _, _, ⟨F12, PySem.W.mg_of X G a12, F12.binds (ps := ["_law_script", "_law_k"]) fun _ _ _ _ _ _ us hl => match us, hl with | [_, _], _ => rfl⟩, _, _, ⟨F13, PySem.W.mg_of X G a13, F13.binds (ps := ["_law_box_here", "_law_many"]) fun _ _ _ _ _ _ us hl => match us, hl with | [_, _], _ => rfl⟩, _, _, ⟨F14, PySem.W.mg_of X G a14, F14.binds (ps := ["_law_top", "_law_bottom"]) fun _ _ _ _ _ _ us hl => match us, hl with | [_, _], _ => rfl⟩, _, _, ⟨F15, PySem.W.mg_of X G a15, F15.binds (ps := ["_law_one", "_law_other"]) fun _ _ _ _ _ _ us hl => match us, hl with | [_, _], _ => rfl⟩, _, _, ⟨F16, PySem.W.mg_of X G a16, F16.binds (ps := ["_law_fracs"]) fun _ _ _ _ _ _ us hl => match us, hl with | [_], _ => rfl⟩, _, _, ⟨F17, PySem.W.mg_of X G a17, F17.binds (ps := ["_law_box_here", "_law_many"]) fun _ _ _ _ _ _ us hl => match us, hl with | [_, _], _ => rfl⟩, _, _, ⟨F18, PySem.W.mg_of X G a18, F18.binds (ps := ["_law_box_here", "_law_many"]) fun _ _ _ _ _ _ us hl => match us, hl with | [_, _], _ => rfl⟩, _, _, ⟨F19, PySem.W.mg_of X G a19, F19.binds (ps := ["_law_box_here", "_law_thing", "_law_deep"]) fun _ _ _ _ _ _ us hl => match us, hl with | [_, _, _], _ => rfl⟩, _, _, ⟨F20, PySem.W.mg_of X G a20, F20.binds (ps := ["_law_thing"]) fun _ _ _ _ _ _ us hl => match us, hl with | [_], _ => rfl⟩, _, _, ⟨F21, PySem.W.mg_of X G a21, F21.binds (ps := ["_law_thing"]) fun _ _ _ _ _ _ us hl => match us, hl with | [_], _ => rfl⟩, _, _, ⟨F22, PySem.W.mg_of X G a22, F22.binds (ps := ["_law_thing"]) fun _ _ _ _ _ _ us hl => match us, hl with | [_], _ => rfl⟩, _, _, ⟨F23, PySem.W.mg_of X G a23, F23.binds (ps := ["_law_box_here", "_law_many"]) fun _ _ _ _ _ _ us hl => match us, hl with | [_, _], _ => rfl⟩, _, _, ⟨F24, PySem.W.mg_of X G a24, F24.binds (ps := ["_law_box_here", "_law_kinds_here"]) fun _ _ _ _ _ _ us hl => match us, hl with | [_, _], _ => rfl⟩, _, _, ⟨F25, PySem.W.mg_of X G a25, F25.binds (ps := ["_law_box_here"]) fun _ _ _ _ _ _ us hl => match us, hl with | [_], _ => rfl⟩, _, _, ⟨F26, PySem.W.mg_of X G a26, F26.binds (ps := ["_law_script"]) fun _ _ _ _ _ _ us hl => match us, hl with | [_], _ => rfl⟩, PySem.W.mg_none_of X G z_abs, PySem.W.mg_none_of X G z_all, PySem.W.mg_none_of X G z_bool, PySem.W.mg_none_of X G z_int, PySem.W.mg_none_of X G z_isinstance, PySem.W.mg_none_of X G z_len, PySem.W.mg_none_of X G z_list, PySem.W.mg_none_of X G z_min, PySem.W.mg_none_of X G z_range, PySem.W.mg_none_of X G z_str, PySem.W.mg_none_of X G z_tuple, PySem.W.mg_of X G z_gcd, _, PySem.W.mg_of X G z_MOST_KINDS, _, PySem.W.mg_of X G z_MOST_FRESH, _, PySem.W.mg_of X G z_MOST_BOTTOM, C9, P9, funC_mk (st := s_p__are_goes) l9 c9, C7, P7, funC_mk (st := s_p_are_kinds) l7 c7, _, PySem.W.mg_of X G z_NOUGHT, fun H => .inr ⟨_, _, _, l_NOUGHT, rfl, rfl, small (n := 2) (by decide), .cons ⟨_, rfl⟩ (.cons ⟨_, rfl⟩ (.nil))⟩, _, PySem.W.mg_of X G z_ONE, fun H => .inr ⟨_, _, _, l_ONE, rfl, rfl, small (n := 2) (by decide), .cons ⟨_, rfl⟩ (.cons ⟨_, rfl⟩ (.nil))⟩⟩
  refine ⟨T.fd_p_law, [(C9, P9), (C7, P7)], ((List.forall_mem_cons (p := fun (p : Addr × Addr) => ∃ y ∈ (["_are_goes", "are_kinds"] : List Str), PySem.W.tabIn K y = some p)).mpr ⟨⟨"_are_goes", by decide, tabIn_of a9 l9 rfl q9 p9⟩, ((List.forall_mem_cons (p := fun (p : Addr × Addr) => ∃ y ∈ (["_are_goes", "are_kinds"] : List Str), PySem.W.tabIn K y = some p)).mpr ⟨⟨"are_kinds", by decide, tabIn_of a7 l7 rfl q7 p7⟩, fun p hp => absurd hp List.not_mem_nil⟩)⟩), ((List.forall_mem_cons (p := fun (p : Addr × Addr) => K.lookup p.2 = none)).mpr ⟨n9, ((List.forall_mem_cons (p := fun (p : Addr × Addr) => K.lookup p.2 = none)).mpr ⟨n7, fun p hp => absurd hp List.not_mem_nil⟩)⟩), fun s v => .of_eq rfl, fun base _ _ B => ?_⟩
  have B : Tabs T base := ⟨B (C9, P9) (by simp), B (C7, P7) (by simp)⟩
  exact ok_p_law T B
end KR
open PySem PySem.W PyProof.Rows
set_option maxRecDepth 100000 in
set_option maxHeartbeats 0 in
theorem PySem.Challenge.cw_kettlerow_k51_kinds_or_not_holds : PySem.Challenge.rw_kettlerow_k51_kinds_or_not.Holds := by
  w_on; o_law; k_head; (case hw => w_witness2)
  k_fill
  refine KR.walk_ofT (l := PySem.Challenge.rw_kettlerow_k51_kinds_or_not) (n := 63) (k := 10) (x := "_law_script") (sp := fun w Ps => KR.sp_p_law _ Ps) ["_are_goes", "are_kinds"] rfl (by decide) rfl ⟨rfl, by decide, by decide⟩ (fun w h Y => PySem.W.kIn_of Y) (by decide +kernel) ?F (fun _ _ _ a ns hl hT hS => ⟨a, ns, rfl, hS, hl, hT, fun _ => rfl⟩)
  case F =>
    intro w mg fa h KX G hmg
    refine' KR.all_mk KX G hmg ?a0 ?l0 ?c0 ?k0 ?a1 ?l1 ?c1 ?k1 ?a2 ?l2 ?c2 ?k2 ?a3 ?l3 ?c3 ?k3 ?a4 ?l4 ?c4 ?k4 ?a5 ?l5 ?c5 ?k5 ?a6 ?l6 ?c6 ?k6 ?a7 ?l7 ?c7 ?k7 ?q7 ?p7 ?n7 ?a8 ?l8 ?c8 ?k8 ?a9 ?l9 ?c9 ?k9 ?q9 ?p9 ?n9 ?a10 ?l10 ?c10 ?k10 ?a11 ?l11 ?c11 ?k11 ?a12 ?l12 ?c12 ?k12 ?a13 ?l13 ?c13 ?k13 ?a14 ?l14 ?c14 ?k14 ?a15 ?l15 ?c15 ?k15 ?a16 ?l16 ?c16 ?k16 ?a17 ?l17 ?c17 ?k17 ?a18 ?l18 ?c18 ?k18 ?a19 ?l19 ?c19 ?k19 ?a20 ?l20 ?c20 ?k20 ?a21 ?l21 ?c21 ?k21 ?a22 ?l22 ?c22 ?k22 ?a23 ?l23 ?c23 ?k23 ?a24 ?l24 ?c24 ?k24 ?a25 ?l25 ?c25 ?k25 ?a26 ?l26 ?c26 ?k26 ?z_abs ?z_all ?z_bool ?z_int ?z_isinstance ?z_len ?z_list ?z_min ?z_range ?z_str ?z_tuple ?z_gcd ?z_MOST_KINDS ?z_MOST_FRESH ?z_MOST_BOTTOM ?z_NOUGHT ?l_NOUGHT ?z_ONE ?l_ONE
    (case a0 => k_is)
    (case l0 => k_is)
    (case c0 => k_is)
    (case k0 => k_is)
    (case a1 => k_is)
    (case l1 => k_is)
    (case c1 => k_is)
    (case k1 => k_is)
    (case a2 => k_is)
    (case l2 => k_is)
    (case c2 => k_is)
    (case k2 => k_is)
    (case a3 => k_is)
    (case l3 => k_is)
    (case c3 => k_is)
    (case k3 => k_is)
    (case a4 => k_is)
    (case l4 => k_is)
    (case c4 => k_is)
    (case k4 => k_is)
    (case a5 => k_is)
    (case l5 => k_is)
    (case c5 => k_is)
    (case k5 => k_is)
    (case a6 => k_is)
    (case l6 => k_is)
    (case c6 => k_is)
    (case k6 => k_is)
    (case a7 => k_is)
    (case l7 => k_is)
    (case c7 => k_is)
    (case k7 => k_is)
    (case q7 => k_is)
    (case p7 => first | rfl | (with_unfolding_all rfl))
    (case n7 => first | rfl | (with_unfolding_all rfl))
    (case a8 => k_is)
    (case l8 => k_is)
    (case c8 => k_is)
    (case k8 => k_is)
    (case a9 => k_is)
    (case l9 => k_is)
    (case c9 => k_is)
    (case k9 => k_is)
    (case q9 => k_is)
    (case p9 => first | rfl | (with_unfolding_all rfl))
    (case n9 => first | rfl | (with_unfolding_all rfl))
    (case a10 => k_is)
    (case l10 => k_is)
    (case c10 => k_is)
    (case k10 => k_is)
    (case a11 => k_is)
    (case l11 => k_is)
    (case c11 => k_is)
    (case k11 => k_is)
    (case a12 => k_is)
    (case l12 => k_is)
    (case c12 => k_is)
    (case k12 => k_is)
    (case a13 => k_is)
    (case l13 => k_is)
    (case c13 => k_is)
    (case k13 => k_is)
    (case a14 => k_is)
    (case l14 => k_is)
    (case c14 => k_is)
    (case k14 => k_is)
    (case a15 => k_is)
    (case l15 => k_is)
    (case c15 => k_is)
    (case k15 => k_is)
    (case a16 => k_is)
    (case l16 => k_is)
    (case c16 => k_is)
    (case k16 => k_is)
    (case a17 => k_is)
    (case l17 => k_is)
    (case c17 => k_is)
    (case k17 => k_is)
    (case a18 => k_is)
    (case l18 => k_is)
    (case c18 => k_is)
    (case k18 => k_is)
    (case a19 => k_is)
    (case l19 => k_is)
    (case c19 => k_is)
    (case k19 => k_is)
    (case a20 => k_is)
    (case l20 => k_is)
    (case c20 => k_is)
    (case k20 => k_is)
    (case a21 => k_is)
    (case l21 => k_is)
    (case c21 => k_is)
    (case k21 => k_is)
    (case a22 => k_is)
    (case l22 => k_is)
    (case c22 => k_is)
    (case k22 => k_is)
    (case a23 => k_is)
    (case l23 => k_is)
    (case c23 => k_is)
    (case k23 => k_is)
    (case a24 => k_is)
    (case l24 => k_is)
    (case c24 => k_is)
    (case k24 => k_is)
    (case a25 => k_is)
    (case l25 => k_is)
    (case c25 => k_is)
    (case k25 => k_is)
    (case a26 => k_is)
    (case l26 => k_is)
    (case c26 => k_is)
    (case k26 => k_is)
    (case z_abs => k_is)
    (case z_all => k_is)
    (case z_bool => k_is)
    (case z_int => k_is)
    (case z_isinstance => k_is)
    (case z_len => k_is)
    (case z_list => k_is)
    (case z_min => k_is)
    (case z_range => k_is)
    (case z_str => k_is)
    (case z_tuple => k_is)
    (case z_gcd => k_is)
    (case z_MOST_KINDS => k_is)
    (case z_MOST_FRESH => k_is)
    (case z_MOST_BOTTOM => k_is)
    (case z_NOUGHT => k_is)
    (case l_NOUGHT => k_is)
    (case z_ONE => k_is)
    (case l_ONE => k_is)
#print axioms PySem.Challenge.cw_kettlerow_k51_kinds_or_not_holds
