import PyProof.Rows.All
import Wide.All
import OpenK.AllK
import Wide.FinOn
import HandS.ForMost
import HandS.Gcd
import HandS.Wide
import HandS.IsInst
import HandS.Zip
import HandS.More
import HandS.Style
import HandS.Rev
import HandS.MapJoin
import HandS.StrMore
import KE.GoesEnum
import KE.GoesMore
import KE.GoesZip
import HandS.Walk
import HandS.Flt
import HandS.Dict
import HandS.TupAny
import HandS.RevRange
import HandS.Conv
import HandS.Small
import HandS.List
import PyProof.Rows.IntBool
import PySem.Challenge.RW_kettlerow_k66_papers_spoilt_anywhere
set_option Elab.async false
set_option linter.all false
set_option maxRecDepth 100000
set_option maxHeartbeats 4000000
/-! ### own rules and words, of no law -/
namespace KR
open PySem PySem.Spec PyProof.Rows L2

/-- * of any two ints whose product is told to fit -/
theorem op_mulX {X : Cx} : OpR X (binaryOp .Mult) (rI IntMulOk fun i j => .int (i * j)) := opI fun _ _ _ _ _ _ _ hc q => mul_int q hc
/-- // by any divisor but 0, to some three thousand figures -/
def DivOk (_ j : Int) : Prop := j ≠ 0 ∧ j.natAbs.log2 < 9000
theorem op_fdivX {X : Cx} : OpR X (binaryOp .FloorDiv) (rI DivOk fun i j => .int (i.fdiv j)) := opI fun _ _ _ _ _ _ _ hc q => floordiv_int hc.1 q (.inl (PyProof.noPylong_of_log2 hc.2))
theorem mulL {i j : Int} (h : i.natAbs < 2 ^ 64) : IntMulOk i j := CMul.ok (.inl ⟨by omega, by omega⟩)
theorem mulR {i j : Int} (h : j.natAbs < 2 ^ 64) : IntMulOk i j := CMul.ok (.inr ⟨by omega, by omega⟩)
theorem mulW {i j : Int} {a b : Nat} (ha : i.natAbs < 2 ^ a) (hb : j.natAbs < 2 ^ b) (h0 : 0 < a) (h1 : 0 < b) (h : a + b ≤ 1000000) : IntMulOk i j := (wide_mul ha hb h0 h1 h).ok
theorem divOk {i j : Int} {b : Nat} (h : j ≠ 0) (hb : j.natAbs < 2 ^ b) (h0 : 0 < b) (h9 : b ≤ 9000) : DivOk i j := ⟨h, Nat.lt_of_lt_of_le (PySem.Flt.log2_lt_of h0 hb) h9⟩
theorem add_lt {i j : Int} {a : Nat} (ha : i.natAbs < 2 ^ a) (hb : j.natAbs < 2 ^ a) : (i + j).natAbs < 2 ^ (a + 1) := by
  rw [Nat.pow_succ]
  omega
theorem sub_lt {i j : Int} {a : Nat} (ha : i.natAbs < 2 ^ a) (hb : j.natAbs < 2 ^ a) : (i - j).natAbs < 2 ^ (a + 1) := by
  rw [Nat.pow_succ]
  omega
theorem lt_up {i : Int} {a b : Nat} (ha : i.natAbs < 2 ^ a) (h : a ≤ b) : i.natAbs < 2 ^ b := Nat.lt_of_lt_of_le ha (Nat.pow_le_pow_right (by decide) h)
theorem b40 {n : Nat} (h : n < 10 ^ 40) : n < 2 ^ 200 := Nat.lt_trans h (by decide)
theorem b41 {n : Nat} (h : n ≤ 10 ^ 41) : n < 2 ^ 200 := Nat.lt_of_le_of_lt h (by decide)
theorem bit_lt {c : Prop} [Decidable c] : (if c then (1 : Int) else 0).natAbs < 2 ^ 64 := by split <;> decide
theorem bit_nn {c : Prop} [Decidable c] : (0 : Int) ≤ (if c then (1 : Int) else 0) := by split <;> decide
theorem bit_or {c : Prop} [Decidable c] : (if c then (1 : Int) else 0) = 0 ∨ (if c then (1 : Int) else 0) = 1 := by split <;> simp
theorem small {n : Nat} (h : n ≤ 100000) : n ≤ sizeLine := Nat.le_trans h (by decide)
theorem small' {n : Nat} (h : n < 100000) : n < sizeLine := Nat.lt_of_lt_of_le h (by decide)

/-! the heap but for one object that is written -/
/-- all that was tracked but p is as it was -/
def Fr (p : Addr) (H H' : Hp) : Prop := ∀ b o, b ≠ p → H b = some o → H' b = some o
theorem Fr.refl {p : Addr} {H : Hp} : Fr p H H := fun _ _ _ h => h
theorem Fr.trans {p : Addr} {H H1 H2 : Hp} (a : Fr p H H1) (b : Fr p H1 H2) : Fr p H H2 := fun c o n h => b c o n (a c o n h)
theorem Fr.of {p : Addr} {H H1 : Hp} (a : Same H H1) : Fr p H H1 := fun c o _ h => a c o h
theorem same_new {H : Hp} {p : Addr} {o : HO} (h : H p = none) : Same H (upd H p o) := fun b x e => by
  rw [upd_ne (ne_of_none e h)]
  exact e
theorem Fr.new {p q : Addr} {H H1 : Hp} {o : HO} (a : Fr p H H1) (h : H1 q = none) : Fr p H (upd H1 q o) := a.trans (.of (same_new h))
theorem Fr.put {p : Addr} {H H1 : Hp} {o : HO} (a : Fr p H H1) : Fr p H (upd H1 p o) := fun c x n h => by
  rw [upd_ne n]
  exact a c x n h
theorem Fr.put' {p q : Addr} {H H1 : Hp} {o : HO} (a : Fr p H H1) (h : H q = none) : Fr p H (upd H1 q o) := fun c x n e => by
  rw [upd_ne (ne_of_none e h)]
  exact a c x n e
/-- what is new there was new ahead of it, if the written one stands -/
theorem Fr.free {p q : Addr} {H H1 : Hp} {o : HO} (a : Fr p H H1) (hp : H1 p = some o) (h : H1 q = none) : H q = none := by
  cases e : H q with
  | none => rfl
  | some u =>
    have n : q ≠ p := fun z => by
      rw [z, hp] at h
      cases h
    rw [a q u n e] at h
    cases h

/-! a reading may be asked for more than is wanted; displays whose new heap is a letter -/
def clA (t : TA) : TA := fun σ H Q => ∃ Q0 : List V → Hp → Prop, (∀ xs H1, Q0 xs H1 → Q xs H1) ∧ t σ H Q0
theorem pa_cl {X : Cx} {es : List Expr} {t : TA} (h : PA X es t) : PA X es (clA t) := ⟨fun pos pins s σ H Q I ⟨Q0, m, q⟩ =>
  thn (h.run pos pins s σ H Q0 I q) fun us s1 ⟨xs, H1, I1, r, z⟩ => ⟨xs, H1, I1, r, m _ _ z⟩⟩
def tTupI (t : TA) : TE := fun σ H Q => t σ H fun xs H1 => Nat.ble xs.length 100000 = true ∧ ∀ p H', Same H1 H' → H1 p = none → H' p = some (.tup xs) → Q (.ref p) H'
def tLstI (t : TA) : TE := fun σ H Q => t σ H fun xs H1 => Nat.ble xs.length 100000 = true ∧ ∀ p H', Same H1 H' → H1 p = none → H' p = some (.lst xs) → Q (.ref p) H'
theorem pe_tupI {X : Cx} {es : List Expr} {k : Nat} {pos : Pos} {t : TA} (h : PA X es t) : PE X (.Tuple es k pos) (tTupI t) := ⟨fun pins s σ H Q I q =>
  (pe_tup (pa_cl h)).run pins s σ H Q I ⟨_, fun _ _ ⟨z, w⟩ => ⟨small (Nat.le_of_ble_eq_true z), fun p hp => w p _ (same_new hp) hp upd_same⟩, q⟩⟩
theorem pe_lstI {X : Cx} {es : List Expr} {pos : Pos} {t : TA} (h : PA X es t) : PE X (.List es pos) (tLstI t) := ⟨fun pins s σ H Q I q =>
  (pe_lst (pa_cl h)).run pins s σ H Q I ⟨_, fun _ _ ⟨z, w⟩ => ⟨small (Nat.le_of_ble_eq_true z), fun p hp => w p _ (same_new hp) hp upd_same⟩, q⟩⟩
/-- ways that join behind a statement: R is what they come to -/
def tJ (t : TS) : TS := fun D σ H => ∃ R : L2.St → Hp → Prop, (∀ σ' H', R σ' H' → D.nx σ' H') ∧ t { D with nx := R } σ H
theorem ps_J {X : Cx} {st : Stmt} {t : TS} (h : PS X st t) : PS X st (tJ t) := ⟨fun pins s σ H D I ⟨R, m, q⟩ => thn (h.run pins s σ H { D with nx := R } I q) fun f s1 z =>
  match f, z with
  | .next, ⟨σ', H', J, r⟩ => ⟨σ', H', J, m _ _ r⟩
  | .ret _, z => z
  | .brk, z => z
  | .cont, z => z⟩
theorem ite_bT {b : Bool} {A B : Prop} (h : b = true) (q : A) : if b = true then A else B := by
  rw [if_pos h]
  exact q
theorem ite_bF {b : Bool} {A B : Prop} (h : b = false) (q : B) : if b = true then A else B := by
  rw [if_neg (by rw [h]; exact Bool.false_ne_true)]
  exact q
theorem ite_iT {i j : Int} {A B : Prop} (h : i = j) (q : A) : if decide (V.int i = V.int j) = true then A else B := by
  rw [if_pos (decide_eq_true (congrArg V.int h))]
  exact q
theorem ite_iF {i j : Int} {A B : Prop} (h : i ≠ j) (q : B) : if decide (V.int i = V.int j) = true then A else B := by
  rw [if_neg (by rw [decide_eq_false fun z => h (V.int.inj z)]; exact Bool.false_ne_true)]
  exact q
theorem ite_nT {i j : Int} {A B : Prop} (h : i ≠ j) (q : A) : if (!decide (V.int i = V.int j)) = true then A else B := by
  rw [if_pos (by rw [decide_eq_false fun z => h (V.int.inj z)] <;> rfl)]
  exact q
theorem ite_nF {i j : Int} {A B : Prop} (h : i = j) (q : B) : if (!decide (V.int i = V.int j)) = true then A else B := by
  rw [if_neg (by rw [decide_eq_true (congrArg V.int h)]; exact Bool.false_ne_true)]
  exact q
/-- the law's box of draws: n is more than have been mixed -/
def BoxAt (H : Hp) (p : Addr) (n : Nat) : Prop := ∃ a b c : Int, H p = some (.lst [.int a, .int b, .int c]) ∧ 0 ≤ a ∧ 0 ≤ b ∧ b < 2 ^ 62 ∧ 0 ≤ c ∧ c ≤ (n : Int)
theorem BoxAt.mono {H : Hp} {p : Addr} {n m : Nat} (h : BoxAt H p n) (le : n ≤ m) : BoxAt H p m := by
  obtain ⟨a, b, c, h1, h2, h3, h4, h5, h6⟩ := h
  exact ⟨a, b, c, h1, h2, h3, h4, h5, by omega⟩
theorem BoxAt.same {H H' : Hp} {p : Addr} {n : Nat} (h : BoxAt H p n) (s : Same H H') : BoxAt H' p n := by
  obtain ⟨a, b, c, h1, h2⟩ := h
  exact ⟨a, b, c, s _ _ h1, h2⟩
theorem BoxAt.ne {H : Hp} {p q : Addr} {n : Nat} {xs : List V} (h : BoxAt H p n) (t : H q = some (.tup xs)) : q ≠ p := by
  obtain ⟨a, b, c, h1, _⟩ := h
  exact ne_of t h1 (by intro z; cases z)
theorem BoxAt.some {H : Hp} {p : Addr} {n : Nat} (h : BoxAt H p n) : ∃ o, H p = some o := by
  obtain ⟨a, b, c, h1, _⟩ := h
  exact ⟨_, h1⟩
/-- a tuple stays -/
theorem Fr.tup {p q : Addr} {H H1 : Hp} {n : Nat} {xs : List V} (a : Fr p H H1) (hb : BoxAt H p n) (t : H q = some (.tup xs)) : H1 q = some (.tup xs) := a q _ (hb.ne t) t
/-- a pair of ints -/
def PrAt (H : Hp) (q : Addr) (t b : Int) : Prop := H q = some (.tup [.int t, .int b])
theorem at0 {x : V} {xs : List V} : atI (x :: xs) 0 = some x := atI_nat (j := 0) rfl
theorem at1 {x y : V} {xs : List V} : atI (x :: y :: xs) 1 = some y := atI_nat (j := 1) rfl
theorem at2 {x y z : V} {xs : List V} : atI (x :: y :: z :: xs) 2 = some z := atI_nat (j := 2) rfl

/-! fractions -/
/-- the law's own lowest terms -/
def low (t b : Int) : Int × Int := (t / (Nat.gcd t.natAbs b.natAbs : Nat) * (if b < 0 then -1 else 1), (b.natAbs : Int) / (Nat.gcd t.natAbs b.natAbs : Nat))
structure IsLow (t b : Int) : Prop where
  pos : 0 < b
  cop : Nat.gcd t.natAbs b.natAbs = 1
theorem dvd_mul {a b : Int} (h : a ∣ b) : a * (b / a) = b := Int.mul_ediv_cancel' h
theorem low_facts (t b : Int) (hb : b ≠ 0) : IsLow (low t b).1 (low t b).2 ∧ t * (low t b).2 = (low t b).1 * b := by
  have hg : 0 < Nat.gcd t.natAbs b.natAbs := Nat.gcd_pos_of_pos_right _ (by omega)
  generalize e : Nat.gcd t.natAbs b.natAbs = g at hg
  have d1 : g ∣ t.natAbs := e ▸ Nat.gcd_dvd_left _ _
  have d2 : g ∣ b.natAbs := e ▸ Nat.gcd_dvd_right _ _
  obtain ⟨x, hx⟩ := d1
  obtain ⟨y, hy⟩ := d2
  have hc : Nat.gcd x y = 1 := by
    rw [hx, hy, Nat.gcd_mul_left] at e
    exact Nat.eq_of_mul_eq_mul_left hg (by rw [e, Nat.mul_one])
  have hy0 : 0 < y := by
    rcases Nat.eq_zero_or_pos y with z | z
    · rw [z, Nat.mul_zero] at hy
      omega
    · exact z
  have h2 : (low t b).2 = (y : Int) := by
    show (b.natAbs : Int) / (Nat.gcd t.natAbs b.natAbs : Nat) = (y : Int)
    rw [e, hy, Int.natCast_mul]
    exact Int.mul_ediv_cancel_left _ (by omega)
  have ht : t = (g : Int) * x ∨ t = -((g : Int) * x) := by
    have q : (t.natAbs : Int) = (g : Int) * x := by rw [hx, Int.natCast_mul]
    omega
  have hbb : (b.natAbs : Int) = (g : Int) * y := by rw [hy, Int.natCast_mul]
  have h1 : (low t b).1 = (t / (g : Int)) * (if b < 0 then -1 else 1) := by
    show t / (Nat.gcd t.natAbs b.natAbs : Nat) * (if b < 0 then -1 else 1) = _
    rw [e]
  have h3 : t / (g : Int) = x ∨ t / (g : Int) = -(x : Int) := by
    rcases ht with q | q
    · left
      rw [q]
      exact Int.mul_ediv_cancel_left _ (by omega)
    · right
      rw [q, ← Int.mul_neg]
      exact Int.mul_ediv_cancel_left _ (by omega)
  have h4 : (g : Int) * (t / (g : Int)) = t := dvd_mul (by
    rcases ht with q | q
    · exact ⟨x, q⟩
    · exact ⟨-x, by rw [q, Int.mul_neg]⟩)
  refine ⟨⟨by rw [h2]; omega, ?_⟩, ?_⟩
  · rw [h2, h1]
    have q : ((t / (g : Int)) * (if b < 0 then -1 else 1)).natAbs = x := by
      split <;> rcases h3 with z | z <;> rw [z] <;> omega
    rw [q]
    exact hc
  · rw [h2, h1]
    by_cases c : b < 0
    · rw [if_pos c]
      have q : b = -((g : Int) * y) := by omega
      grind
    · rw [if_neg c]
      have q : b = (g : Int) * y := by omega
      grind
theorem low_pos (t b : Int) (hb : b ≠ 0) : 0 < (low t b).2 := (low_facts t b hb).1.pos
/-- two fractions in lowest terms that are alike across are one -/
theorem isLow_uniq {x y u v : Int} (h : IsLow x y) (k : IsLow u v) (e : x * v = u * y) : x = u ∧ y = v := by
  have h1 := h.pos
  have k1 := k.pos
  have e1 : x.natAbs * v.natAbs = u.natAbs * y.natAbs := by rw [← Int.natAbs_mul, ← Int.natAbs_mul, e]
  have d1 : y.natAbs ∣ v.natAbs := (Nat.Coprime.symm h.cop).dvd_of_dvd_mul_left (by rw [e1]; exact Nat.dvd_mul_left _ _)
  have d2 : v.natAbs ∣ y.natAbs := (Nat.Coprime.symm k.cop).dvd_of_dvd_mul_left (by rw [← e1]; exact Nat.dvd_mul_left _ _)
  have e2 : y.natAbs = v.natAbs := Nat.dvd_antisymm d1 d2
  have e3 : y = v := by omega
  subst e3
  exact ⟨Int.eq_of_mul_eq_mul_right (by omega) e, rfl⟩
theorem low_eq {t b x y : Int} (hb : b ≠ 0) (h : IsLow x y) (e : t * y = x * b) : low t b = (x, y) := by
  obtain ⟨h1, h2⟩ := low_facts t b hb
  have q : (low t b).1 * y = x * (low t b).2 := by
    have z : b * ((low t b).1 * y) = b * (x * (low t b).2) := by grind
    exact Int.eq_of_mul_eq_mul_left hb z
  obtain ⟨a1, a2⟩ := isLow_uniq h1 h q
  exact Prod.ext a1 a2
theorem low_id {t b : Int} (h : IsLow t b) : low t b = (t, b) := low_eq (by have := h.pos; omega) h rfl
theorem low_le (t b : Int) : (low t b).1.natAbs ≤ t.natAbs ∧ (low t b).2.natAbs ≤ b.natAbs := by
  generalize e : Nat.gcd t.natAbs b.natAbs = g
  have h1 : (low t b).1 = (t / (g : Int)) * (if b < 0 then -1 else 1) := by
    show t / (Nat.gcd t.natAbs b.natAbs : Nat) * (if b < 0 then -1 else 1) = _
    rw [e]
  have h2 : (low t b).2 = (b.natAbs : Int) / (g : Int) := by
    show (b.natAbs : Int) / (Nat.gcd t.natAbs b.natAbs : Nat) = _
    rw [e]
  have d1 : (g : Int) ∣ t := e ▸ Int.ofNat_dvd_left.mpr (Nat.gcd_dvd_left _ _)
  constructor
  · rw [h1]
    have q : (t / (g : Int) * (if b < 0 then -1 else 1)).natAbs = (t / (g : Int)).natAbs := by
      split <;> omega
    rw [q]
    obtain ⟨z, rfl⟩ := d1
    by_cases c : (g : Int) = 0
    · rw [c, Int.zero_mul, Int.zero_ediv]
      omega
    · rw [Int.mul_ediv_cancel_left _ c, Int.natAbs_mul]
      exact Nat.le_mul_of_pos_left _ (by omega)
  · rw [h2, ← Int.natCast_ediv, Int.natAbs_natCast]
    exact Nat.div_le_self _ _
theorem low_lt {t b : Int} {n : Nat} (h1 : t.natAbs < 2 ^ n) (h2 : b.natAbs < 2 ^ n) : (low t b).1.natAbs < 2 ^ n ∧ (low t b).2.natAbs < 2 ^ n :=
  ⟨Nat.lt_of_le_of_lt (low_le t b).1 h1, Nat.lt_of_le_of_lt (low_le t b).2 h2⟩
/-- a fraction in lowest terms, of fewer than sixty figures -/
structure FrAt (H : Hp) (x : Addr) (a b : Int) : Prop where
  at_ : H x = some (.tup [.int a, .int b])
  low : IsLow a b
  ta : a.natAbs < 2 ^ 200
  tb : b.natAbs < 2 ^ 200
theorem FrAt.same {H H' : Hp} {x : Addr} {a b : Int} (h : FrAt H x a b) (s : Same H H') : FrAt H' x a b := ⟨s _ _ h.at_, h.low, h.ta, h.tb⟩
theorem FrAt.fr {H H' : Hp} {x p : Addr} {a b : Int} {n : Nat} (h : FrAt H x a b) (B : BoxAt H p n) (f : Fr p H H') : FrAt H' x a b := ⟨f.tup B h.at_, h.low, h.ta, h.tb⟩
/-- a new pair of two numbers' lowest terms -/
def sp_low : Sp := fun vs H Q _ => ∃ t b : Int, vs = [.int t, .int b] ∧ b ≠ 0 ∧ t.natAbs < 2 ^ 2000 ∧ b.natAbs < 2 ^ 2000 ∧ ∀ p H', Same H H' → H p = none → H' p = some (.tup [.int (low t b).1, .int (low t b).2]) → Q (.ref p) H'
/-- two pairs in, low of what f and g say of them out -/
def sp_two (K : PySem.W.Frag) (f g : Int → Int → Int → Int → Int) : Sp := fun vs H Q _ => ∃ (x y : Addr) (a b c d : Int), vs = [.ref x, .ref y] ∧ SqT K H x [.int a, .int b] ∧ SqT K H y [.int c, .int d] ∧ g a b c d ≠ 0 ∧ a.natAbs < 2 ^ 900 ∧ b.natAbs < 2 ^ 900 ∧ c.natAbs < 2 ^ 900 ∧ d.natAbs < 2 ^ 900 ∧
  ∀ p H', Same H H' → H p = none → H' p = some (.tup [.int (low (f a b c d) (g a b c d)).1, .int (low (f a b c d) (g a b c d)).2]) → Q (.ref p) H'
/-- by a divisor turned about -/
theorem fdiv_neg {t g : Int} (h : g ∣ t) : t.fdiv (-g) = t / g * -1 := by
  obtain ⟨z, rfl⟩ := h
  by_cases c : g = 0
  · subst c
    simp
  · rw [Int.mul_ediv_cancel_left _ c, show g * z = (-g) * (-z) by grind, Int.mul_fdiv_cancel_left _ (by omega)]
    omega

/-! data of the law's own making, n deep -/
theorem Same.put {H0 H : Hp} {D : Addr} {o : HO} (s : Same H0 H) (h : H0 D = none) : Same H0 (upd H D o) := fun b u e => by
  rw [upd_ne (ne_of_none e h)]
  exact s b u e
inductive Dt (H : Hp) : Nat → V → PyData → Prop
  | non (n : Nat) : Dt H (n + 1) .non .none
  | bl (n : Nat) (b : Bool) : Dt H (n + 1) (.bl b) (.bool b)
  | int (n : Nat) (i : Int) : Dt H (n + 1) (.int i) (.int i)
  | str (n : Nat) (x : Str) (ok : PyData.canLay0 (.str x) = true) : Dt H (n + 1) (.str x) (.str x)
  | lst {n : Nat} {a : Addr} {xs : List V} {ds : List PyData} : H a = some (.lst xs) → xs.length = ds.length → xs.length ≤ 100000 → (∀ (i : Nat) (x : V) (d : PyData), xs[i]? = some x → ds[i]? = some d → Dt H n x d) → Dt H (n + 1) (.ref a) (.list ds)
  | tup {n : Nat} {a : Addr} {xs : List V} {ds : List PyData} : H a = some (.tup xs) → xs.length = ds.length → xs.length ≤ 100000 → (∀ (i : Nat) (x : V) (d : PyData), xs[i]? = some x → ds[i]? = some d → Dt H n x d) → Dt H (n + 1) (.ref a) (.tuple ds)
theorem Dt.same {H H' : Hp} (s : Same H H') : ∀ {n : Nat} {v : V} {d : PyData}, Dt H n v d → Dt H' n v d := by
  intro n v d h
  induction h with
  | non n => exact .non n
  | bl n b => exact .bl n b
  | int n i => exact .int n i
  | str n x ok => exact .str n x ok
  | lst h1 h2 h3 _ ih => exact .lst (s _ _ h1) h2 h3 ih
  | tup h1 h2 h3 _ ih => exact .tup (s _ _ h1) h2 h3 ih
theorem Dt.up {H : Hp} {n m : Nat} {v : V} {d : PyData} (h : Dt H n v d) : n ≤ m → Dt H m v d := by
  intro le
  induction h generalizing m with
  | non n => obtain ⟨k, rfl⟩ : ∃ k, m = k + 1 := ⟨m - 1, by omega⟩; exact .non k
  | bl n b => obtain ⟨k, rfl⟩ : ∃ k, m = k + 1 := ⟨m - 1, by omega⟩; exact .bl k b
  | int n i => obtain ⟨k, rfl⟩ : ∃ k, m = k + 1 := ⟨m - 1, by omega⟩; exact .int k i
  | str n x ok => obtain ⟨k, rfl⟩ : ∃ k, m = k + 1 := ⟨m - 1, by omega⟩; exact .str k x ok
  | lst h1 h2 h3 _ ih => obtain ⟨k, rfl⟩ : ∃ k, m = k + 1 := ⟨m - 1, by omega⟩; exact .lst h1 h2 h3 fun i x d a b => ih i x d a b (by omega)
  | tup h1 h2 h3 _ ih => obtain ⟨k, rfl⟩ : ∃ k, m = k + 1 := ⟨m - 1, by omega⟩; exact .tup h1 h2 h3 fun i x d a b => ih i x d a b (by omega)
theorem Dt.tup2 {H : Hp} {n : Nat} {a : Addr} {x y : V} {d e : PyData} (h : H a = some (.tup [x, y])) (h1 : Dt H n x d) (h2 : Dt H n y e) : Dt H (n + 1) (.ref a) (.tuple [d, e]) :=
  .tup h rfl (by show 2 ≤ 100000; decide) fun i u v hu hv => match i, hu, hv with
    | 0, hu, hv => by cases hu; cases hv; exact h1
    | 1, hu, hv => by cases hu; cases hv; exact h2
    | i + 2, hu, _ => by simp at hu
theorem Dt.pair {H : Hp} {a : Addr} {t b : Int} (h : H a = some (.tup [.int t, .int b])) : Dt H 2 (.ref a) (.tuple [.int t, .int b]) := .tup2 h (.int 0 t) (.int 0 b)
theorem Dt.lst2 {H : Hp} {n : Nat} {a : Addr} {x y : V} {d e : PyData} (h : H a = some (.lst [x, y])) (h1 : Dt H n x d) (h2 : Dt H n y e) : Dt H (n + 1) (.ref a) (.list [d, e]) :=
  .lst h rfl (by show 2 ≤ 100000; decide) fun i u v hu hv => match i, hu, hv with
    | 0, hu, hv => by cases hu; cases hv; exact h1
    | 1, hu, hv => by cases hu; cases hv; exact h2
    | i + 2, hu, _ => by simp at hu
theorem Dt.lst3 {H : Hp} {n : Nat} {a : Addr} {x y z : V} {d e f : PyData} (h : H a = some (.lst [x, y, z])) (h1 : Dt H n x d) (h2 : Dt H n y e) (h3 : Dt H n z f) : Dt H (n + 1) (.ref a) (.list [d, e, f]) :=
  .lst h rfl (by show 3 ≤ 100000; decide) fun i u v hu hv => match i, hu, hv with
    | 0, hu, hv => by cases hu; cases hv; exact h1
    | 1, hu, hv => by cases hu; cases hv; exact h2
    | 2, hu, hv => by cases hu; cases hv; exact h3
    | i + 3, hu, _ => by simp at hu
/-- a comprehension over pairs: J hands out a new tuple of px i and py i at each of n turns, while St stands -/
theorem lc_pair {J : It} {n : Nat} {St : Hp → Prop} {px py : Nat → V} (hgo : ∀ i H, i < n → St H → J.go i H) (hst : ∀ H, St H → J.stop n H)
    (hy : ∀ i H v H', i < n → St H → J.yld i H v H' → ∃ T, v = .ref T ∧ H T = none ∧ H' = upd H T (.tup [px i, py i]))
    {g : TG} {tt : TT} {te : TE} {vs : List Nat} {σ : L2.St} {H1 : Hp} {D : Addr} {Qd : Hp → Prop} (Pv : Nat → Hp → Prop) (h0 : Pv 0 (upd H1 D (.lst []))) (hq : ∀ i H, i ≤ n → Pv i H → St H)
    (hs : ∀ i T H, i < n → Pv i H → H T = none → g (.ref T) (wipe σ vs) (upd H T (.tup [px i, py i])) fun σ2 H2 => wipe σ2 vs = wipe σ vs ∧ tt σ2 H2 fun b H3 =>
      if b = true then te σ2 H3 fun y H4 => ∃ acc, H4 D = some (.lst acc) ∧ acc.length < sizeLine ∧ Pv (i + 1) (upd H4 D (.lst (acc ++ [y]))) else Pv (i + 1) H3) (hd : ∀ H, Pv n H → Qd H) :
    ∃ W : Nat → Nat → Hp → Prop, (∃ m, W 0 m (upd H1 D (.lst []))) ∧ ∀ i m H, W i m H →
      (J.stop i H ∧ Qd H) ∨ (J.go i H ∧ ∃ Nx : Hp → Prop, (∀ H', Nx H' → ∃ m', m' < m ∧ W (i + 1) m' H') ∧ ∀ x H', J.yld i H x H' → g x (wipe σ vs) H' fun σ2 H2 => wipe σ2 vs = wipe σ vs ∧ tt σ2 H2 fun b H3 =>
        if b = true then te σ2 H3 fun y H4 => ∃ acc, H4 D = some (.lst acc) ∧ acc.length < sizeLine ∧ Nx (upd H4 D (.lst (acc ++ [y]))) else Nx H3) := by
  refine ⟨fun i m H => i + m = n ∧ Pv i H, ⟨n, by omega, h0⟩, fun i m H w => ?_⟩
  obtain ⟨e, p⟩ := w
  have q := hq i H (by omega) p
  rcases Nat.lt_or_ge i n with lt | ge
  · refine Or.inr ⟨hgo i H lt q, Pv (i + 1), fun H' p' => ⟨m - 1, by omega, by omega, p'⟩, fun x H' y => ?_⟩
    obtain ⟨T, rfl, nT, rfl⟩ := hy i H x H' lt q y
    exact hs i T H lt p nT
  · obtain rfl : i = n := by omega
    exact Or.inl ⟨hst H q, hd H p⟩
theorem zipL_go {K : PySem.W.Frag} {a b : Addr} {xs ys : List V} {n : Nat} (h1 : xs.length = n) (h2 : ys.length = n) {i : Nat} {H : Hp} (lt : i < n) (q : SqL K H a xs ∧ SqL K H b ys) : (Itz K a b).go i H :=
  ⟨xs, ys, _, _, q.1, q.2, List.getElem?_eq_getElem (by omega), List.getElem?_eq_getElem (by omega)⟩
theorem zipL_stop {K : PySem.W.Frag} {a b : Addr} {xs ys : List V} {n : Nat} (h1 : xs.length = n) {H : Hp} (q : SqL K H a xs ∧ SqL K H b ys) : (Itz K a b).stop n H := ⟨xs, ys, q.1, q.2, .inl (by omega)⟩
theorem zipL_yld {K : PySem.W.Frag} {a b : Addr} {xs ys : List V} {n : Nat} (h1 : xs.length = n) (h2 : ys.length = n) {i : Nat} {H H' : Hp} {v : V} (lt : i < n) (q : SqL K H a xs ∧ SqL K H b ys) (y : (Itz K a b).yld i H v H') :
    ∃ T, v = .ref T ∧ H T = none ∧ H' = upd H T (.tup [xs.getD i .non, ys.getD i .non]) := by
  obtain ⟨T, x, y, rfl, nT, rfl, f1, f2⟩ := y
  refine ⟨T, rfl, nT, ?_⟩
  rw [List.getD_eq_getElem?_getD, List.getD_eq_getElem?_getD, f1 _ q.1, f2 _ q.2] <;> rfl
theorem zipT_go {K : PySem.W.Frag} {a b : Addr} {xs ys : List V} {n : Nat} (h1 : xs.length = n) (h2 : ys.length = n) {i : Nat} {H : Hp} (lt : i < n) (q : SqT K H a xs ∧ SqT K H b ys) : (RZ.ItzT K a b).go i H :=
  ⟨xs, ys, _, _, q.1, q.2, List.getElem?_eq_getElem (by omega), List.getElem?_eq_getElem (by omega)⟩
theorem zipT_stop {K : PySem.W.Frag} {a b : Addr} {xs ys : List V} {n : Nat} (h1 : xs.length = n) {H : Hp} (q : SqT K H a xs ∧ SqT K H b ys) : (RZ.ItzT K a b).stop n H := ⟨xs, ys, q.1, q.2, .inl (by omega)⟩
theorem zipT_yld {K : PySem.W.Frag} {a b : Addr} {xs ys : List V} {n : Nat} (h1 : xs.length = n) (h2 : ys.length = n) {i : Nat} {H H' : Hp} {v : V} (lt : i < n) (q : SqT K H a xs ∧ SqT K H b ys) (y : (RZ.ItzT K a b).yld i H v H') :
    ∃ T, v = .ref T ∧ H T = none ∧ H' = upd H T (.tup [xs.getD i .non, ys.getD i .non]) := by
  obtain ⟨T, x, y, rfl, nT, rfl, f1, f2⟩ := y
  refine ⟨T, rfl, nT, ?_⟩
  rw [List.getD_eq_getElem?_getD, List.getD_eq_getElem?_getD, f1 _ q.1, f2 _ q.2] <;> rfl
theorem getD_of {xs : List V} {i : Nat} (h : i < xs.length) : xs[i]? = some (xs.getD i .non) := by
  rw [List.getD_eq_getElem?_getD, List.getElem?_eq_getElem h] <;> rfl
theorem yesT {σ : L2.St} {H : Hp} {A B : Hp → Prop} (h : A H) : tYes σ H fun b H3 => if b = true then A H3 else B H3 := iteT (A := A H) (B := B H) h
/-- True so often -/
theorem all_true (n : Nat) : (List.replicate n true).map V.bl = List.replicate n (V.bl true) ∧ (List.replicate n true).all id = true := by
  refine ⟨List.map_replicate, ?_⟩
  induction n with
  | zero => rfl
  | succ n ih => rw [List.replicate_succ, List.all_cons, ih] <;> rfl

/-- a def of the text, where it stands and how it is called -/
structure Def (K : PySem.W.Frag) (mg : Str → Option Value) (name : Str) (st : Stmt) (f : Addr) (fd : FuncData) (ps : List Str) : Prop where
  fn : Fun K name name st f fd
  mg : mg name = some (.ref f)
  b : Binds K fd ps []
/-! rules whose written part is a letter -/
section
variable {X : Cx} {K : PySem.W.Frag}
theorem ixL (h : X.K = K) : IxR X (rIxL K) := h ▸ ix_list
theorem ixT (h : X.K = K) : IxR X (rIxT K) := h ▸ ix_tup
theorem ixQ (h : X.K = K) : IxR X (rIx K) := h ▸ ix_seq
def rLenQ (K : PySem.W.Frag) : List V → Hp → VK → Prop := fun xs H Q => ∃ p ys, xs = [.ref p] ∧ (SqL K H p ys ∨ SqT K H p ys) ∧ Q (.int (ys.length : Nat)) H
theorem lenQ (h : X.K = K) : CallR X (.builtin "len") (rLenQ K) := h ▸ call_len_seq
def rLenA (K : PySem.W.Frag) : List V → Hp → VK → Prop := fun xs H Q => ∃ x n, xs = [x] ∧ LenV K x H n ∧ Q (.int (n : Nat)) H
theorem lenA (h : X.K = K) : CallR X (.builtin "len") (rLenA K) := h ▸ call_len
theorem isiK (h : X.K = K) : CallR X (.builtin "isinstance") (rIsi K) := h ▸ call_isi
theorem isiTK (h : X.K = K) : CallR X (.builtin "isinstance") (rIsiT K) := h ▸ call_isiT
theorem allK (h : X.K = K) (hc : X.calm = true) : CallR X (.builtin "all") (rAll K) := h ▸ cr_all hc
theorem anyK (h : X.K = K) (hc : X.calm = true) : CallR X (.builtin "any") (rAny K) := h ▸ cr_any hc
theorem sumK (h : X.K = K) (hc : X.calm = true) : CallR X (.builtin "sum") (rSum K) := h ▸ cr_sum hc
theorem eqDK (h : X.K = K) (hu : X.A.units + 64 < cLine) : OpR X (compareOp .Eq) (rEqD K) := h ▸ op_eqD hu
theorem neDK (h : X.K = K) (hu : X.A.units + 64 < cLine) : OpR X (compareOp .NotEq) (rNeD K) := h ▸ op_neD hu
theorem inQ (h : X.K = K) : OpR X (compareOp .In) (rIn K false) := h ▸ op_in_seq
theorem notInQ (h : X.K = K) : OpR X (compareOp .NotIn) (rIn K true) := h ▸ op_notIn_seq
theorem pi_listK {tg l : Expr} {tl : TE} (h : X.K = K) (hl : PE X l tl) : PI X tg l (iList K tl) := h ▸ pi_list hl
theorem pi_tupK {tg l : Expr} {tl : TE} (h : X.K = K) (hl : PE X l tl) : PI X tg l (iTup K tl) := h ▸ pi_tup hl
theorem pi_zipK {e e2 : Expr} {ta : TA} {p pos tpos : Pos} {elts : List Expr} {kk : Nat} (h : X.K = K) (hg : Gl X "zip") (hm : X.mg "zip" = none) (ha : PA X [e, e2] ta)
    (hs : starEach [e, e2] X.env = (false, eval e X.env) :: starEach [e2] X.env := by rfl) (hpl : (backTo pos (starEach [e2] X.env)).any (·.1) = false := by rfl) :
    PI X (.Tuple elts kk tpos) (.Call (.Name "zip" p) [e, e2] [] pos) (RZ.iZipA K ta) := h ▸ RZ.pi_zipA hg hm ha hs hpl
theorem pi_enumK {e : Expr} {ta : TA} {p pos tpos : Pos} {elts : List Expr} {kk : Nat} (h : X.K = K) (hg : Gl X "enumerate") (hm : X.mg "enumerate" = none) (ha : PA X [e] ta) (hs : starEach [e] X.env = [(false, eval e X.env)] := by rfl) :
    PI X (.Tuple elts kk tpos) (.Call (.Name "enumerate" p) [e] [] pos) (iEnum K ta) := h ▸ pi_enum hg hm ha hs
theorem pg_tupK {es : List Expr} {k : Nat} {pos : Pos} {t : TGs} {n : Nat} (h : X.K = K) (hc : X.calm = true) (ht : PGs X es t) (hn : (assignEach es X.env).length = n := by rfl) (hst : (assignEach es X.env).findIdx? (·.1) = none := by rfl) :
    PG X (.Tuple es k pos) (gTup K n t) := h ▸ pg_tup hc ht hn hst
/-- a new slice, a new list of what a thing holds -/
def rSlLI (K : PySem.W.Frag) : V → Option Int → Option Int → Hp → VK → Prop := fun x lo hi H Q => ∃ a xs, x = .ref a ∧ SqL K H a xs ∧ ∀ p H', Same H H' → H p = none → H' p = some (.lst (cutV xs lo hi)) → Q (.ref p) H'
theorem slL (h : X.K = K) : SlR X (rSlLI K) := fun pins s σ H x v vl vu lo hi sl Q I rx hs pl pu ⟨a, xs, e, q, k⟩ =>
  sl_list pins s σ H x v vl vu lo hi sl Q I rx hs pl pu ⟨a, xs, e, h ▸ q, fun p hp => k p _ (same_new hp) hp upd_same⟩
def rListI (K : PySem.W.Frag) : List V → Hp → VK → Prop := fun xs H Q => ∃ p ys, xs = [.ref p] ∧ (SqL K H p ys ∨ SqT K H p ys) ∧ ∀ l H', Same H H' → H l = none → H' l = some (.lst ys) → Q (.ref l) H'
theorem listI (h : X.K = K) : CallR X (.type "list") (rListI K) := fun pins s σ H xs us Q I r ⟨p, ys, e, q, k⟩ =>
  call_list_of pins s σ H xs us Q I r ⟨p, ys, e, h ▸ q, fun l hl => k l _ (same_new hl) hl upd_same⟩
end
/-! lists of fractions: addresses, tops, bottoms -/
abbrev Fq := Addr × Int × Int
def refs (l : List Fq) : List V := l.map fun z => V.ref z.1
def dat (z : Fq) : PyData := .tuple [.int z.2.1, .int z.2.2]
structure FqAt (H : Hp) (n : Nat) (z : Fq) : Prop where
  at_ : H z.1 = some (.tup [.int z.2.1, .int z.2.2])
  low : IsLow z.2.1 z.2.2
  ta : z.2.1.natAbs ≤ 10 ^ 41 + n
  tb : z.2.2.natAbs ≤ 10 ^ 41 + n
def FrL (H : Hp) (n : Nat) (l : List Fq) : Prop := ∀ z ∈ l, FqAt H n z
theorem FqAt.fr {H H' : Hp} {p : Addr} {n m k : Nat} {z : Fq} (h : FqAt H n z) (B : BoxAt H p m) (f : Fr p H H') (le : n ≤ k) : FqAt H' k z := ⟨f.tup B h.at_, h.low, by have := h.ta; omega, by have := h.tb; omega⟩
theorem FqAt.same {H H' : Hp} {n : Nat} {z : Fq} (h : FqAt H n z) (s : Same H H') : FqAt H' n z := ⟨s _ _ h.at_, h.low, h.ta, h.tb⟩
theorem FrL.fr {H H' : Hp} {p : Addr} {n m k : Nat} {l : List Fq} (h : FrL H n l) (B : BoxAt H p m) (f : Fr p H H') (le : n ≤ k) : FrL H' k l := fun z hz => (h z hz).fr B f le
theorem FrL.same {H H' : Hp} {n : Nat} {l : List Fq} (h : FrL H n l) (s : Same H H') : FrL H' n l := fun z hz => (h z hz).same s
theorem FqAt.wide {H : Hp} {n : Nat} {z : Fq} (h : FqAt H n z) (le : n ≤ 1000) : z.2.1.natAbs < 2 ^ 200 ∧ z.2.2.natAbs < 2 ^ 200 := by
  have h1 := h.ta
  have h2 := h.tb
  have e : 10 ^ 41 + 1000 < 2 ^ 200 := by decide
  omega
theorem refs_len (l : List Fq) : (refs l).length = l.length := List.length_map _
theorem refs_get {l : List Fq} {i : Nat} {z : Fq} (h : l[i]? = some z) : (refs l)[i]? = some (.ref z.1) := by
  unfold refs
  rw [List.getElem?_map, h] <;> rfl
theorem refs_of {l : List Fq} {i : Nat} {x : V} (h : (refs l)[i]? = some x) : ∃ z, l[i]? = some z ∧ x = .ref z.1 := by
  unfold refs at h
  rw [List.getElem?_map] at h
  cases e : l[i]? with
  | none =>
    rw [e] at h
    cases h
  | some z =>
    rw [e] at h
    exact ⟨z, rfl, (Option.some.inj h).symm⟩
theorem dp_pair {K : PySem.W.Frag} {H : Hp} {a : Addr} {t b : Int} (h : H a = some (.tup [.int t, .int b])) : Dp K H (.ref a) (.tuple [.int t, .int b]) := .tup (SqT.of h) (.cons (.int _) (.cons (.int _) .nil))
theorem FrL.dps {K : PySem.W.Frag} {H : Hp} {n : Nat} : ∀ {l : List Fq}, FrL H n l → DpAll K H (refs l) (l.map dat)
  | [], _ => .nil
  | z :: r, h => .cons (dp_pair (h z List.mem_cons_self).at_) (FrL.dps fun y hy => h y (List.mem_cons_of_mem _ hy))
theorem dats_lay (l : List Fq) : PyData.canLayAll0 (l.map dat) = true ∧ PyData.depthAll (l.map dat) ≤ 1 := by
  induction l with
  | nil => exact ⟨rfl, by decide⟩
  | cons z r ih =>
    refine ⟨?_, ?_⟩
    · show (PyData.canLay0 (dat z) && PyData.canLayAll0 (r.map dat)) = true
      rw [ih.1]
      rfl
    · show max (PyData.depth (dat z)) (PyData.depthAll (r.map dat)) ≤ 1
      have e : PyData.depth (dat z) = 1 := rfl
      omega
theorem dats_shaped (l : List Fq) : SeqAt.shaped (.list (l.map dat)) = true := by
  obtain ⟨h1, h2⟩ := dats_lay l
  show (PyData.canLayAll0 (l.map dat) && decide (PyData.depthAll (l.map dat) + 1 ≤ 64)) = true
  rw [h1, decide_eq_true (by omega)] <;> rfl
theorem dats_nil (l : List Fq) : PyData.eqv (.list (l.map dat)) (.list []) = l.isEmpty := by
  cases l <;> rfl
theorem eqv_pair {a b c d : Int} : PyData.eqv (.tuple [.int a, .int b]) (.tuple [.int c, .int d]) = decide (a = c ∧ b = d) := by
  show ((a == c) && ((b == d) && true)) = decide (a = c ∧ b = d)
  rw [Bool.and_true, Bool.decide_and]
  rfl
/-! data of any make beside the box p -/
inductive Da (p : Addr) (H : Hp) : Nat → V → PyData → Prop
  | non (n : Nat) : Da p H (n + 1) .non .none
  | bl (n : Nat) (b : Bool) : Da p H (n + 1) (.bl b) (.bool b)
  | int (n : Nat) (i : Int) : Da p H (n + 1) (.int i) (.int i)
  | str (n : Nat) (x : Str) : Da p H (n + 1) (.str x) (.str x)
  | lst {n : Nat} {a : Addr} {xs : List V} {ds : List PyData} : a ≠ p → H a = some (.lst xs) → xs.length = ds.length → xs.length ≤ 100000 → (∀ (i : Nat) (x : V) (d : PyData), xs[i]? = some x → ds[i]? = some d → Da p H n x d) → Da p H (n + 1) (.ref a) (.list ds)
  | tup {n : Nat} {a : Addr} {xs : List V} {ds : List PyData} : a ≠ p → H a = some (.tup xs) → xs.length = ds.length → xs.length ≤ 100000 → (∀ (i : Nat) (x : V) (d : PyData), xs[i]? = some x → ds[i]? = some d → Da p H n x d) → Da p H (n + 1) (.ref a) (.tuple ds)
theorem Da.fr {p : Addr} {H H' : Hp} (s : Fr p H H') : ∀ {n : Nat} {v : V} {d : PyData}, Da p H n v d → Da p H' n v d := by
  intro n v d h
  induction h with
  | non n => exact .non n
  | bl n b => exact .bl n b
  | int n i => exact .int n i
  | str n x => exact .str n x
  | lst h0 h1 h2 h3 _ ih => exact .lst h0 (s _ _ h0 h1) h2 h3 ih
  | tup h0 h1 h2 h3 _ ih => exact .tup h0 (s _ _ h0 h1) h2 h3 ih
theorem Da.up {p : Addr} {H : Hp} {n m : Nat} {v : V} {d : PyData} (h : Da p H n v d) : n ≤ m → Da p H m v d := by
  intro le
  induction h generalizing m with
  | non n => obtain ⟨k, rfl⟩ : ∃ k, m = k + 1 := ⟨m - 1, by omega⟩; exact .non k
  | bl n b => obtain ⟨k, rfl⟩ : ∃ k, m = k + 1 := ⟨m - 1, by omega⟩; exact .bl k b
  | int n i => obtain ⟨k, rfl⟩ : ∃ k, m = k + 1 := ⟨m - 1, by omega⟩; exact .int k i
  | str n x => obtain ⟨k, rfl⟩ : ∃ k, m = k + 1 := ⟨m - 1, by omega⟩; exact .str k x
  | lst h0 h1 h2 h3 _ ih => obtain ⟨k, rfl⟩ : ∃ k, m = k + 1 := ⟨m - 1, by omega⟩; exact .lst h0 h1 h2 h3 fun i x d a b => ih i x d a b (by omega)
  | tup h0 h1 h2 h3 _ ih => obtain ⟨k, rfl⟩ : ∃ k, m = k + 1 := ⟨m - 1, by omega⟩; exact .tup h0 h1 h2 h3 fun i x d a b => ih i x d a b (by omega)
/-- each of a row is such data -/
def AllDa (p : Addr) (H : Hp) (n : Nat) (xs : List V) : Prop := ∀ x ∈ xs, ∃ d, Da p H n x d
theorem AllDa.fr {p : Addr} {H H' : Hp} {n : Nat} {xs : List V} (h : AllDa p H n xs) (s : Fr p H H') : AllDa p H' n xs := fun x hx => (h x hx).elim fun d q => ⟨d, q.fr s⟩
theorem AllDa.up {p : Addr} {H : Hp} {n m : Nat} {xs : List V} (h : AllDa p H n xs) (le : n ≤ m) : AllDa p H m xs := fun x hx => (h x hx).elim fun d q => ⟨d, q.up le⟩
theorem AllDa.nil {p : Addr} {H : Hp} {n : Nat} : AllDa p H n [] := fun x hx => absurd hx List.not_mem_nil
theorem AllDa.cons {p : Addr} {H : Hp} {n : Nat} {x : V} {xs : List V} (h : ∃ d, Da p H n x d) (t : AllDa p H n xs) : AllDa p H n (x :: xs) := fun y hy => by
  rcases List.mem_cons.mp hy with e | e
  · rw [e]
    exact h
  · exact t y e
theorem AllDa.append {p : Addr} {H : Hp} {n : Nat} {xs ys : List V} (h : AllDa p H n xs) (t : AllDa p H n ys) : AllDa p H n (xs ++ ys) := fun y hy => by
  rcases List.mem_append.mp hy with e | e
  · exact h y e
  · exact t y e
/-- what the datas of a row are -/
theorem AllDa.pick {p : Addr} {H : Hp} {n : Nat} : ∀ {xs : List V}, AllDa p H n xs → ∃ ds : List PyData, xs.length = ds.length ∧ ∀ (i : Nat) (x : V) (d : PyData), xs[i]? = some x → ds[i]? = some d → Da p H n x d
  | [], _ => ⟨[], rfl, fun i x d h => by simp at h⟩
  | x :: xs, h => by
    obtain ⟨d, q⟩ := h x List.mem_cons_self
    obtain ⟨ds, e, r⟩ := AllDa.pick (xs := xs) fun y hy => h y (List.mem_cons_of_mem _ hy)
    refine ⟨d :: ds, by rw [List.length_cons, List.length_cons, e], fun i y c h1 h2 => ?_⟩
    match i, h1, h2 with
    | 0, h1, h2 => cases h1; cases h2; exact q
    | i + 1, h1, h2 => exact r i y c h1 h2
theorem AllDa.tup {p : Addr} {H : Hp} {n : Nat} {xs : List V} {a : Addr} (h : AllDa p H n xs) (ne : a ≠ p) (e : H a = some (.tup xs)) (z : Nat.ble xs.length 100000 = true := by rfl) : ∃ d, Da p H (n + 1) (.ref a) d := by
  obtain ⟨ds, l, r⟩ := h.pick
  exact ⟨_, .tup ne e l (Nat.le_of_ble_eq_true z) r⟩
theorem AllDa.lst {p : Addr} {H : Hp} {n : Nat} {xs : List V} {a : Addr} (h : AllDa p H n xs) (ne : a ≠ p) (e : H a = some (.lst xs)) (z : Nat.ble xs.length 100000 = true := by rfl) : ∃ d, Da p H (n + 1) (.ref a) d := by
  obtain ⟨ds, l, r⟩ := h.pick
  exact ⟨_, .lst ne e l (Nat.le_of_ble_eq_true z) r⟩
theorem daI {p : Addr} {H : Hp} {n : Nat} (i : Int) : ∃ d, Da p H (n + 1) (.int i) d := ⟨_, .int n i⟩
theorem daB {p : Addr} {H : Hp} {n : Nat} (b : Bool) : ∃ d, Da p H (n + 1) (.bl b) d := ⟨_, .bl n b⟩
theorem daS {p : Addr} {H : Hp} {n : Nat} (x : Str) : ∃ d, Da p H (n + 1) (.str x) d := ⟨_, .str n x⟩
theorem daN {p : Addr} {H : Hp} {n : Nat} : ∃ d, Da p H (n + 1) .non d := ⟨_, .non n⟩
theorem AllDa.one {p : Addr} {H : Hp} {n m : Nat} {x : V} (h : ∃ d, Da p H n x d) (le : n ≤ m) : AllDa p H m [x] := .cons (h.elim fun d q => ⟨d, q.up le⟩) .nil
theorem AllDa.two {p : Addr} {H : Hp} {n : Nat} {x y : V} (h : ∃ d, Da p H n x d) (k : ∃ d, Da p H n y d) : AllDa p H n [x, y] := .cons h (.cons k .nil)
theorem da_fr {p : Addr} {H H' : Hp} {n : Nat} {v : V} (h : ∃ d, Da p H n v d) (s : Fr p H H') : ∃ d, Da p H' n v d := h.elim fun d q => ⟨d, q.fr s⟩
theorem da_up {p : Addr} {H : Hp} {n m : Nat} {v : V} (h : ∃ d, Da p H n v d) (le : n ≤ m) : ∃ d, Da p H m v d := h.elim fun d q => ⟨d, q.up le⟩
theorem BoxAt.new {H : Hp} {p a : Addr} {n : Nat} (h : BoxAt H p n) (e : H a = none) : a ≠ p := by
  obtain ⟨o, ho⟩ := h.some
  exact (ne_of_none ho e).symm
/-- an item at a place that is there -/
theorem at_some {xs : List V} {z : Int} (h0 : 0 ≤ z) (h1 : z < (xs.length : Int)) : ∃ v, atI xs z = some v ∧ v ∈ xs := by
  have g : xs[z.toNat]? = some xs[z.toNat] := List.getElem?_eq_getElem (by omega)
  exact ⟨_, at_of (j := z.toNat) (by omega) g, List.getElem_mem _⟩
/-- which kinds of built-in classes a data is of -/
def isTupD : PyData → Bool
  | .tuple _ => true
  | _ => false
def isIntD : PyData → Bool
  | .int _ => true
  | .bool _ => true
  | _ => false
def isBoolD : PyData → Bool
  | .bool _ => true
  | _ => false
def isListD : PyData → Bool
  | .list _ => true
  | _ => false
def isStrD : PyData → Bool
  | .str _ => true
  | _ => false
structure Kinds (K : PySem.W.Frag) (H : Hp) (v : V) (d : PyData) (t : String) : Prop where
  ty : TyX K H v (.type t)
  tup : kitB t "tuple" = some (isTupD d)
  lst : kitB t "list" = some (isListD d)
  int : kitB t "int" = some (isIntD d)
  bool : kitB t "bool" = some (isBoolD d)
  str : kitB t "str" = some (isStrD d)
theorem Da.kinds {K : PySem.W.Frag} {p : Addr} {H : Hp} {n : Nat} {v : V} {d : PyData} (h : Da p H n v d) : ∃ t, Kinds K H v d t := by
  cases h with
  | non => exact ⟨"NoneType", .base .non, by decide +kernel, by decide +kernel, by decide +kernel, by decide +kernel, by decide +kernel⟩
  | bl _ b => exact ⟨"bool", .base (.bl b), by show _ = some false; decide +kernel, by show _ = some false; decide +kernel, by show _ = some true; decide +kernel, by show _ = some true; decide +kernel, by show _ = some false; decide +kernel⟩
  | int _ i => exact ⟨"int", .base (.int i), by show _ = some false; decide +kernel, by show _ = some false; decide +kernel, by show _ = some true; decide +kernel, by show _ = some false; decide +kernel, by show _ = some false; decide +kernel⟩
  | str _ x => exact ⟨"str", .base (.str x), by show _ = some false; decide +kernel, by show _ = some false; decide +kernel, by show _ = some false; decide +kernel, by show _ = some false; decide +kernel, by show _ = some true; decide +kernel⟩
  | lst _ a1 => exact ⟨"list", .base (.lst a1), by show _ = some false; decide +kernel, by show _ = some true; decide +kernel, by show _ = some false; decide +kernel, by show _ = some false; decide +kernel, by show _ = some false; decide +kernel⟩
  | tup _ a1 => exact ⟨"tuple", .base (.tup a1), by show _ = some true; decide +kernel, by show _ = some false; decide +kernel, by show _ = some false; decide +kernel, by show _ = some false; decide +kernel, by show _ = some false; decide +kernel⟩
/-- repr of a truth -/
theorem cr_reprB {X : Cx} : CallR X (.builtin "repr") (fun xs H Q => ∃ b : Bool, xs = [.bl b] ∧ Q (.str (if b = true then "True" else "False")) H) := by
  intro pins s σ H xs us Q I r h
  obtain ⟨b, rfl, q⟩ := h
  cases r with
  | cons r1 r2 =>
    cases r2
    cases r1
    exact PySem.P.repr_of_bool ⟨.str _, H, I.tok _, ⟨_, rfl⟩, q⟩
/-- xs + ys, a new list -/
def rCatI : R2 := fun x y H Q => ∃ l b xs zs, x = .ref l ∧ y = .ref b ∧ H l = some (.lst xs) ∧ H b = some (.lst zs) ∧ xs.length + zs.length ≤ sizeLine ∧ ∀ p H', Same H H' → H p = none → H' p = some (.lst (xs ++ zs)) → Q (.ref p) H'
theorem op_catI {X : Cx} : OpR X (binaryOp .Add) rCatI := fun pins s σ H x y v u Q I rx ry ⟨l, b, xs, zs, e1, e2, h1, h2, z, k⟩ =>
  op_cat pins s σ H x y v u Q I rx ry ⟨l, b, xs, zs, e1, e2, h1, h2, z, fun p hp => k p _ (same_new hp) hp upd_same⟩
/-- a number; a fraction -/
def isNumD (d : PyData) : Bool := isIntD d && !isBoolD d
def isFracD : PyData → Bool
  | .tuple [.int t, .int b] => decide (0 < b) && decide (Nat.gcd t.natAbs b.natAbs = 1)
  | _ => false
theorem frac_no {d e : PyData} (h : isNumD d = false ∨ isNumD e = false) : isFracD (.tuple [d, e]) = false := by
  cases d <;> cases e <;> first | rfl | (rcases h with h | h <;> cases h)
theorem frac_len {ds : List PyData} (h : ds.length ≠ 2) : isFracD (.tuple ds) = false := by
  match ds, h with
  | [], _ => rfl
  | [d], _ => cases d <;> rfl
  | [_, _], h => exact absurd rfl h
  | d :: e :: _ :: _, _ => cases d <;> cases e <;> rfl
theorem num_int {p : Addr} {H : Hp} {n : Nat} {v : V} {d : PyData} (h : Da p H n v d) (k : isNumD d = true) : ∃ i, d = .int i ∧ v = .int i := by
  cases h with
  | int _ i => exact ⟨i, rfl, rfl⟩
  | non => cases k
  | bl => cases k
  | str => cases k
  | lst => cases k
  | tup => cases k
/-- rows of truths as data -/
theorem dps_bools {K : PySem.W.Frag} {H : Hp} : ∀ bs : List Bool, DpAll K H (bs.map V.bl) (bs.map PyData.bool)
  | [] => .nil
  | b :: r => .cons (.bl b) (dps_bools r)
theorem bools_shaped (bs : List Bool) : SeqAt.shaped (.list (bs.map PyData.bool)) = true := by
  have h : PyData.canLayAll0 (bs.map PyData.bool) = true ∧ PyData.depthAll (bs.map PyData.bool) = 0 := by
    induction bs with
    | nil => exact ⟨rfl, rfl⟩
    | cons b r ih =>
      refine ⟨?_, ?_⟩
      · show (PyData.canLay0 (.bool b) && PyData.canLayAll0 (r.map PyData.bool)) = true
        rw [ih.1] <;> rfl
      · show max (PyData.depth (.bool b)) (PyData.depthAll (r.map PyData.bool)) = 0
        rw [ih.2] <;> rfl
  show (PyData.canLayAll0 (bs.map PyData.bool) && decide (PyData.depthAll (bs.map PyData.bool) + 1 ≤ 64)) = true
  rw [h.1, h.2] <;> rfl
theorem take_one {α : Type} {l : List α} {i : Nat} {x : α} (h : l[i]? = some x) : l.take (i + 1) = l.take i ++ [x] := by
  rw [List.take_add_one, h] <;> rfl
end KR
/-! ### texts -/
namespace KR
open PySem PySem.Spec PyProof.Rows L2
theorem strs_of : ∀ {ys : List Str} {us : List Value}, Vals (ys.map V.str) us → StrsAre us ys
  | [], _, .nil => .nil
  | y :: r, _, .cons h t => by
    obtain ⟨k, rfl⟩ := h
    exact .cons y k (strs_of t)
section
variable {X : Cx} {K : PySem.W.Frag}
/-- sep.join(it), it a list walked from its end -/
theorem join_rev {prog : Program} {w : World} {A : Around} {E : Value → Shared → Prop} {s : Shared} {x : Str} {t : Tok} {it l : Addr} {items : Array Value} {ys : List Str} {Q : Value → Shared → Prop} (hh : A.handled = none)
    (hit : s.heap.IsRevIter it l ((items.size : Int) - 1)) (hl : s.heap.IsList l items) (hne : l ≠ it) (hn : items.size ≤ sizeLine)
    (hP : ∀ acc : Array Value, ItemsOf (fun i v => items[items.size - 1 - i]? = some v) acc items.size → StrsAre acc.toList ys) (hok : (ys.map (·.length)).sum + ys.length * x.length ≤ 16777216)
    (hq : ∀ (h' : Heap) (t' k : Nat), (∀ b o, b ≠ it → s.heap.get? b = some o → h'.get? b = some o) → Q (.str (Txt.join x ys) t') { s with heap := h', toks := k }) :
    wpAny (model prog w) A (call (.builtin "str.join") [.str x t, .ref it]) Q E s := by
  apply wpAny_call
  refine codeAny_call_builtin F.slot_str_join.plain F.entry_str_join (F.slot_str_join.check _ _ _ _ _ _ _ _ (typeIs_str _ _ _) (F.args_str_join_2 _ _) ?_)
  rw [join_tree_other]
  refine wpAny_bind (wpAny_typeOf hit.typeIs ?_)
  show wpAny _ A.in1 ((pyIter (.ref it)).tryCatch _ >>= fun j => collect j >>= fun vs => joinTail x vs) _ _ s
  refine wpAny_bind (wpAny_tryCatch (wpAny_pyIter_revIter hit (wpAny_bind (RT.collect_rev (A := A.in1) hh hit hl hne hn fun h' tk acc hk hacc => ?_))))
  obtain ⟨ps, e1, e2⟩ := strsAre_values (hP acc hacc)
  subst e2
  rw [e1]
  have fits := joinOk_of hok
  unfold JoinOk at fits
  rw [Bool.not_eq_true'] at fits
  have g : Gives (joinTail x (strValues ps)) (joinMade x ps) := by
    have g0 := gives_joinTail x ps fits
    rcases ps with _ | ⟨a, _ | ⟨b, r⟩⟩ <;> exact g0
  exact g prog w A (wants Q E) { s with heap := h', toks := tk } (post_join ps ⟨joinFit_length fits, fun t' k => hq h' t' k hk⟩)
/-- sep.join(reversed(xs)), xs a list of texts -/
def tJoinRev (K : PySem.W.Frag) (to te : TE) : TE := fun σ H Q => to σ H fun x H1 => (∃ a, x = .str a) ∧ te σ H1 fun v H2 => ∃ (a : Str) (q : Addr) (ys : List Str), x = .str a ∧ v = .ref q ∧ SqL K H2 q (ys.map V.str) ∧ (ys.map (·.length)).sum + ys.length * a.length ≤ 16777216 ∧ Q (.str (Txt.join a ys.reverse)) H2
theorem sum_rev (l : List Nat) : l.reverse.sum = l.sum := by
  induction l with
  | nil => rfl
  | cons a r ih =>
    rw [List.reverse_cons, List.sum_append, ih, List.sum_cons, List.sum_cons, List.sum_nil]
    omega
theorem pe_joinRev {o e : Expr} {to te : TE} {apos pos p pos2 : Pos} (hK : X.K = K) (hc : X.calm = true) (hg : Gl X "reversed") (hm : X.mg "reversed" = none) (ho : PE X o to) (he : PE X e te)
    (hs1 : starEach [.Call (.Name "reversed" p) [e] [] pos2] X.env = [(false, eval (.Call (.Name "reversed" p) [e] [] pos2) X.env)] := by rfl) (hs : starEach [e] X.env = (false, eval e X.env) :: starEach [] X.env := by rfl)
    (hbase : attributeBase o "join" X.env (eval o X.env) = eval o X.env := by rfl) (hline : (apos.endLine == pos.line) = true := by rfl) :
    PE X (.Call (.Attribute o "join" apos) [.Call (.Name "reversed" p) [e] [] pos2] [] pos) (tJoinRev K to te) := by
  subst hK
  constructor
  intro pins s σ H Q I want
  refine PySem.Call_method1 hbase hs1 hline (thn (ho.run pins s σ H _ I want) ?_)
  rintro v s1 ⟨x, H1, I1, r1, ⟨a, rfl⟩, q1⟩
  obtain ⟨t, rfl⟩ : ∃ t, v = Value.str a t := r1
  refine ⟨"str", "str.join", F.plainAttrs_str, F.slot_str_join, F.type_str_join, typeIs_str _ _ _, nofun, Calls.callWith_builtin rfl (Calls.evalArgs_plain (Calls.spliced_cons ?_))⟩
  refine Call_ (ld_blt I1 hg hm PyProof.Rows.boot_reversed (PyProof.Rows.callWith_type1 (args_cons (thn (he.run pins s1 σ H1 _ I1 q1) ?_) hs) hs rfl))
  rintro u s2 ⟨y, H2, I2, r2, a', q, ys, ea, rfl, hq, hz, k⟩
  cases ea
  cases r2
  obtain ⟨its, rv, pl, hsz⟩ := I2.list hq
  refine args_nil (call_reversed_list pl.isList (Calls.spliced_nil ?_))
  have old : ∀ b o, s2.heap.get? b = some o → (s2.heap.push (revObj q ((its.toArray.size : Int) - 1))).get? b = some o := fun b o g => Heap.get?_push_of_some _ g
  obtain ⟨oq, hoq, _⟩ := id pl.isList
  have neq : q ≠ s2.heap.objs.size := Nat.ne_of_lt (Heap.lt_size hoq)
  have len : its.toArray.size ≤ sizeLine := by rw [List.size_toArray, ← rv.length]; exact hsz
  refine join_rev (s := { s2 with heap := s2.heap.push (revObj q ((its.toArray.size : Int) - 1)) }) (ys := ys.reverse) (I2.ok.hd hc) ⟨_, Heap.get?_push_size _ rfl, rfl, rfl⟩ (pl.isList.push _) neq len (fun acc hacc => strs_of ?_) ?_ fun h' t' k' keep => ?_
  · rw [List.map_reverse]
    exact RT.vals_rev rv hacc
  · rw [List.map_reverse, sum_rev, List.length_reverse]
    exact hz
  · exact ⟨.str _, H2, I2.kept (t' := k') (fun b o g => keep b o (Nat.ne_of_lt (Heap.lt_size g)) (old b o g)), ⟨t', rfl⟩, k⟩
end
/-! texts as rows of codes -/
abbrev S (l : List Nat) : Str := ⟨l.toArray⟩
theorem tl_S (l : List Nat) : TL.tl (S l) = l := rfl
theorem S_tl (x : Str) : S (TL.tl x) = x := TL.mk_tl x
theorem S_len (l : List Nat) : (S l).length = l.length := by rw [TL.len_tl]
theorem S_app (l m : List Nat) : S l ++ S m = S (l ++ m) := TL.ext_tl (by rw [TL.tl_append])
theorem S_inj {l m : List Nat} (h : S l = S m) : l = m := congrArg TL.tl h
theorem lit_minus : ("-" : Str) = S [45] := by decide +kernel
theorem lit_stroke : ("/" : Str) = S [47] := by decide +kernel
theorem lit_one : ("1" : Str) = S [49] := by decide +kernel
theorem lit_zero : ("0" : Str) = S [48] := by decide +kernel
theorem lit_none : ("" : Str) = S [] := by decide +kernel
theorem lit_empty : Str.empty = S [] := by decide +kernel
theorem lit_digits : ("0123456789" : Str) = S [48, 49, 50, 51, 52, 53, 54, 55, 56, 57] := by decide +kernel
theorem num_S (n : Nat) : Str.ofString (toString ((n : Nat) : Int)) = S (TL.numL n) := TL.ext_tl (TL.tl_num n)
theorem numL_cut (n : Nat) : TL.numL n = (if n / 10 = 0 then [] else TL.numL (n / 10)) ++ [48 + n % 10] := by
  by_cases h : n < 10
  · rw [TL.numL_lt h, if_pos (by omega), show n % 10 = n by omega] <;> rfl
  · rw [TL.numL_step (by omega), if_neg (by omega)]
theorem dig_at {k : Int} (h0 : 0 ≤ k) (h1 : k < 10) : atI ("0123456789" : Str).cps.toList k = some (48 + k.toNat) := by
  rw [lit_digits]
  have ks : k = 0 ∨ k = 1 ∨ k = 2 ∨ k = 3 ∨ k = 4 ∨ k = 5 ∨ k = 6 ∨ k = 7 ∨ k = 8 ∨ k = 9 := by omega
  rcases ks with e | e | e | e | e | e | e | e | e | e <;> subst e <;> rfl
theorem lit_len : ("0123456789" : Str).length ≤ sizeLine := by decide +kernel
/-- text times a number from 0 -/
theorem op_mul_str {X : Cx} : OpR X (binaryOp .Mult) (fun x y H Q => ∃ (a : Str) (n : Nat), x = .str a ∧ y = .int (n : Int) ∧ a.length * n ≤ 100000 ∧ n ≤ 100000 ∧ Q (.str (Txt.mul a n)) H) := by
  intro pins s σ H x y v u Q I rx ry h
  obtain ⟨a, n, rfl, rfl, hz, hn, q⟩ := h
  obtain ⟨t, rfl⟩ := rx
  obtain ⟨t', rfl⟩ := ry
  refine SB.mul ⟨?_, fun h1 h2 => ?_, fun h1 h2 => ?_⟩ fun t2 k => ⟨.str _, H, I.tok _, ⟨_, rfl⟩, q⟩
  · rw [decide_eq_false (by omega), decide_eq_false (by omega)] <;> rfl
  · have n1 : (1 : Int) ≤ (n : Int) := by omega
    intro bad
    have b2 : ((2 ^ 63 - 1 : Int)) / (n : Int) ≥ (2 ^ 63 - 1 : Int) / 100000 := by
      refine Int.le_ediv_of_mul_le (by omega) ?_
      have e : (2 ^ 63 - 1 : Int) / 100000 * (n : Int) ≤ (2 ^ 63 - 1 : Int) / 100000 * 100000 := Int.mul_le_mul_of_nonneg_left (by omega) (by decide)
      exact Int.le_trans e (by decide)
    have a9 : a.length ≤ 100000 := by
      have : a.length * 1 ≤ a.length * n := Nat.mul_le_mul_left _ (by omega)
      omega
    have e3 : (2 ^ 63 - 1 : Int) / 100000 = 92233720368547 := by decide
    omega
  · rw [Int.toNat_natCast]
    exact decide_eq_false (by have := small hz; omega)
theorem mul_zero (a : Str) : Txt.mul a ((0 : Nat) : Int) = S [] := by
  unfold Txt.mul
  rw [if_pos (by decide), lit_empty]
theorem mul_one (a : Str) : Txt.mul a ((1 : Nat) : Int) = a := by
  unfold Txt.mul
  rw [if_neg (by decide), if_pos (by rfl)]
/-- a minus ahead, cut off -/
theorem sub_minus (l : List Nat) : Builtin.Str.subAt (S l) (S [45]) 0 = (l.head? == some 45) := by
  unfold Builtin.Str.subAt
  rcases l with _ | ⟨c, r⟩
  · rfl
  · have e : ((S (c :: r)).cps.extract 0 (0 + (S [45]).length)) = #[c] := by
      apply Array.toList_inj.mp
      rw [Array.toList_extract]
      rfl
    rw [e]
    show (#[c] == #[45]) = (some c == some 45)
    by_cases h : c = 45
    · subst h
      rfl
    · have e2 : (some c == some 45) = false := by
        rw [beq_eq_false_iff_ne]
        exact fun z => h (Option.some.inj z)
      rw [e2, beq_eq_false_iff_ne]
      intro z
      exact h (by have := congrArg (fun a => a[0]?) z; simpa using this)
theorem prefix_minus (l : List Nat) : Txt.removeprefix (S l) (S [45]) = S (if l.head? = some 45 then l.tail else l) := by
  unfold Txt.removeprefix
  rw [sub_minus]
  by_cases h : l.head? = some 45
  · rw [if_pos h, if_pos (by rw [h] <;> rfl)]
    rcases l with _ | ⟨c, r⟩
    · cases h
    · show (if ((S (c :: r)).length - (S [45]).length == (S (c :: r)).length) = true then S (c :: r) else Builtin.Str.strSub (S (c :: r)) (S [45]).length (S (c :: r)).length) = S r
      have e1 : (S (c :: r)).length = r.length + 1 := by rw [S_len] <;> rfl
      have e2 : (S [45]).length = 1 := rfl
      rw [if_neg (by rw [e1, e2, beq_iff_eq]; omega)]
      apply TL.ext_tl
      show ((S (c :: r)).cps.extract (S [45]).length (S (c :: r)).length).toList = r
      rw [Array.toList_extract, e1, e2]
      show List.take (r.length + 1 - 1) (List.drop 1 (c :: r)) = r
      rw [Nat.add_sub_cancel]
      exact List.take_length
  · rw [if_neg h, if_neg (by rw [beq_iff_eq]; exact h)]
    rfl
theorem starts_minus (l : List Nat) : Txt.startswith (S l) (S [45]) = (l.head? == some 45) := by
  unfold Txt.startswith
  rw [sub_minus]
  rcases l with _ | ⟨c, r⟩
  · rfl
  · rw [decide_eq_true (show 0 + (S [45]).length ≤ (S (c :: r)).length by rw [S_len, S_len]; show 0 + 1 ≤ r.length + 1; omega), Bool.true_and]
/-- one to so many figures -/
def figs (l : List Nat) : Bool := !l.isEmpty && l.all fun c => decide (48 ≤ c) && decide (c ≤ 57)
theorem ascii_S (l : List Nat) : Txt.isascii (S l) = l.all (· < 128) := by
  unfold Txt.isascii
  rw [← Array.all_toList]
theorem dig_code : ∀ c, c < 128 → Unicode.isDigit c = (decide (48 ≤ c) && decide (c ≤ 57)) := by decide +kernel
theorem digit_S {l : List Nat} (h : l.all (· < 128) = true) : Txt.isdigit (S l) = figs l := by
  unfold Txt.isdigit figs
  rw [← Array.all_toList, S_len]
  have e1 : decide (l.length > 0) = !l.isEmpty := by
    cases l <;> rfl
  have e2 : l.all Unicode.isDigit = l.all fun c => decide (48 ≤ c) && decide (c ≤ 57) := by
    rw [List.all_eq_true] at h
    clear e1
    induction l with
    | nil => rfl
    | cons c r ih =>
      rw [List.all_cons, List.all_cons, ih fun x hx => h x (List.mem_cons_of_mem _ hx), dig_code c (of_decide_eq_true (h c List.mem_cons_self))]
  rw [e1]
  exact congrArg _ e2
theorem figs_ascii {l : List Nat} (h : figs l = true) : l.all (· < 128) = true := by
  unfold figs at h
  rw [Bool.and_eq_true] at h
  have h3 := List.all_eq_true.mp h.2
  rw [List.all_eq_true]
  intro c hc
  have := h3 c hc
  rw [Bool.and_eq_true] at this
  have h2 := of_decide_eq_true this.2
  exact decide_eq_true (by omega)
theorem figs_num (n : Nat) : figs (TL.numL n) = true := by
  unfold figs
  rw [Bool.and_eq_true]
  refine ⟨?_, ?_⟩
  · have := TL.numL_ne n
    cases e : TL.numL n with
    | nil => exact absurd e this
    | cons _ _ => rfl
  · rw [List.all_eq_true]
    intro c hc
    have := TL.numL_digits n c hc
    rw [decide_eq_true this.1, decide_eq_true this.2] <;> rfl
theorem figs_int {l : List Nat} (h : figs l = true) (z : l.length ≤ 600) : PySem.intText? (S l) = some ((NumText.digitsVal l : Nat) : Int) := by
  unfold figs at h
  rw [Bool.and_eq_true] at h
  have d : NumText.AllDigits l := fun c hc => by
    have := List.all_eq_true.mp h.2 c hc
    rw [Bool.and_eq_true] at this
    exact ⟨of_decide_eq_true this.1, of_decide_eq_true this.2⟩
  have ne : l ≠ [] := by
    intro e
    rw [e] at h
    exact Bool.noConfusion h.1
  exact PySem.intText_digits (x := S l) d ne (by rw [S_len]; omega)
/-- a fraction's text -/
def fracL (t b : Int) : List Nat := (if t < 0 then [45] else []) ++ (TL.numL t.natAbs ++ (if b = 1 then [] else 47 :: TL.numL b.natAbs))
/-- ahead of the first stroke, whether there is one, behind it -/
def cutL : List Nat → List Nat × Bool × List Nat
  | [] => ([], false, [])
  | c :: r => if c = 47 then ([], true, r) else (c :: (cutL r).1, (cutL r).2)
theorem cut_app {a b : List Nat} (h : 47 ∉ a) : cutL (a ++ 47 :: b) = (a, true, b) := by
  induction a with
  | nil => rfl
  | cons c r ih =>
    have hc : c ≠ 47 := fun e => h (by rw [e]; exact List.mem_cons_self)
    have ih' := ih fun m => h (List.mem_cons_of_mem _ m)
    show (if c = 47 then _ else (c :: (cutL (r ++ 47 :: b)).1, (cutL (r ++ 47 :: b)).2)) = _
    rw [if_neg hc, ih']
theorem cut_none {a : List Nat} (h : 47 ∉ a) : cutL a = (a, false, []) := by
  induction a with
  | nil => rfl
  | cons c r ih =>
    have hc : c ≠ 47 := fun e => h (by rw [e]; exact List.mem_cons_self)
    have ih' := ih fun m => h (List.mem_cons_of_mem _ m)
    show (if c = 47 then _ else (c :: (cutL r).1, (cutL r).2)) = _
    rw [if_neg hc, ih']
/-- either no stroke, or the first one -/
theorem cut_ways (l : List Nat) : (47 ∉ l ∧ cutL l = (l, false, [])) ∨ ∃ a b, l = a ++ 47 :: b ∧ 47 ∉ a ∧ cutL l = (a, true, b) := by
  by_cases h : 47 ∈ l
  · obtain ⟨a, b, e, n⟩ := List.eq_append_cons_of_mem h
    exact .inr ⟨a, b, e, n, by rw [e]; exact cut_app n⟩
  · exact .inl ⟨h, cut_none h⟩
end KR
/-! ### defs that ask repr: no repr is under way around them -/
namespace KR
open PySem PySem.Spec PyProof.Rows L2
section
variable {P : Program} {w : World} {K : PySem.W.Frag} {mg : Str → Option Value} {base : Heap}
structure FnG (P : Program) (w : World) (K : PySem.W.Frag) (mg : Str → Option Value) (base : Heap) (k : Nat) (f : Addr) (fd : FuncData) (ps : List Str) (sp : Sp) : Prop where
  many : ∀ vs H Q E, sp vs H Q E → vs.length = ps.length
  does : ∀ (A : Around) (outer : List Env) (s : Shared) (H : Hp) (args : Args) (us : List Value) (vs : List V) (Q : VK) (E : XK), Room k A → A.guards = some [] → Env0 P w K mg base A outer s H → BindsTo s fd args (ps.zip us) → Vals vs us →
    sp vs H Q E → codeAny (model P w) A (.call (.ref f) args) (CR CX0 outer P w H s Q E) s
/-- the end of a def's body is the end of its call -/
theorem body_end {N : List Str} {qual : Str} {sc : Scope} {f : Addr} {cdv : Value} {A : Around} {outer : List Env} {s s' : Shared} {H : Hp} {Q : VK} {E : XK} {fl : Flow}
    (h : SP (cxOf CX0 P w K mg base N qual sc f cdv A outer s H E) [] { nx := fun _ H' => Q .non H', rt := Q } fl s') : CR CX0 outer P w H s Q E (.ok (.ret (match fl with | .ret u => u | _ => .none))) s' ∧ (∀ u, fl = .ret u ∨ fl = .next ∨ fl = .brk ∨ fl = .cont → True) ∧ fl ≠ .brk ∧ fl ≠ .cont := by
  cases fl <;> simp only [SP] at h
  case next => obtain ⟨_, H', J, q⟩ := h; exact ⟨⟨V.non, H', J.os, J.bare, J.base, J.hok, rfl, q⟩, fun _ _ => trivial, nofun, nofun⟩
  case ret u => obtain ⟨v, _, H', J, rv, q⟩ := h; exact ⟨⟨v, H', J.os, J.bare, J.base, J.hok, rv, q⟩, fun _ _ => trivial, nofun, nofun⟩
  case brk => exact absurd h.choose_spec.choose_spec.2 id
  case cont => exact absurd h.choose_spec.choose_spec.2 id
theorem okG {x qual : Str} {st : Stmt} {f : Addr} {fd : FuncData} {N ps : List Str} {k : Nat} {sp : Sp} (F : Fun K x qual st f fd) (S : FnScope N ps (defScope st)) (many : ∀ vs H Q E, sp vs H Q E → vs.length = ps.length)
    (body : ∀ (cdv : Value) (A : Around) (outer : List Env) (s : Shared) (H : Hp) (vs : List V) (Q : VK) (E : XK), Room k (A.deeper (envOfC qual (defScope st) s.heap.objs.size f cdv)) → A.guards = some [] → sp vs H Q E →
      ∃ t, PSs (cxOf CX0 P w K mg base N qual (defScope st) f cdv A outer s H E).nox (defBody st) t ∧ t { nx := fun _ H' => Q .non H', rt := Q } (start N vs) H) : FnG P w K mg base (k + 1) f fd ps sp := by
  obtain ⟨_, _, _, _, _, _, cdv, _, _, rfl, lk, hcd⟩ := F.ex
  refine ⟨many, ?_⟩
  intro A outer s H args us vs Q E hr hg e0 hb rv hsp
  obtain ⟨t, ht, hq⟩ := body cdv A outer s H vs Q E (hr.deeper _) hg hsp
  have inK : K.In s.heap := e0.mod.kin.keeps fun b o q => (e0.bs b o q).1
  apply codeAny_call_function hr.depth (inK _ _ lk) rfl S.co S.gen rfl (PySem.W.codeRec_of inK hcd)
  refine hb _ _ _ _ (wpAny_newFunctionEnv_cells S.kind ?_ ?_)
  · rintro ⟨n, v⟩ hy
    exact (S.par n (List.of_mem_zip hy).1).imp id fun q => ⟨q, PySem.W.cellsFrom_some _ _ _ (Or.inl q)⟩
  · rintro env rfl s1 made
    refine ⟨(e0.mod.nolimit.keeps fun b o q => (e0.bs b o q).1).keeps made.toInCall.keep, codeAny_func ?_⟩
    have I := inv_start (CX := CX0) (E := E) S hr.hd e0 (many _ _ _ _ hsp) rv made
    refine wpAny_mono (ht.nox.run [] s1 (start N vs) H _ I hq) (fun fl s' hs => ?_) fun _ _ z => z
    obtain ⟨r, _, n1, n2⟩ := body_end hs
    cases fl with
    | next => exact r
    | ret u => exact r
    | brk => exact absurd rfl n1
    | cont => exact absurd rfl n2
end
section
variable {X : Cx} {k : Nat} {f : Addr} {fd : FuncData} {ps : List Str} {sp : Sp} {ds : List Value} {dvs : List V} {E : XK} {x : Str} {p pos : Pos} {e : Expr} {es : List Expr} {t : TA}
/-- a call of such a def, where no repr is under way -/
theorem pe_callG (F : FnG X.prog X.w X.K X.mg X.base k f fd ps sp) (room : Room k X.A) (calm : X.A.guards = some []) (glob : Gl X x) (at_ : X.mg x = some (.ref f)) (keep : PySem.W.keepIn X.K (.ref f) = true) (binds : Binds X.K fd ps ds) (dflt : Vals dvs ds) (pass : Passes CX0 X E)
    (args : PA X (e :: es) t) (nd : (x == ("__debug__" : Str)) = false := by decide) (he : starEach (e :: es) X.env = (false, eval e X.env) :: starEach es X.env := by rfl) (hpl : (backTo pos (starEach es X.env)).any (·.1) = false := by rfl) :
    PE X (.Call (.Name x p) (e :: es) [] pos) (tCall sp dvs E t) := by
  constructor
  intro pins s σ H Q I want
  refine wpAny_Call_Name_kw (ld_glob I glob at_ (PySem.W.callWith_K (h₀ := X.base) I.ok.mod.kin keep (thn (args.run pos pins s σ H _ I want) ?_) he hpl) nd)
  rintro us s1 ⟨vs, H1, I1, r, q⟩
  have many := F.many _ _ _ _ q
  have both : Vals (vs ++ dvs) (us ++ ds) := r.append dflt
  refine ⟨I1.kIn, wpAny_call (codeAny_mono (F.does X.A X.stack s1 H1 ⟨us, []⟩ _ _ Q E room calm I1.env0 (binds s1 us I1.kIn (both.length ▸ many)) both q) ?_)⟩
  intro r s' post
  match r, post with
  | .error e, post => exact pass pins σ H1 s1 e s' I1 post
  | .ok (.ret u), post => exact I1.after post
  | .ok .next, post => exact post.elim
  | .ok .brk, post => exact post.elim
  | .ok .cont, post => exact post.elim
end
/-- a def that asks no repr is one -/
theorem FnG.of {P : Program} {w : World} {K : PySem.W.Frag} {mg : Str → Option Value} {base : Heap} {k : Nat} {f : Addr} {fd : FuncData} {ps : List Str} {sp : Sp} (F : FnOk P w K mg base CX0 k f fd ps sp) : FnG P w K mg base k f fd ps sp :=
  ⟨F.len, fun A outer s H args us vs Q E hr _ => F.run A outer s H args us vs Q E hr⟩
/-- repr of data that is no text -/
def rReprD (K : PySem.W.Frag) : List V → Hp → VK → Prop := fun xs H Q => ∃ (a : Addr) (d : PyData), xs = [.ref a] ∧ Dp K H (.ref a) d ∧ d.showable = true ∧ d.hasDict = false ∧ d.depth ≤ 60 ∧ d.shown.length ≤ sizeLine ∧ Q (.str d.shown) H
theorem cr_reprD {X : Cx} (hg : X.A.guards = some []) (hu : X.A.units + 64 < cLine) : CallR X (.builtin "repr") (rReprD X.K) := by
  intro pins s σ H xs us Q I r h
  obtain ⟨a, d, rfl, dp, sh, nd, dd, sz, q⟩ := h
  cases r with
  | cons r1 r2 =>
    cases r2
    cases r1
    obtain ⟨as, rd⟩ := Dp.reads I d _ _ dp rfl
    exact repr_of_reads' rd sh (PyData.noDict_hsm nd) hg (by omega) (fun _ _ e => e) (fun h' u tk hk => ⟨.str _, H, I.kept (fun b o e => hk b o e), ⟨_, rfl⟩, q⟩) sz
theorem cr_reprDK {X : Cx} {K : PySem.W.Frag} (h : X.K = K) (hg : X.A.guards = some []) (hu : X.A.units + 64 < cLine) : CallR X (.builtin "repr") (rReprD K) := h ▸ cr_reprD hg hu
section
variable {P : Program} {w : World} {K : PySem.W.Frag} {mg mb : Str → Option Value} {k : Nat} {fa a : Addr} {fd : FuncData} {x : Str} {sp : Sp} {s₁ : Shared} {vs : List Value} {ns : List Int}
/-- what is tracked when the law is called: the script, unless the module itself made it -/
def scr (K : PySem.W.Frag) (a : Addr) (ob : Obj) (ns : List Int) : Hp := fun b => if b = a ∧ K.lookup a = none then some (.frz ob (.lst (ns.map V.int))) else none
theorem scr_some {ob : Obj} {b : Addr} {u : HO} (h : scr K a ob ns b = some u) : b = a ∧ K.lookup a = none ∧ u = .frz ob (.lst (ns.map V.int)) := by
  unfold scr at h
  split at h
  · rename_i c
    exact ⟨c.1, c.2, (Option.some.inj h).symm⟩
  · cases h
theorem call_law (inK : K.In s₁.heap) (gl : s₁.heap.Ns mainGlobals mg) (bl : s₁.heap.Ns builtinsNs mb) (boot : ∀ x : Str, x ≠ "__name__" → mb x = bootBuiltins x) (lim : s₁.heap.NoLimit) (quiet : s₁.gens = #[])
    (there : s₁.heap.get? a = some { cls := .type "list", data := .seq vs.toArray }) (areInts : IntsAre vs ns) (len : ns.length ≤ sizeLine) (room : Room k callerA)
    (F : ∀ base : Heap, K.In base → base.Ns mainGlobals mg → FnG P w K mg base k fa fd [x] sp) (binds : ∀ (s : Shared) (u : Value), BindsTo s fd ⟨[u], []⟩ [(x, u)])
    (asked : ∀ H : Hp, Only H → SqL K H a (ns.map V.int) → sp [.ref a] H (fun v _ => v = .bl true) fun _ _ _ => False) :
    codeAny (model P w) callerA (.call (.ref fa) ⟨[.ref a], []⟩) (fun r s' => r = .ok (.ret (.bool true)) ∧ OldK s₁.heap s'.heap ∧ s'.os = s₁.os ∧ AllBare s'.gens) s₁ := by
  let ob : Obj := { cls := .type "list", data := .seq vs.toArray }
  let H := scr K a ob ns
  have at_ : ∀ {b u}, H b = some u → b = a ∧ K.lookup a = none ∧ u = .frz ob (.lst (ns.map V.int)) := scr_some
  have no : ∀ b o, s₁.heap.get? b = some o → (∀ q, o ≠ { cls := .type "list", data := .seq q }) → H b = none := fun b o e d => by
    cases c : H b with
    | none => rfl
    | some u =>
      obtain ⟨rfl, _⟩ := at_ c
      exact absurd (Option.some.inj (e.symm.trans there)) (d _)
  have keepNs : ∀ {b : Addr} {m : Str → Option Value}, s₁.heap.Ns b m → (hidT s₁.heap H).Ns b m := fun {b m} ⟨o, es, ep, e, d, r⟩ =>
    ⟨o, es, ep, hidT_get e (no b o e fun q z => by rw [z] at d; cases d), d, r⟩
  have keepK : K.In (hidT s₁.heap H) := fun b o e => hidT_get (inK b o e) (by
    cases c : H b with
    | none => rfl
    | some u =>
      obtain ⟨rfl, n, _⟩ := at_ c
      rw [n] at e
      cases e)
  have rel := vals_ints areInts
  have holds : HOk P w H s₁.heap := fun b u c => by
    obtain ⟨rfl, _, rfl⟩ := at_ c
    exact ⟨there, by rw [List.length_map]; exact len, vs, _, rel, there⟩
  have only : Only H := fun b => by
    cases c : H b with
    | none => exact Or.inl rfl
    | some u => exact Or.inr ⟨ob, _, by rw [(at_ c).2.2]⟩
  have script : SqL K H a (ns.map V.int) := by
    cases c : K.lookup a with
    | none => exact Or.inl (Or.inr ⟨ob, if_pos ⟨rfl, c⟩⟩)
    | some o =>
      have e := Option.some.inj ((inK a o c).symm.trans there)
      subst e
      exact Or.inr ⟨_, vs.toArray, _, c, rfl, rfl, rfl, by rw [List.size_toArray, areInts.length]; exact len, by simpa using rel⟩
  have modul : Mod K mg (hidT s₁.heap H) := ⟨keepK, keepNs gl, ⟨mb, keepNs bl, boot⟩, lim.elim fun mc z => ⟨mc, keepNs z.1, z.2⟩⟩
  have start0 : Env0 P w K mg (hidT s₁.heap H) callerA [] s₁ H := ⟨rfl, modul, fun b o e => of_hidT e, Nat.le_of_eq (hidT_size _ _), trivial, fun b hb => (List.not_mem_nil hb).elim, holds, .of_eq quiet⟩
  refine codeAny_mono ((F _ keepK (keepNs gl)).does callerA [] s₁ H _ [.ref a] [.ref a] _ _ room rfl start0 (binds s₁ (.ref a)) (.cons rfl .nil) (asked H only script)) ?_
  intro r s' post
  match r, post with
  | .error e, post => exact False.elim post
  | .ok .next, post => exact post.elim
  | .ok .brk, post => exact post.elim
  | .ok .cont, post => exact post.elim
  | .ok (.ret u), ⟨v, H', os, bare, un, held, rv, e⟩ =>
    cases (show v = V.bl true from e)
    cases (show u = Value.bool true from rv)
    refine ⟨rfl, OldK.of_keep fun b o g => ?_, os, bare⟩
    cases c : H b with
    | none => exact un.keep b o g c (fun z => (List.not_mem_nil z).elim) (fun z => (List.not_mem_nil z).elim)
    | some u =>
      obtain ⟨rfl, _, rfl⟩ := at_ c
      rw [Option.some.inj (g.symm.trans there)]
      exact (held b _ (un.frzs b ob _ c)).1
end
/-- the goal that is left of a law whose defs ask repr -/
theorem walk_ofG {l : PySem.W.OpenLaw} {n k : Nat} {q : Program} {loose : List Str} {XP : (Str → Option Value) → Heap → Prop} {YP : World → Heap → Prop} {d : DefRec} {K : Params → PySem.W.Frag} {sp : World → Sp} {x : Str}
    (most : l.most = some n) (n9 : n ≤ sizeLine) (nodf : d.params.defaults = []) (room : Room k callerA) (inK : ∀ (w : World) (h : Heap), YP w h → (K w.params).In h)
    (F : ∀ (w : World) (mg : Str → Option Value) (fa : Addr) (h : Heap), (K w.params).In h → h.Ns mainGlobals mg → mg d.name = some (.ref fa) →
      ∃ fd : FuncData, (∀ (s : Shared) (u : Value), BindsTo s fd ⟨[u], []⟩ [(x, u)]) ∧ ∀ base : Heap, (K w.params).In base → base.Ns mainGlobals mg → FnG l.prog w (K w.params) mg base k fa fd [x] (sp w))
    (asked : ∀ (w : World) (H : Hp) (a : Addr) (ns : List Int), ns.length ≤ n → Only H → SqL (K w.params) H a (ns.map V.int) → sp w [.ref a] H (fun v _ => v = .bl true) fun _ _ _ => False) :
    PySem.W.WalkO q loose XP YP l.row.toRowW d [] (fun f vs => PySem.call f vs) :=
  Att.attach_call most nodf fun w s₀ s₁ mg mb fa o pm cd doc a vs ns G Y ho hd hcd hmg hobj hints hlen hg => by
    obtain ⟨fd, b, f⟩ := F w mg fa _ (inK w _ Y) G.T.g hmg
    exact call_law (inK w _ Y) G.T.g G.T.b G.T.builtins G.T.nolimit hg hobj hints (Nat.le_trans hlen n9) room f b fun H only sc => asked w H a ns hlen only sc
end KR
/-! ### fractions as numbers of the field -/
namespace KR
open PySem PySem.Spec PyProof.Rows L2
theorem Same.tup {K : PySem.W.Frag} {H H' : Hp} {a : Addr} {xs : List V} (e : Same H H') (h : SqT K H a xs) : SqT K H' a xs :=
  h.elim (fun h => .inl (h.elim (fun h => .inl (e _ _ h)) fun ⟨o, h⟩ => .inr ⟨o, e _ _ h⟩)) fun h => .inr h
theorem sqT_ty {K : PySem.W.Frag} {H : Hp} {a : Addr} {xs : List V} (h : SqT K H a xs) : TyX K H (.ref a) (.type "tuple") := by
  rcases h with (h | ⟨o, h⟩) | ⟨o, its, n, h1, h2, _⟩
  · exact .base (.tup h)
  · exact .fTuple h
  · exact .kTuple h1 h2
theorem sqT_frL {K : PySem.W.Frag} {H H' : Hp} {a p : Addr} {xs ys : List V} (h : SqT K H a xs) (hp : H p = some (.lst ys)) (f : Fr p H H') : SqT K H' a xs := by
  rcases h with (h | ⟨o, h⟩) | h
  · exact .inl (.inl (f _ _ (ne_of h hp (by intro z; cases z)) h))
  · exact .inl (.inr ⟨o, f _ _ (ne_of h hp (by intro z; cases z)) h⟩)
  · exact .inr h
theorem sqT_fr {K : PySem.W.Frag} {H H' : Hp} {a p : Addr} {n : Nat} {xs : List V} (h : SqT K H a xs) (B : BoxAt H p n) (f : Fr p H H') : SqT K H' a xs := by
  obtain ⟨i, j, k, hp, _⟩ := B
  exact sqT_frL h hp f
theorem fr_upd {p : Addr} {H : Hp} {o : HO} : Fr p H (upd H p o) := Fr.put Fr.refl
theorem BoxAt.upd {H : Hp} {p D : Addr} {n : Nat} {o : HO} (h : BoxAt H p n) (ne : D ≠ p) : BoxAt (L2.upd H D o) p n := by
  obtain ⟨a, b, c, h1, h2⟩ := h
  exact ⟨a, b, c, by rw [upd_ne ne.symm]; exact h1, h2⟩
def rq (t b : Int) : Rat := (t : Rat) / (b : Rat)
theorem rat_nd (q : Rat) : (q.num : Rat) / ((q.den : Int) : Rat) = q := by rw [← Rat.divInt_eq_div, Rat.num_divInt_den]
theorem den_ne (q : Rat) : ((q.den : Int) : Rat) ≠ 0 := by
  intro h
  have k := q.den_pos
  have h2 : ((q.den : Int) : Rat) = ((0 : Int) : Rat) := h
  have e := Rat.intCast_inj.mp h2
  omega
theorem den_ne' (q : Rat) : (q.den : Int) ≠ 0 := by
  have k := q.den_pos
  omega
theorem int_ne {b : Int} (h : b ≠ 0) : (b : Rat) ≠ 0 := fun z => h (Rat.intCast_inj.mp (z.trans (by rfl : (0 : Rat) = ((0 : Int) : Rat))))
theorem rat_low (q : Rat) : IsLow q.num q.den := ⟨by have k := q.den_pos; omega, by rw [Int.natAbs_natCast]; exact q.reduced⟩
theorem rq_cross {t b : Int} (hb : b ≠ 0) : t * ((rq t b).den : Int) = (rq t b).num * b := by
  have e := rat_nd (rq t b)
  have h1 := den_ne (rq t b)
  have h2 := int_ne hb
  refine Rat.intCast_inj.mp ?_
  rw [Rat.intCast_mul, Rat.intCast_mul]
  generalize ((rq t b).den : Int) = d at *
  generalize (rq t b).num = n at *
  unfold rq at e
  grind
theorem rq_low {t b : Int} (hb : b ≠ 0) : low t b = ((rq t b).num, ((rq t b).den : Int)) := low_eq hb (rat_low _) (rq_cross hb)
theorem cast_pos {b : Int} (h : 0 < b) : (0 : Rat) < (b : Rat) := (Rat.intCast_lt_intCast (a := 0)).mpr h
theorem cast_nn {b : Int} (h : 0 ≤ b) : (0 : Rat) ≤ (b : Rat) := (Rat.intCast_le_intCast (a := 0)).mpr h
theorem le_div {a b c : Rat} (h : 0 < c) (k : a * c ≤ b) : a ≤ b / c := Rat.not_lt.mp fun z => absurd ((Rat.div_lt_iff h).mp z) (Rat.not_lt.mpr k)
theorem div_le {a b c : Rat} (h : 0 < c) (k : b ≤ a * c) : b / c ≤ a := Rat.not_lt.mp fun z => absurd ((Rat.lt_div_iff h).mp z) (Rat.not_lt.mpr k)
theorem rq_nn {t b : Int} (ht : 0 ≤ t) (hb : 0 < b) : 0 ≤ rq t b := by
  have h1 := cast_nn ht
  have h2 := cast_pos hb
  unfold rq
  generalize (t : Rat) = x at *
  generalize (b : Rat) = y at *
  exact le_div h2 (by grind)
theorem rq_pos {t b : Int} (ht : 0 < t) (hb : 0 < b) : 0 < rq t b := by
  have h1 := cast_pos ht
  have h2 := cast_pos hb
  unfold rq
  generalize (t : Rat) = x at *
  generalize (b : Rat) = y at *
  exact (Rat.lt_div_iff h2).mpr (by grind)
theorem rq_lt_one {t b : Int} (ht : t < b) (hb : 0 < b) : rq t b < 1 := by
  have h1 := Rat.intCast_lt_intCast.mpr ht
  have h2 := cast_pos hb
  unfold rq
  generalize (t : Rat) = x at *
  generalize (b : Rat) = y at *
  exact (Rat.div_lt_iff h2).mpr (by grind)
theorem rq_le_one {t b : Int} (ht : t ≤ b) (hb : 0 < b) : rq t b ≤ 1 := by
  have h1 := Rat.intCast_le_intCast.mpr ht
  have h2 := cast_pos hb
  unfold rq
  generalize (t : Rat) = x at *
  generalize (b : Rat) = y at *
  exact div_le h2 (by grind)
theorem rq_add (p q : Rat) : rq (p.num * q.den + q.num * p.den) (p.den * q.den) = p + q := by
  have e1 := rat_nd p
  have e2 := rat_nd q
  have h1 := den_ne p
  have h2 := den_ne q
  unfold rq
  rw [Rat.intCast_add, Rat.intCast_mul, Rat.intCast_mul, Rat.intCast_mul]
  generalize ((p.den : Int) : Rat) = d at *
  generalize (p.num : Rat) = n at *
  generalize ((q.den : Int) : Rat) = d2 at *
  generalize (q.num : Rat) = n2 at *
  grind
theorem rq_sub (p q : Rat) : rq (p.num * q.den - q.num * p.den) (p.den * q.den) = p - q := by
  have e1 := rat_nd p
  have e2 := rat_nd q
  have h1 := den_ne p
  have h2 := den_ne q
  unfold rq
  rw [Rat.intCast_sub, Rat.intCast_mul, Rat.intCast_mul, Rat.intCast_mul]
  generalize ((p.den : Int) : Rat) = d at *
  generalize (p.num : Rat) = n at *
  generalize ((q.den : Int) : Rat) = d2 at *
  generalize (q.num : Rat) = n2 at *
  grind
theorem rq_mul (p q : Rat) : rq (p.num * q.num) (p.den * q.den) = p * q := by
  have e1 := rat_nd p
  have e2 := rat_nd q
  have h1 := den_ne p
  have h2 := den_ne q
  unfold rq
  rw [Rat.intCast_mul, Rat.intCast_mul]
  generalize ((p.den : Int) : Rat) = d at *
  generalize (p.num : Rat) = n at *
  generalize ((q.den : Int) : Rat) = d2 at *
  generalize (q.num : Rat) = n2 at *
  grind
theorem rq_div (p q : Rat) : rq (p.num * q.den) (p.den * q.num) = p / q := by
  have e1 := rat_nd p
  have e2 := rat_nd q
  have h1 := den_ne p
  have h2 := den_ne q
  unfold rq
  rw [Rat.intCast_mul, Rat.intCast_mul]
  generalize ((p.den : Int) : Rat) = d at *
  generalize (p.num : Rat) = n at *
  generalize ((q.den : Int) : Rat) = d2 at *
  generalize (q.num : Rat) = n2 at *
  grind
theorem rq_self (q : Rat) : rq q.num q.den = q := rat_nd q
theorem num_ne {q : Rat} (h : q ≠ 0) : q.num ≠ 0 := fun z => h (by
  have e := rat_nd q
  rw [z] at e
  rw [← e]
  grind)
theorem num_zero {q : Rat} : q.num = 0 ↔ q = 0 := ⟨fun z => Classical.byContradiction fun y => num_ne y z, fun z => by rw [z] <;> rfl⟩
theorem num_pos {q : Rat} : 0 < q.num ↔ 0 < q := by
  have k := Rat.lt_iff 0 q
  simp at k
  exact k.symm
theorem num_nn {q : Rat} : 0 ≤ q.num ↔ 0 ≤ q := Rat.num_nonneg
theorem lt_cross (p q : Rat) : (p.num * q.den < q.num * p.den) ↔ p < q := (Rat.lt_iff p q).symm
/-- top and bottom fit so many bits -/
def Sz (n : Nat) (q : Rat) : Prop := q.num.natAbs < 2 ^ n ∧ (q.den : Int).natAbs < 2 ^ n
theorem Sz.up {n m : Nat} {q : Rat} (h : Sz n q) (le : n ≤ m) : Sz m q := ⟨lt_up h.1 le, lt_up h.2 le⟩
theorem sz_rq {t b : Int} {n : Nat} (hb : b ≠ 0) (h1 : t.natAbs < 2 ^ n) (h2 : b.natAbs < 2 ^ n) : Sz n (rq t b) := by
  have k := low_lt h1 h2
  rw [rq_low hb] at k
  exact k
theorem Sz.int {z : Int} {n : Nat} (h : z.natAbs < 2 ^ n) (h0 : 0 < n) : Sz n (z : Rat) := ⟨h, Nat.lt_of_lt_of_le (by decide : (1 : Nat) < 2 ^ 1) (Nat.pow_le_pow_right (by decide) h0)⟩
theorem Sz.neg {n : Nat} {q : Rat} (h : Sz n q) : Sz n (-q) := ⟨by
  show (-q.num).natAbs < 2 ^ n
  rw [Int.natAbs_neg]
  exact h.1, h.2⟩
/-- a fraction that is read -/
def FrQ (K : PySem.W.Frag) (H : Hp) (x : Addr) (q : Rat) : Prop := SqT K H x [.int q.num, .int (q.den : Int)]
theorem FrQ.same {K : PySem.W.Frag} {H H' : Hp} {x : Addr} {q : Rat} (h : FrQ K H x q) (s : Same H H') : FrQ K H' x q := Same.tup s h
theorem FrQ.fr {K : PySem.W.Frag} {H H' : Hp} {x p : Addr} {n : Nat} {q : Rat} (h : FrQ K H x q) (B : BoxAt H p n) (f : Fr p H H') : FrQ K H' x q := sqT_fr h B f
theorem FrQ.of {K : PySem.W.Frag} {H : Hp} {x : Addr} {q : Rat} (h : H x = some (.tup [.int q.num, .int (q.den : Int)])) : FrQ K H x q := SqT.of h
theorem FrQ.int {K : PySem.W.Frag} {H : Hp} {x : Addr} {z : Int} (h : H x = some (.tup [.int z, .int 1])) : FrQ K H x (z : Rat) := SqT.of h
/-- a juice that is read -/
def JuQ (K : PySem.W.Frag) (H : Hp) (x : Addr) (s w : Rat) : Prop := ∃ a b, SqT K H x [.ref a, .ref b] ∧ FrQ K H a s ∧ FrQ K H b w
theorem JuQ.same {K : PySem.W.Frag} {H H' : Hp} {x : Addr} {s w : Rat} (h : JuQ K H x s w) (e : Same H H') : JuQ K H' x s w := by
  obtain ⟨a, b, h1, h2, h3⟩ := h
  exact ⟨a, b, Same.tup e h1, h2.same e, h3.same e⟩
theorem JuQ.fr {K : PySem.W.Frag} {H H' : Hp} {x p : Addr} {n : Nat} {s w : Rat} (h : JuQ K H x s w) (B : BoxAt H p n) (f : Fr p H H') : JuQ K H' x s w := by
  obtain ⟨a, b, h1, h2, h3⟩ := h
  exact ⟨a, b, sqT_fr h1 B f, h2.fr B f, h3.fr B f⟩
theorem JuQ.new {K : PySem.W.Frag} {H : Hp} {x a b : Addr} {s w : Rat} (h : H x = some (.tup [.ref a, .ref b])) (ha : FrQ K H a s) (hb : FrQ K H b w) : JuQ K H x s w := ⟨a, b, SqT.of h, ha, hb⟩
/-- a new pair of two numbers' lowest terms -/
def sp_lowQ (K : PySem.W.Frag) : Sp := fun vs H Q _ => ∃ (t b : Int) (n : Nat), vs = [.int t, .int b] ∧ b ≠ 0 ∧ t.natAbs < 2 ^ n ∧ b.natAbs < 2 ^ n ∧ n ≤ 2000 ∧ ∀ p H', Same H H' → H p = none → FrQ K H' p (rq t b) → Sz n (rq t b) → Q (.ref p) H'
theorem lowQ {K : PySem.W.Frag} {vs : List V} {H : Hp} {Q : VK} {E : XK} (h : sp_lowQ K vs H Q E) : sp_low vs H Q E := by
  obtain ⟨t, b, n, e, hb, h1, h2, hn, q⟩ := h
  refine ⟨t, b, e, hb, lt_up h1 hn, lt_up h2 hn, fun p H' s hp h' => q p H' s hp ?_ (sz_rq hb h1 h2)⟩
  rw [rq_low hb] at h'
  exact .of h'
/-- two fractions in, one out -/
def sp_q2 (K : PySem.W.Frag) (f : Rat → Rat → Rat) (ok : Rat → Rat → Prop) : Sp := fun vs H Q _ => ∃ (x y : Addr) (p q : Rat) (m n : Nat), vs = [.ref x, .ref y] ∧ FrQ K H x p ∧ FrQ K H y q ∧ Sz m p ∧ Sz n q ∧ m + n ≤ 1900 ∧ ok p q ∧
  ∀ z H', Same H H' → H z = none → FrQ K H' z (f p q) → Sz (m + n + 1) (f p q) → Q (.ref z) H'
def sp_less (K : PySem.W.Frag) : Sp := fun vs H Q _ => ∃ (x y : Addr) (p q : Rat), vs = [.ref x, .ref y] ∧ FrQ K H x p ∧ FrQ K H y q ∧ Sz 1900 p ∧ Sz 1900 q ∧ Q (.bl (decide (p < q))) H
theorem mulZ {i j : Int} {a b : Nat} (ha : i.natAbs < 2 ^ a) (hb : j.natAbs < 2 ^ b) (h : a + b ≤ 100000) : IntMulOk i j :=
  mulW (lt_up ha (by omega : a ≤ a + 1)) (lt_up hb (by omega : b ≤ b + 1)) (by omega) (by omega) (by omega)
/-! data of the law's own making, tuples of the written part among them -/
inductive Dk (K : PySem.W.Frag) (H : Hp) : Nat → V → PyData → Prop
  | non (n : Nat) : Dk K H (n + 1) .non .none
  | bl (n : Nat) (b : Bool) : Dk K H (n + 1) (.bl b) (.bool b)
  | int (n : Nat) (i : Int) : Dk K H (n + 1) (.int i) (.int i)
  | str (n : Nat) (x : Str) (ok : PyData.canLay0 (.str x) = true) : Dk K H (n + 1) (.str x) (.str x)
  | lst {n : Nat} {a : Addr} {xs : List V} {ds : List PyData} : H a = some (.lst xs) → xs.length = ds.length → xs.length ≤ 100000 → (∀ (i : Nat) (x : V) (d : PyData), xs[i]? = some x → ds[i]? = some d → Dk K H n x d) → Dk K H (n + 1) (.ref a) (.list ds)
  | tup {n : Nat} {a : Addr} {xs : List V} {ds : List PyData} : SqT K H a xs → xs.length = ds.length → xs.length ≤ 100000 → (∀ (i : Nat) (x : V) (d : PyData), xs[i]? = some x → ds[i]? = some d → Dk K H n x d) → Dk K H (n + 1) (.ref a) (.tuple ds)
theorem Dk.same {K : PySem.W.Frag} {H H' : Hp} (s : Same H H') : ∀ {n : Nat} {v : V} {d : PyData}, Dk K H n v d → Dk K H' n v d := by
  intro n v d h
  induction h with
  | non n => exact .non n
  | bl n b => exact .bl n b
  | int n i => exact .int n i
  | str n x ok => exact .str n x ok
  | lst h1 h2 h3 _ ih => exact .lst (s _ _ h1) h2 h3 ih
  | tup h1 h2 h3 _ ih => exact .tup (Same.tup s h1) h2 h3 ih
theorem Dk.up {K : PySem.W.Frag} {H : Hp} {n m : Nat} {v : V} {d : PyData} (h : Dk K H n v d) : n ≤ m → Dk K H m v d := by
  intro le
  induction h generalizing m with
  | non n => obtain ⟨k, rfl⟩ : ∃ k, m = k + 1 := ⟨m - 1, by omega⟩; exact .non k
  | bl n b => obtain ⟨k, rfl⟩ : ∃ k, m = k + 1 := ⟨m - 1, by omega⟩; exact .bl k b
  | int n i => obtain ⟨k, rfl⟩ : ∃ k, m = k + 1 := ⟨m - 1, by omega⟩; exact .int k i
  | str n x ok => obtain ⟨k, rfl⟩ : ∃ k, m = k + 1 := ⟨m - 1, by omega⟩; exact .str k x ok
  | lst h1 h2 h3 _ ih => obtain ⟨k, rfl⟩ : ∃ k, m = k + 1 := ⟨m - 1, by omega⟩; exact .lst h1 h2 h3 fun i x d a b => ih i x d a b (by omega)
  | tup h1 h2 h3 _ ih => obtain ⟨k, rfl⟩ : ∃ k, m = k + 1 := ⟨m - 1, by omega⟩; exact .tup h1 h2 h3 fun i x d a b => ih i x d a b (by omega)
/-- rows of data beside their values -/
def DkAll (K : PySem.W.Frag) (H : Hp) (n : Nat) (xs : List V) (ds : List PyData) : Prop := xs.length = ds.length ∧ ∀ (i : Nat) (x : V) (d : PyData), xs[i]? = some x → ds[i]? = some d → Dk K H n x d
theorem DkAll.nil {K : PySem.W.Frag} {H : Hp} {n : Nat} : DkAll K H n [] [] := ⟨rfl, fun i x d h => by simp at h⟩
theorem DkAll.cons {K : PySem.W.Frag} {H : Hp} {n : Nat} {x : V} {d : PyData} {xs : List V} {ds : List PyData} (h : Dk K H n x d) (t : DkAll K H n xs ds) : DkAll K H n (x :: xs) (d :: ds) :=
  ⟨by rw [List.length_cons, List.length_cons, t.1], fun i u v hu hv => match i, hu, hv with
    | 0, hu, hv => by cases hu; cases hv; exact h
    | i + 1, hu, hv => t.2 i u v hu hv⟩
theorem DkAll.tup {K : PySem.W.Frag} {H : Hp} {n : Nat} {xs : List V} {ds : List PyData} {a : Addr} (t : DkAll K H n xs ds) (h : SqT K H a xs) (z : Nat.ble xs.length 100000 = true := by rfl) : Dk K H (n + 1) (.ref a) (.tuple ds) := .tup h t.1 (Nat.le_of_ble_eq_true z) t.2
theorem DkAll.lst {K : PySem.W.Frag} {H : Hp} {n : Nat} {xs : List V} {ds : List PyData} {a : Addr} (t : DkAll K H n xs ds) (h : H a = some (.lst xs)) (z : Nat.ble xs.length 100000 = true := by rfl) : Dk K H (n + 1) (.ref a) (.list ds) := .lst h t.1 (Nat.le_of_ble_eq_true z) t.2
/-- the data of a fraction, of a juice -/
def dq (q : Rat) : PyData := .tuple [.int q.num, .int (q.den : Int)]
def dj (s w : Rat) : PyData := .tuple [dq s, dq w]
theorem FrQ.dk {K : PySem.W.Frag} {H : Hp} {x : Addr} {q : Rat} (h : FrQ K H x q) (n : Nat := 0) : Dk K H (n + 2) (.ref x) (dq q) := DkAll.tup (.cons (.int _ _) (.cons (.int _ _) .nil)) h
theorem JuQ.dk {K : PySem.W.Frag} {H : Hp} {x : Addr} {s w : Rat} (h : JuQ K H x s w) (n : Nat := 0) : Dk K H (n + 3) (.ref x) (dj s w) := by
  obtain ⟨a, b, h1, h2, h3⟩ := h
  exact DkAll.tup (.cons (h2.dk n) (.cons (h3.dk n) .nil)) h1
/-- forty figures -/
theorem b133 {n : Nat} (h : n < 10 ^ 40) : n < 2 ^ 133 := Nat.lt_trans h (by decide)
/-- a fraction or None -/
def OQ (K : PySem.W.Frag) (H : Hp) (v : V) : Option Rat → Prop
  | none => v = .non
  | some q => ∃ x, v = .ref x ∧ FrQ K H x q
theorem OQ.same {K : PySem.W.Frag} {H H' : Hp} {v : V} {o : Option Rat} (h : OQ K H v o) (e : Same H H') : OQ K H' v o := by
  cases o with
  | none => exact h
  | some q =>
    obtain ⟨x, e1, h1⟩ := h
    exact ⟨x, e1, h1.same e⟩
def oq : Option Rat → PyData
  | none => .none
  | some q => dq q
theorem OQ.dk {K : PySem.W.Frag} {H : Hp} {v : V} {o : Option Rat} (h : OQ K H v o) (n : Nat := 0) : Dk K H (n + 2) v (oq o) := by
  cases o with
  | none => rw [show v = .non from h]; exact .non _
  | some q =>
    obtain ⟨x, e1, h1⟩ := h
    rw [e1]
    exact h1.dk n
/-- the strength of a juice -/
def stren (s w : Rat) : Option Rat := if s + w = 0 then none else some (s / (s + w))
theorem stren_part {s w t : Rat} (h : t ≠ 0) : stren (s * t) (w * t) = stren s w := by
  unfold stren
  by_cases c : s + w = 0
  · rw [if_pos c, if_pos (by grind)]
  · rw [if_neg c, if_neg (by grind)]
    congr 1
    grind
theorem stren_more {s w t : Rat} (h : 0 ≤ t) : stren (s + s * t) (w + w * t) = stren s w := by
  have e1 : s + s * t = s * (1 + t) := by grind
  have e2 : w + w * t = w * (1 + t) := by grind
  rw [e1, e2]
  exact stren_part (by grind)
theorem strength_between {s w x y : Rat} (hs : 0 ≤ s) (hw : 0 ≤ w) (hx : 0 ≤ x) (hy : 0 ≤ y) (h1 : s + w ≠ 0) (h2 : x + y ≠ 0) (le : s / (s + w) ≤ x / (x + y)) :
    s / (s + w) ≤ (s + x) / (s + x + (w + y)) ∧ (s + x) / (s + x + (w + y)) ≤ x / (x + y) := by
  have p1 : 0 < s + w := by grind
  have p2 : 0 < x + y := by grind
  have p3 : 0 < s + x + (w + y) := by grind
  generalize ea : s / (s + w) = a at *
  generalize eb : x / (x + y) = b at *
  have sa : s = a * (s + w) := by grind
  have xb : x = b * (x + y) := by grind
  have d : 0 ≤ b - a := by grind
  constructor
  · refine le_div p3 ?_
    have k := Rat.mul_nonneg d (Rat.le_of_lt p2)
    grind
  · refine div_le p3 ?_
    have k := Rat.mul_nonneg d (Rat.le_of_lt p1)
    grind
theorem is_zero {q : Rat} : decide (q.num = 0 ∧ (q.den : Int) = 1) = decide (q = 0) := by
  rw [decide_eq_decide]
  constructor
  · rintro ⟨h, _⟩
    exact num_zero.mp h
  · rintro rfl
    exact ⟨rfl, rfl⟩
/-- boiling -/
def wat (s u : Rat) : Rat := s / u - s
def boil (s w : Rat) (f : Int) (u h : Rat) : Rat := if wat s u < w then (if w - f * h < wat s u then wat s u else w - f * h) else w
theorem rq_wat (s u : Rat) (hu : u ≠ 0) : rq (s.num * ((u.den : Int) - u.num)) (s.den * u.num) = wat s u := by
  have e1 := rat_nd s
  have e2 := rat_nd u
  have h1 := den_ne s
  have h2 := den_ne u
  have h3 := int_ne (num_ne hu)
  unfold rq wat
  rw [Rat.intCast_mul, Rat.intCast_mul, Rat.intCast_sub]
  generalize ((s.den : Int) : Rat) = d at *
  generalize (s.num : Rat) = n at *
  generalize ((u.den : Int) : Rat) = d2 at *
  generalize (u.num : Rat) = n2 at *
  rw [← e1, ← e2]
  grind
theorem Sz.add {m n : Nat} {p q : Rat} (h : Sz m p) (k : Sz n q) : Sz (m + n + 1) (p + q) := by
  rw [← rq_add]
  exact sz_rq (Int.mul_ne_zero (den_ne' p) (den_ne' q)) (lt_up (add_lt (wide_lt h.1 k.2) (lt_up (wide_lt k.1 h.2) (by omega : n + m ≤ m + n))) (by omega)) (lt_up (wide_lt h.2 k.2) (by omega))
theorem Sz.sub {m n : Nat} {p q : Rat} (h : Sz m p) (k : Sz n q) : Sz (m + n + 1) (p - q) := by
  rw [← rq_sub]
  exact sz_rq (Int.mul_ne_zero (den_ne' p) (den_ne' q)) (lt_up (sub_lt (wide_lt h.1 k.2) (lt_up (wide_lt k.1 h.2) (by omega : n + m ≤ m + n))) (by omega)) (lt_up (wide_lt h.2 k.2) (by omega))
theorem Sz.mul {m n : Nat} {p q : Rat} (h : Sz m p) (k : Sz n q) : Sz (m + n) (p * q) := by
  rw [← rq_mul]
  exact sz_rq (Int.mul_ne_zero (den_ne' p) (den_ne' q)) (wide_lt h.1 k.1) (wide_lt h.2 k.2)
theorem Sz.wat {m n : Nat} {s u : Rat} (h : Sz m s) (k : Sz n u) (hu : u ≠ 0) : Sz (m + n + 1) (wat s u) := by
  rw [← rq_wat s u hu]
  exact sz_rq (Int.mul_ne_zero (den_ne' s) (num_ne hu)) (lt_up (wide_lt h.1 (sub_lt k.2 k.1)) (by omega)) (lt_up (wide_lt h.2 k.1) (by omega))
theorem Sz.boil {a b c n N : Nat} {s w u h : Rat} {f : Int} (zs : Sz a s) (zu : Sz n u) (hu : u ≠ 0) (zw : Sz b w) (zh : Sz c h) (hf : f.natAbs < 2 ^ 14) (h1 : a + n + 1 ≤ N) (h2 : b + (14 + c) + 1 ≤ N) : Sz N (KR.boil s w f u h) := by
  unfold KR.boil
  split
  · split
    · exact (Sz.wat zs zu hu).up h1
    · exact (Sz.sub zw (Sz.mul (Sz.int hf (by decide)) zh)).up h2
  · exact zw.up (by omega)
theorem boil_zero {s w u : Rat} {f : Int} : boil s w f u 0 = w := by
  unfold boil
  rw [Rat.mul_zero]
  split <;> grind
theorem boil_boil {s w u h k : Rat} {f : Int} (hf : 0 ≤ f) (hh : 0 ≤ h) (hk : 0 ≤ k) : boil s (boil s w f u h) f u k = boil s w f u (h + k) := by
  have f0 := cast_nn hf
  have a0 := Rat.mul_nonneg f0 hh
  have b0 := Rat.mul_nonneg f0 hk
  unfold boil
  rw [Rat.mul_add]
  generalize (f : Rat) * h = a at *
  generalize (f : Rat) * k = b at *
  generalize wat s u = L
  grind
theorem boil_fire {s w u h : Rat} {f g : Int} (hf : f ≤ g) (hh : 0 ≤ h) : boil s w g u h ≤ boil s w f u h := by
  have k := Rat.mul_nonneg (cast_nn (show 0 ≤ g - f by omega)) hh
  rw [Rat.intCast_sub] at k
  unfold boil
  generalize wat s u = L
  have e : ((g : Rat) - (f : Rat)) * h = (g : Rat) * h - (f : Rat) * h := by grind
  rw [e] at k
  generalize (f : Rat) * h = a at *
  generalize (g : Rat) * h = b at *
  grind
theorem boil_two {s w u h : Rat} {f : Int} : boil (s + s) (w + w) (2 * f) u h = boil s w f u h + boil s w f u h := by
  unfold boil
  have e : wat (s + s) u = wat s u + wat s u := by
    unfold wat
    grind
  rw [e, Rat.intCast_mul]
  have e2 : ((2 : Int) : Rat) * (f : Rat) * h = (f : Rat) * h + (f : Rat) * h := by
    have e3 : ((2 : Int) : Rat) = 2 := rfl
    rw [e3]
    grind
  rw [e2]
  generalize (f : Rat) * h = a at *
  generalize wat s u = L at *
  grind
theorem Sz.div {m n : Nat} {p q : Rat} (h : Sz m p) (k : Sz n q) (hq : q ≠ 0) : Sz (m + n) (p / q) := by
  rw [← rq_div]
  exact sz_rq (Int.mul_ne_zero (den_ne' p) (num_ne hq)) (wide_lt h.1 k.2) (wide_lt h.2 k.1)
theorem rq_divi (r : Rat) (f : Int) : rq r.num (r.den * f) = r / (f : Rat) := by
  have e := rq_div r (f : Rat)
  rw [← e]
  show rq r.num (r.den * f) = rq (r.num * 1) (r.den * f)
  rw [Int.mul_one]
theorem FrQ.dp {K : PySem.W.Frag} {H : Hp} {x : Addr} {q : Rat} (h : FrQ K H x q) : Dp K H (.ref x) (dq q) := .tup h (.cons (.int _) (.cons (.int _) .nil))
theorem JuQ.dp {K : PySem.W.Frag} {H : Hp} {x : Addr} {s w : Rat} (h : JuQ K H x s w) : Dp K H (.ref x) (dj s w) := by
  obtain ⟨a, b, h1, h2, h3⟩ := h
  exact .tup h1 (.cons h2.dp (.cons h3.dp .nil))
theorem eqv_dq (a b : Rat) : PyData.eqv (dq a) (dq b) = decide (a = b) := by
  refine eqv_pair.trans ?_
  rw [decide_eq_decide]
  constructor
  · rintro ⟨h1, h2⟩
    exact Rat.ext h1 (by omega)
  · rintro rfl
    exact ⟨rfl, rfl⟩
theorem OQ.dp {K : PySem.W.Frag} {H : Hp} {v : V} {o : Option Rat} (h : OQ K H v o) : Dp K H v (oq o) := by
  cases o with
  | none => rw [show v = .non from h]; exact .non
  | some q =>
    obtain ⟨x, e1, h1⟩ := h
    rw [e1]
    exact h1.dp
theorem oq_fit (o : Option Rat) : PyData.canLay0 (oq o) = true ∧ PyData.depth (oq o) ≤ 60 := by
  cases o with
  | none => exact ⟨rfl, by decide⟩
  | some q => exact ⟨rfl, by show 1 ≤ 60; decide⟩
/-- when a juice is ready -/
def ready (s w : Rat) (f : Int) (u : Rat) : Option Rat := if s = 0 then none else if wat s u < w then (if f = 0 then none else some ((w - wat s u) / (f : Rat))) else some 0
theorem wat_nn {s u : Rat} (hs : 0 ≤ s) (u0 : 0 < u) (u1 : u < 1) : 0 ≤ wat s u := by
  have k := Rat.mul_nonneg hs (show 0 ≤ 1 - u by grind)
  have h : s ≤ s / u := le_div u0 (by grind)
  unfold wat
  grind
theorem on_way {s w u : Rat} {f : Int} (hs : 0 < s) (u0 : 0 < u) (u1 : u < 1) (hf : 0 < f) (lt : wat s u < w) {t : Rat} (et : t = (w - wat s u) / (f : Rat)) :
    boil s w f u t = wat s u ∧ stren s (wat s u) = some u ∧ 0 < t ∧ ∀ h : Rat, 0 < h → (boil s w f u (t + h) = wat s u ∧ (h ≤ 1 → ∃ q, stren s (boil s w f u (t * h)) = some q ∧ (q = u ↔ h = 1) ∧ ready s (boil s w f u (t * h)) f u = some (t - t * h))) := by
  have f0 := cast_pos hf
  have fne : (f : Rat) ≠ 0 := by grind
  have ft : (f : Rat) * t = w - wat s u := by rw [et]; grind
  have wn := wat_nn (Rat.le_of_lt hs) u0 u1
  have tp : 0 < t := by
    rw [et]
    exact (Rat.lt_div_iff f0).mpr (by grind)
  refine ⟨?_, ?_, tp, fun h hh => ⟨?_, fun h1 => ?_⟩⟩
  · unfold boil
    rw [ft]
    grind
  · have e : s + wat s u = s / u := by
      unfold wat
      grind
    have ne : s / u ≠ 0 := by grind
    unfold stren
    rw [e, if_neg ne]
    congr 1
    grind
  · have k := Rat.mul_pos f0 hh
    unfold boil
    rw [Rat.mul_add, ft]
    grind
  · have d : 0 < w - wat s u := by grind
    have k := Rat.mul_nonneg (Rat.le_of_lt d) (show 0 ≤ 1 - h by grind)
    have e : (f : Rat) * (t * h) = (w - wat s u) * h := by rw [← ft]; grind
    have eb : boil s w f u (t * h) = w - (w - wat s u) * h := by
      unfold boil
      rw [e]
      grind
    have xge : wat s u ≤ w - (w - wat s u) * h := by grind
    have sx : s + (w - (w - wat s u) * h) ≠ 0 := by grind
    rw [eb]
    refine ⟨s / (s + (w - (w - wat s u) * h)), if_neg sx, ⟨fun q => ?_, fun q => ?_⟩, ?_⟩
    · have q2 : s = u * (s + (w - (w - wat s u) * h)) := by grind
      have q3 : wat s u = w - (w - wat s u) * h := by
        unfold wat at *
        grind
      have q4 : (w - wat s u) * (1 - h) = 0 := by grind
      have q5 : 1 - h = 0 := by
        rcases Rat.mul_eq_zero.mp q4 with z | z
        · grind
        · exact z
      grind
    · rw [q]
      have e2 : s + (w - (w - wat s u) * 1) = s / u := by
        unfold wat
        grind
      rw [e2]
      grind
    · unfold ready
      rw [if_neg (by grind)]
      by_cases c : wat s u < w - (w - wat s u) * h
      · rw [if_pos c, if_neg (by omega)]
        congr 1
        rw [et]
        grind
      · rw [if_neg c]
        have q4 : (w - wat s u) * (1 - h) = 0 := by grind
        have q5 : 1 - h = 0 := by
          rcases Rat.mul_eq_zero.mp q4 with z | z
          · grind
          · exact z
        have q6 : h = 1 := by grind
        rw [q6]
        congr 1
        grind
/-- a thing is not among those of a tuple -/
def rNoTup (K : PySem.W.Frag) : R2 := fun x y H Q => ∃ d ds, Dp K H x d ∧ Dp K H y (.tuple ds) ∧ PyData.canLay0 d = true ∧ PyData.canLayAll0 ds = true ∧ PyData.depth d ≤ 60 ∧ Q (.bl (!ds.any fun z => PyData.eqv z d)) H
theorem notTup {X : Cx} {K : PySem.W.Frag} (hK : X.K = K) (room : X.A.units + 64 < cLine) : OpR X (compareOp .NotIn) (rNoTup K) := by
  subst hK
  intro pn s0 σ H x y v1 v2 Q I a1 a2 h
  obtain ⟨d, ds, h1, h2, h3, h4, h5, q⟩ := h
  obtain ⟨as1, r1⟩ := Dp.reads I d x v1 h1 a1
  obtain ⟨as2, r2⟩ := Dp.reads I (.tuple ds) y v2 h2 a2
  exact SeqAt.notIn_tuple_reads r2 r1 h4 h3 (by omega) ⟨.bl _, H, I, rfl, q⟩
/-- a juice in, a juice and a share in, two juices in -/
def sp_j2 (K : PySem.W.Frag) : Sp := fun vs H Q _ => ∃ (x y : Addr) (s w s' w' : Rat) (m n : Nat), vs = [.ref x, .ref y] ∧ JuQ K H x s w ∧ JuQ K H y s' w' ∧ Sz m s ∧ Sz m w ∧ Sz n s' ∧ Sz n w' ∧ m + n ≤ 1900 ∧
  ∀ z H', Same H H' → JuQ K H' z (s + s') (w + w') → Sz (m + n + 1) (s + s') → Sz (m + n + 1) (w + w') → Q (.ref z) H'
def sp_jt (K : PySem.W.Frag) (f : Rat → Rat) : Sp := fun vs H Q _ => ∃ (x y : Addr) (s w t : Rat) (m n : Nat), vs = [.ref x, .ref y] ∧ JuQ K H x s w ∧ FrQ K H y t ∧ Sz m s ∧ Sz m w ∧ Sz n t ∧ m + n ≤ 900 ∧ n ≤ 400 ∧
  ∀ z H', Same H H' → JuQ K H' z (s * f t) (w * f t) → Sz (m + n + 10) (s * f t) → Sz (m + n + 10) (w * f t) → Q (.ref z) H'
def sp_vol (K : PySem.W.Frag) : Sp := fun vs H Q _ => ∃ (x : Addr) (s w : Rat) (m : Nat), vs = [.ref x] ∧ JuQ K H x s w ∧ Sz m s ∧ Sz m w ∧ m ≤ 900 ∧ ∀ z H', Same H H' → FrQ K H' z (s + w) → Sz (m + m + 1) (s + w) → Q (.ref z) H'
def sp_str (K : PySem.W.Frag) : Sp := fun vs H Q _ => ∃ (x : Addr) (s w : Rat) (m : Nat), vs = [.ref x] ∧ JuQ K H x s w ∧ Sz m s ∧ Sz m w ∧ m ≤ 600 ∧ ∀ v H', Same H H' → OQ K H' v (stren s w) → (∀ q, stren s w = some q → Sz (3 * m + 2) q) → Q v H'
end KR
/-! ### walks over things that may be lists or tuples: for, enumerate, zip -/
namespace KR
open PySem PySem.Spec PyProof.Rows L2
/-- a list, or a tuple -/
def SqB (K : PySem.W.Frag) (H : Hp) (a : Addr) (xs : List V) : Bool → Prop
  | true => SqL K H a xs
  | false => SqT K H a xs
def ItB (h : Heap) (it a : Addr) (i : Nat) : Bool → Prop
  | true => h.IsListIter it a i
  | false => h.IsTupleIter it a i
def IsB (h : Heap) (a : Addr) (items : Array Value) : Bool → Prop
  | true => h.IsList a items
  | false => h.IsTuple a items
def objB (a : Addr) : Bool → Obj
  | true => { cls := .type "list_iterator", data := .fields #[.ref a, .int 0 0] }
  | false => { cls := .type "tuple_iterator", data := .fields #[.ref a, .int 0 0] }
theorem SqB.same {K : PySem.W.Frag} {H H' : Hp} {a : Addr} {xs : List V} {b : Bool} (h : SqB K H a xs b) (s : Same H H') : SqB K H' a xs b := by
  cases b with
  | true => exact s.seq h
  | false => exact Same.tup s h
theorem draws_b {prog : Program} {w : World} {A : Around} (hh : A.handled = none) (it a : Addr) (ne : a ≠ it) (items : Array Value) (b : Bool) :
    Draws prog w A it [it, a] items.size (fun i v => items[i]? = some v) (fun i h => ItB h it a i b ∧ IsB h a items b) := by
  cases b with
  | true => exact Draws.list hh it a ne items
  | false => exact Draws.tuple hh it a ne items
theorem begins_b (a : Addr) (items : Array Value) (b : Bool) : Begins (.ref a) (objB a b) fun h => IsB h a items b := by
  cases b with
  | true => exact begins_list a items
  | false => exact begins_tuple a items
theorem first_b {h : Heap} {it a : Addr} {b : Bool} (e : h.get? it = some (objB a b)) : ItB h it a 0 b := by
  cases b with
  | true => exact ⟨_, e, rfl, rfl⟩
  | false => exact ⟨_, e, rfl, rfl⟩
theorem ItB.obj {h : Heap} {it a : Addr} {i : Nat} {b : Bool} (t : ItB h it a i b) : ∃ o, h.get? it = some o ∧ ∀ v, o.data ≠ .cell v := by
  cases b with
  | true =>
    obtain ⟨o, e, _, d⟩ := t
    exact ⟨o, e, fun v q => by rw [d] at q; cases q⟩
  | false =>
    obtain ⟨o, e, _, d⟩ := t
    exact ⟨o, e, fun v q => by rw [d] at q; cases q⟩
theorem ItB.keep {h h' : Heap} {it a : Addr} {i : Nat} {b : Bool} (t : ItB h it a i b) (k : ∀ o, h.get? it = some o → h'.get? it = some o) : ItB h' it a i b := by
  cases b with
  | true =>
    obtain ⟨o, e, r⟩ := t
    exact ⟨o, k _ e, r⟩
  | false =>
    obtain ⟨o, e, r⟩ := t
    exact ⟨o, k _ e, r⟩
section
variable {X : Cx} {pins : List (Addr × Obj)} {σ : L2.St} {H : Hp} {s : Shared} {a : Addr} {xs ys : List V} {b : Bool}
theorem inv_b (I : Inv X pins σ H s) (h : SqB X.K H a xs b) : ∃ its : List Value, Vals xs its ∧ IsB s.heap a its.toArray b ∧ a < s.heap.objs.size := by
  cases b with
  | true =>
    obtain ⟨its, rv, p, _⟩ := I.list h
    exact ⟨its, rv, p.isList, p.lt⟩
  | false =>
    obtain ⟨its, rv, p, _⟩ := I.tuple h
    obtain ⟨o, e, _⟩ := id p
    exact ⟨its, rv, p, Heap.lt_size e⟩
theorem inj_b (I : Inv X pins σ H s) (h : SqB X.K H a xs b) (k : SqB X.K H a ys b) : xs = ys := by
  cases b with
  | true => exact I.list_inj h k
  | false => exact I.tuple_inj h k
end
/-- pairs of what two things hold -/
def ItzB (K : PySem.W.Frag) (a b : Addr) (p q : Bool) : It :=
  ⟨fun i H => ∃ (xs ys : List V) (x y : V), SqB K H a xs p ∧ SqB K H b ys q ∧ xs[i]? = some x ∧ ys[i]? = some y,
    fun i H v H' => ∃ T x y, v = .ref T ∧ H T = none ∧ H' = upd H T (.tup [x, y]) ∧ (∀ xs, SqB K H a xs p → xs[i]? = some x) ∧ ∀ ys, SqB K H b ys q → ys[i]? = some y,
    fun i H => ∃ xs ys : List V, SqB K H a xs p ∧ SqB K H b ys q ∧ xs.length = i ∧ ys.length = i⟩
theorem turn_zipB {P : Program} {w : World} {K : PySem.W.Frag} {elts : List Expr} {kk : Nat} {tpos : Pos} {a b : Addr} {p q : Bool} {N : Nat} (la : a < N) (lb : b < N) :
    Turn P w K (.Tuple elts kk tpos) (ItzB K a b p q) [N + 4, N + 2, N + 3, N, N + 1] (N + 4) (fun i h => IsZip h (N + 4) (N + 2) (N + 3) .none ∧ IsTupOf2 h (N + 2) (.ref N) (.ref (N + 1)) ∧ (∃ x y, IsTupOf2 h (N + 3) x y) ∧ ItB h N a i p ∧ ItB h (N + 1) b i q) where
  mem := List.mem_cons_self
  obj := fun i h st c hc => by
    obtain ⟨st1, st2, ⟨x, y, st3⟩, st4, st5⟩ := st
    have cs : c = N + 4 ∨ c = N + 2 ∨ c = N + 3 ∨ c = N ∨ c = N + 1 := by simpa using hc
    rcases cs with rfl | rfl | rfl | rfl | rfl
    · exact ⟨_, st1, nofun⟩
    · exact ⟨_, st2, nofun⟩
    · exact ⟨_, st3, nofun⟩
    · exact st4.obj
    · exact st5.obj
  keep := fun i h h' st k => by
    obtain ⟨st1, st2, ⟨x, y, st3⟩, st4, st5⟩ := st
    exact ⟨k _ (by simp) _ st1, k _ (by simp) _ st2, ⟨x, y, k _ (by simp) _ st3⟩, st4.keep (k _ (by simp)), st5.keep (k _ (by simp))⟩
  item := by
    intro X hP hw hK hc i pins s σ H E I hf st hg
    subst hP hw hK
    obtain ⟨st1, st2, ⟨x0, y0, st3⟩, st4, st5⟩ := st
    obtain ⟨xs, ys, x, y, sx, sy, gx, gy⟩ := hg
    obtain ⟨its, rv, ia, _⟩ := inv_b I sx
    obtain ⟨its2, rv2, ib, _⟩ := inv_b I sy
    obtain ⟨u, hu, ru⟩ := rv.get gx
    obtain ⟨u2, hu2, ru2⟩ := rv2.get gy
    have calm : X.A.in1.handled = none := I.ok.hd hc
    have S : ZipSep2 (N + 4) (N + 2) (N + 3) N (N + 1) [N, a] [N + 1, b] := zip_sep2 (fun c z => by rw [List.mem_singleton.mp z]; exact la) (fun c z => by rw [List.mem_singleton.mp z]; exact lb)
    have zlt : N + 4 < s.heap.objs.size := Heap.lt_size st1
    have i1 : i < its.toArray.size := by
      rw [List.size_toArray]
      exact (List.getElem?_eq_some_iff.mp hu).1
    have i2 : i < its2.toArray.size := by
      rw [List.size_toArray]
      exact (List.getElem?_eq_some_iff.mp hu2).1
    refine wpAny_pyNext_zipD2_item S (draws_b calm N a (Nat.ne_of_lt la) its.toArray p) (draws_b calm (N + 1) b (Nat.ne_of_lt (Nat.lt_succ_of_lt lb)) its2.toArray q) st1 st2 st3 ⟨st4, ia⟩ ⟨st5, ib⟩ i1 i2 fun v1 v2 h' tk p1 p2 z' TO' t1' t2' hT hsz hk => ?_
    have p1' : its.toArray[i]? = some v1 := p1
    have p2' : its2.toArray[i]? = some v2 := p2
    rw [List.getElem?_toArray, hu] at p1'
    rw [List.getElem?_toArray, hu2] at p2'
    obtain rfl := Option.some.inj p1'
    obtain rfl := Option.some.inj p2'
    refine ⟨_, rfl, wpAny_letOwnedTupleGo_zip (s := { s with heap := h', toks := tk }) z' fun h'' z'' sb => ?_⟩
    have hT2 : h''.get? s.heap.objs.size = some { cls := .type "tuple", data := .seq #[u, u2] } := (sb.2 _ (Nat.ne_of_gt zlt)).trans hT
    have new : ObjOk X.prog X.w (upd H s.heap.objs.size (.tup [x, y])) h'' s.heap.objs.size (.tup [x, y]) :=
      ⟨small (by show 2 ≤ 100000; decide), [u, u2], .cons ru (.cons ru2 .nil), ⟨_, hT2, rfl, _, rfl⟩⟩
    have out : ∀ {c : Nat}, c ∉ [N + 4, N + 2, N + 3, N, N + 1] → c ≠ N + 4 ∧ c ≠ N + 3 ∧ c ≠ N ∧ c ≠ N + 1 := fun {c} n => ⟨fun q => n (by simp [q]), fun q => n (by simp [q]), fun q => n (by simp [q]), fun q => n (by simp [q])⟩
    have I1 : Inv X pins σ (upd H s.heap.objs.size (.tup [x, y])) { s with heap := h'', toks := tk } :=
      I.turnedNew (t' := tk) (ch := [N + 4, N + 2, N + 3, N, N + 1]) (fun c o hb q => by
        obtain ⟨n1, n2, n3, n4⟩ := out hb
        exact (sb.2 c n1).trans (hk c o n1 n2 n3 n4 q)) hf (Nat.le_refl _) new
    have d1 : (N + 2 : Nat) ≠ N + 4 := by omega
    have d2 : (N + 3 : Nat) ≠ N + 4 := by omega
    have d3 : (N : Nat) ≠ N + 4 := by omega
    have d4 : (N + 1 : Nat) ≠ N + 4 := by omega
    have d5 : (N + 2 : Nat) ≠ N + 3 ∧ (N + 2 : Nat) ≠ N ∧ (N + 2 : Nat) ≠ N + 1 := by omega
    refine ⟨.ref s.heap.objs.size, _, I1, rfl, ⟨_, x, y, rfl, I.hok.fresh (Nat.le_refl _), rfl, fun l hl => by rw [inj_b I hl sx]; exact gx, fun l hl => by rw [inj_b I hl sy]; exact gy⟩, ⟨z'', ?_, ⟨u, u2, ?_⟩, ?_, ?_⟩, fun c hcm => ?_⟩
    · exact (sb.2 _ d1).trans (hk _ _ d1 d5.1 d5.2.1 d5.2.2 st2)
    · exact (sb.2 _ d2).trans TO'
    · exact t1'.1.keep fun o e => (sb.2 _ d3).trans e
    · exact t2'.1.keep fun o e => (sb.2 _ d4).trans e
    · have hlt : c < s.heap.objs.size := by
        have cs : c = N + 4 ∨ c = N + 2 ∨ c = N + 3 ∨ c = N ∨ c = N + 1 := by simpa using hcm
        have : (c : Nat) ≤ N + 4 := by
          rcases cs with q | q | q | q | q <;> rw [q]
          · exact Nat.le_refl _
          · exact Nat.add_le_add_left (by decide : 2 ≤ 4) N
          · exact Nat.add_le_add_left (by decide : 3 ≤ 4) N
          · exact Nat.le_add_right _ _
          · exact Nat.add_le_add_left (by decide : 1 ≤ 4) N
        exact Nat.lt_of_le_of_lt this zlt
      rw [upd_ne (Nat.ne_of_lt hlt)]
      exact (hf c hcm).1
  done := by
    intro X hP hw hK hc i pins s σ H E I hf st hg
    subst hP hw hK
    obtain ⟨st1, st2, ⟨x0, y0, st3⟩, st4, st5⟩ := st
    obtain ⟨xs, ys, sx, sy, l1, l2⟩ := hg
    obtain ⟨its, rv, ia, _⟩ := inv_b I sx
    obtain ⟨its2, rv2, ib, _⟩ := inv_b I sy
    have k1 := rv.length
    have k2 := rv2.length
    have calm : X.A.in1.handled = none := I.ok.hd hc
    have S : ZipSep2 (N + 4) (N + 2) (N + 3) N (N + 1) [N, a] [N + 1, b] := zip_sep2 (fun c z => by rw [List.mem_singleton.mp z]; exact la) (fun c z => by rw [List.mem_singleton.mp z]; exact lb)
    have i1 : its.toArray.size = i := by rw [List.size_toArray]; omega
    have i2 : its2.toArray.size = i := by rw [List.size_toArray]; omega
    refine wpAny_pyNext_zipD2_end S (draws_b calm N a (Nat.ne_of_lt la) its.toArray p) (draws_b calm (N + 1) b (Nat.ne_of_lt (Nat.lt_succ_of_lt lb)) its2.toArray q) st1 st2 st3 ⟨st4, ia⟩ ⟨st5, ib⟩ (by omega) (by omega) (by omega) fun h' tk hk => ⟨rfl, ?_⟩
    exact I.turnedL (t' := tk) (ch := [N + 4, N + 2, N + 3, N, N + 1]) (fun c o hb q => hk c o (fun z => hb (by simp [z])) (fun z => hb (by simp [z])) (fun z => hb (by simp [z])) (fun z => hb (by simp [z])) q) hf
  self := fun A i s Q E st h => wpAny_pyIter_zip st.1 h
def iZipB (K : PySem.W.Frag) (ta : TA) : TI := fun σ H R => ta σ H fun vs H1 => ∃ (a b : Addr) (xs ys : List V) (p q : Bool), vs = [.ref a, .ref b] ∧ SqB K H1 a xs p ∧ SqB K H1 b ys q ∧ R (ItzB K a b p q) H1
theorem pi_zipB {X : Cx} {K : PySem.W.Frag} {e e2 : Expr} {ta : TA} {p pos tpos : Pos} {elts : List Expr} {kk : Nat} (hK : X.K = K) (glob : Gl X "zip") (free : X.mg "zip" = none) (args : PA X [e, e2] ta)
    (st : starEach [e, e2] X.env = (false, eval e X.env) :: starEach [e2] X.env := by rfl) (bk : (backTo pos (starEach [e2] X.env)).any (·.1) = false := by rfl) : PI X (.Tuple elts kk tpos) (.Call (.Name "zip" p) [e, e2] [] pos) (iZipB K ta) := by
  subst hK
  constructor
  intro pins s σ H R I ask
  refine Call_ (ld_blt I glob free PyProof.Rows.boot_zip (PyProof.Rows.callWith_type1 (thn (args.run pos pins s σ H _ I ask) ?_) st bk))
  rintro us s1 ⟨vs, H1, I1, rel, a, b, xs, ys, p, q, ev, sx, sy, k⟩
  subst ev
  cases rel with
  | cons r rr =>
    cases rr with
    | cons r' rr =>
      cases rr
      cases r
      cases r'
      have fresh5 : ∀ c, c ∈ [s1.heap.objs.size + 4, s1.heap.objs.size + 2, s1.heap.objs.size + 3, s1.heap.objs.size, s1.heap.objs.size + 1] → FpOk X pins H1 c := fun c hcm => by
        have cs : c = s1.heap.objs.size + 4 ∨ c = s1.heap.objs.size + 2 ∨ c = s1.heap.objs.size + 3 ∨ c = s1.heap.objs.size ∨ c = s1.heap.objs.size + 1 := by simpa using hcm
        have low : s1.heap.objs.size ≤ c := by rcases cs with q | q | q | q | q <;> rw [q] <;> first | exact Nat.le_refl _ | exact Nat.le_add_right _ _
        exact I1.fpOk low (I1.hok.fresh low)
      obtain ⟨its, _, ia, la⟩ := inv_b I1 sx
      obtain ⟨its2, _, ib, lb⟩ := inv_b I1 sy
      refine zip_begins2 (begins_b a its.toArray p) (begins_b b its2.toArray q) ia ib fun h' hz hTI hTO h1 h2 hsz hk => wpAny_pyIter_zip hz ?_
      have I2 : Inv X pins σ H1 { s1 with heap := h' } := I1.kept (t' := s1.toks) hk
      exact ⟨s1.heap.objs.size + 4, [s1.heap.objs.size + 4, s1.heap.objs.size + 2, s1.heap.objs.size + 3, s1.heap.objs.size, s1.heap.objs.size + 1], _, _, H1, rfl, I2, turn_zipB la lb, ⟨hz, hTI, ⟨_, _, hTO⟩, first_b h1, first_b h2⟩, fresh5, k⟩
theorem walk_zipB {K : PySem.W.Frag} {a b : Addr} {xs ys : List V} {p q : Bool} {n : Nat} (hx : xs.length = n) (hy : ys.length = n) :
    Walk (ItzB K a b p q) n (fun H => SqB K H a xs p ∧ SqB K H b ys q) (YPair (fun i => xs[i]?) (fun i => ys[i]?)) where
  goes := fun i H hi g => ⟨xs, ys, xs[i]'(by omega), ys[i]'(by omega), g.1, g.2, List.getElem?_eq_getElem _, List.getElem?_eq_getElem _⟩
  stops := fun H g => ⟨xs, ys, g.1, g.2, hx, hy⟩
  yields := fun i H v H' hi g y => by
    obtain ⟨T, x, y, rfl, hT, e, f1, f2⟩ := y
    exact ⟨T, x, y, rfl, hT, e, f1 _ g.1, f2 _ g.2⟩
/-- what a thing holds, counted -/
def IteB (K : PySem.W.Frag) (a : Addr) (p : Bool) : It :=
  ⟨fun i H => ∃ (xs : List V) (x : V), SqB K H a xs p ∧ xs[i]? = some x, fun i H v H' => ∃ T x, v = .ref T ∧ H T = none ∧ H' = upd H T (.tup [.int (i : Nat), x]) ∧ ∀ xs, SqB K H a xs p → xs[i]? = some x, fun i H => ∃ xs : List V, SqB K H a xs p ∧ xs.length = i⟩
theorem turn_enumB {P : Program} {w : World} {K : PySem.W.Frag} {elts : List Expr} {kk : Nat} {tpos : Pos} {a : Addr} {p : Bool} {N : Nat} (la : a < N) :
    Turn P w K (.Tuple elts kk tpos) (IteB K a p) [N + 1, N] (N + 1) (fun i h => (∃ old, IsEnum h (N + 1) N ((i : Nat) : Int) old) ∧ ItB h N a i p) where
  mem := List.mem_cons_self
  obj := fun i h st c hc => by
    obtain ⟨⟨old, st1⟩, st2⟩ := st
    have cs : c = N + 1 ∨ c = N := by simpa using hc
    rcases cs with rfl | rfl
    · exact ⟨_, st1, nofun⟩
    · exact st2.obj
  keep := fun i h h' st k => by
    obtain ⟨⟨old, st1⟩, st2⟩ := st
    exact ⟨⟨old, k _ (by simp) _ st1⟩, st2.keep (k _ (by simp))⟩
  item := by
    intro X hP hw hK hc i pins s σ H E I hf st hg
    subst hP hw hK
    obtain ⟨⟨old, st1⟩, st2⟩ := st
    obtain ⟨xs, x, sx, gx⟩ := hg
    obtain ⟨its, rv, ia, _⟩ := inv_b I sx
    obtain ⟨u, hu, ru⟩ := rv.get gx
    have calm : X.A.in1.handled = none := I.ok.hd hc
    have elt : N + 1 < s.heap.objs.size := Heap.lt_size st1
    have i1 : i < its.toArray.size := by
      rw [List.size_toArray]
      exact (List.getElem?_eq_some_iff.mp hu).1
    refine wpAny_pyNext_enum_itemC (draws_b calm N a (Nat.ne_of_lt la) its.toArray p) st1 ⟨st2, ia⟩ i1 (Nat.succ_ne_self N) (by
      intro z
      have cs : N + 1 = N ∨ N + 1 = a := by simpa using z
      have : ¬ (N + 1 = N) := Nat.succ_ne_self N
      rcases cs with q | q
      · exact this q
      · have la' : (a : Nat) < N := la
        rw [← q] at la'
        exact Nat.lt_irrefl N (Nat.lt_trans (Nat.lt_succ_self N) la')) fun v h' tk p1 out t1 hT hsz hk => ?_
    have p1' : its.toArray[i]? = some v := p1
    rw [List.getElem?_toArray, hu] at p1'
    obtain rfl := Option.some.inj p1'
    refine ⟨_, rfl, wpAny_letOwnedTupleGo_enum (s := { s with heap := h', toks := tk + 1 }) out fun h'' he' sb => ?_⟩
    have hT2 : h''.get? s.heap.objs.size = some { cls := .type "tuple", data := .seq #[.int i tk, u] } := (sb.2 _ (Nat.ne_of_gt elt)).trans hT
    have new : ObjOk X.prog X.w (upd H s.heap.objs.size (.tup [.int (i : Nat), x])) h'' s.heap.objs.size (.tup [.int (i : Nat), x]) :=
      ⟨small (by show 2 ≤ 100000; decide), [.int i tk, u], .cons ⟨_, rfl⟩ (.cons ru .nil), ⟨_, hT2, rfl, _, rfl⟩⟩
    have I1 : Inv X pins σ (upd H s.heap.objs.size (.tup [.int (i : Nat), x])) { s with heap := h'', toks := tk + 1 } :=
      I.turnedNew (t' := tk + 1) (ch := [N + 1, N]) (fun c o hb q => (sb.2 c (fun z => hb (by simp [z]))).trans (hk c o (fun z => hb (by simp [z])) (fun z => hb (by simp [z])) q)) hf (Nat.le_refl _) new
    refine ⟨.ref s.heap.objs.size, _, I1, rfl, ⟨_, x, rfl, I.hok.fresh (Nat.le_refl _), rfl, fun l hl => by rw [inj_b I hl sx]; exact gx⟩, ⟨⟨u, ?_⟩, ?_⟩, fun c hcm => ?_⟩
    · have e1 : ((i + 1 : Nat) : Int) = (i : Int) + 1 := by omega
      rw [e1]
      exact he'
    · exact t1.1.keep fun o e => (sb.2 _ (Nat.ne_of_lt (Nat.lt_succ_self N))).trans e
    · have hlt : c < s.heap.objs.size := by
        have cs : c = N + 1 ∨ c = N := by simpa using hcm
        rcases cs with q | q <;> rw [q]
        · exact elt
        · exact Nat.lt_trans (Nat.lt_succ_self N) elt
      rw [upd_ne (Nat.ne_of_lt hlt)]
      exact (hf c hcm).1
  done := by
    intro X hP hw hK hc i pins s σ H E I hf st hg
    subst hP hw hK
    obtain ⟨⟨old, st1⟩, st2⟩ := st
    obtain ⟨xs, sx, l1⟩ := hg
    obtain ⟨its, rv, ia, _⟩ := inv_b I sx
    have k1 := rv.length
    have calm : X.A.in1.handled = none := I.ok.hd hc
    have i1 : its.toArray.size = i := by rw [List.size_toArray]; omega
    refine wpAny_pyNext_enum_endD (draws_b calm N a (Nat.ne_of_lt la) its.toArray p) st1 (by rw [i1]; exact ⟨st2, ia⟩) fun h' hx => ⟨rfl, ?_⟩
    exact I.turnedL (t' := s.toks) (ch := [N + 1, N]) (fun c o hb q => hx c o (fun z => hb (by simp [z])) q) hf
  self := fun A i s Q E st h => by
    obtain ⟨⟨old, st1⟩, _⟩ := st
    exact wpAny_pyIter_enum st1 h
theorem enum1_meets {v : Value} {o : Obj} {G : Heap → Prop} (B : Begins v o G) :
    Meets (Builtin.«enumerate.__new__» ⟨[.type "enumerate", v], []⟩) (fun _ R s => G s.heap ∧ R (.ok (.ret (.ref (s.heap.push o).objs.size))) { s with heap := (s.heap.push o).push { cls := .type "enumerate", data := .fields #[.none, .bool false, .ref s.heap.objs.size, rawInt 0, .none, .none] } }) :=
  .of_wp fun prog w A R s ask => by
    obtain ⟨hp, g, d, tk, os⟩ := s; obtain ⟨g1, ask⟩ := ask
    have hsub := sub_enumerate
    have way : ∀ {A' : Around} {E : Value → Shared → Prop} {Q : Value → Shared → Prop}, Q (.ref hp.objs.size) ⟨hp.push o, g, d, tk, os⟩ → wpAny (model prog w) A' (pyIter v) Q E ⟨hp, g, d, tk, os⟩ := fun k => B.iter prog w _ _ ⟨hp, g, d, tk, os⟩ _ g1 k
    wp_walk using way
    refine wpAny_stack_any fun st => wpAny_pure ?_
    split
    · rename_i c _ _ _ _ _
      cases (c == Value.type "enumerate") <;> (wp_walk using way; exact ⟨_, rfl, ask⟩)
    · wp_walk using way
      exact ⟨_, rfl, ask⟩
theorem enum1_begins {prog : Program} {w : World} {A : Around} {E : Value → Shared → Prop} {s : Shared} {v : Value} {o : Obj} {G : Heap → Prop} {Q : Value → Shared → Prop} (B : Begins v o G) (g1 : G s.heap)
    (ask : ∀ h', IsEnum h' (s.heap.objs.size + 1) s.heap.objs.size 0 .none → h'.get? s.heap.objs.size = some o → h'.objs.size = s.heap.objs.size + 2 → (∀ b o, s.heap.get? b = some o → h'.get? b = some o) → Q (.ref (s.heap.objs.size + 1)) { s with heap := h' }) :
    wpAny (model prog w) A (call (.type "enumerate") [v]) Q E s := by
  refine callType_new F.called_enumerate (by decide) (F.typeCall_enumerate_1 _) (F.newCall_enumerate_1 _) (fun obj => F.args_object_init_2 obj _) F.entry_enumerate_new (enum1_meets B) ⟨g1, ?_⟩
  have sz : (s.heap.push o).objs.size = s.heap.objs.size + 1 := Heap.size_push ..
  show _ ∧ _
  rw [sz]
  have he : IsEnum ((s.heap.push o).push { cls := .type "enumerate", data := .fields #[.none, .bool false, .ref s.heap.objs.size, rawInt 0, .none, .none] }) (s.heap.objs.size + 1) s.heap.objs.size 0 .none := by
    have k := Heap.get?_push_size (s.heap.push o) (o := { cls := .type "enumerate", data := .fields #[.none, .bool false, .ref s.heap.objs.size, rawInt 0, .none, .none] }) rfl
    rw [sz] at k; exact k
  exact ⟨⟨_, he, rfl⟩, ask _ he (Heap.get?_push_of_some _ (Heap.get?_push_size _ B.free)) (by rw [Heap.size_push, sz]) fun b o x => Heap.get?_push_of_some _ (Heap.get?_push_of_some _ x)⟩
def iEnumB (K : PySem.W.Frag) (ta : TA) : TI := fun σ H R => ta σ H fun vs H1 => ∃ (a : Addr) (xs : List V) (p : Bool), vs = [.ref a] ∧ SqB K H1 a xs p ∧ R (IteB K a p) H1
theorem pi_enumB {X : Cx} {K : PySem.W.Frag} {e : Expr} {ta : TA} {p pos tpos : Pos} {elts : List Expr} {kk : Nat} (hK : X.K = K) (glob : Gl X "enumerate") (free : X.mg "enumerate" = none) (args : PA X [e] ta) (st : starEach [e] X.env = [(false, eval e X.env)] := by rfl) :
    PI X (.Tuple elts kk tpos) (.Call (.Name "enumerate" p) [e] [] pos) (iEnumB K ta) := by
  subst hK
  constructor
  intro pins s σ H R I ask
  refine Call_ (ld_blt I glob free boot_enumerate (PyProof.Rows.callWith_type1 (thn (args.run pos pins s σ H _ I ask) ?_) st rfl))
  rintro us s1 ⟨vs, H1, I1, rel, a, xs, p, ev, sx, k⟩
  subst ev
  cases rel with
  | cons r rr =>
    cases rr
    cases r
    obtain ⟨its, _, ia, la⟩ := inv_b I1 sx
    refine enum1_begins (begins_b a its.toArray p) ia fun h' he h1 hsz hk => wpAny_pyIter_enum he ?_
    have I2 : Inv X pins σ H1 { s1 with heap := h' } := I1.kept (t' := s1.toks) hk
    refine ⟨s1.heap.objs.size + 1, [s1.heap.objs.size + 1, s1.heap.objs.size], _, _, H1, rfl, I2, turn_enumB la, ⟨⟨.none, he⟩, first_b h1⟩, fun c hcm => ?_, k⟩
    have cs : c = s1.heap.objs.size + 1 ∨ c = s1.heap.objs.size := by simpa using hcm
    have low : s1.heap.objs.size ≤ c := by rcases cs with q | q <;> rw [q] <;> first | exact Nat.le_refl _ | exact Nat.le_add_right _ _
    exact I1.fpOk low (I1.hok.fresh low)
theorem walk_enumB {K : PySem.W.Frag} {a : Addr} {xs : List V} {p : Bool} : Walk (IteB K a p) xs.length (fun H => SqB K H a xs p) (YPair (fun i => some (.int (i : Nat))) (fun i => xs[i]?)) where
  goes := fun i H hi g => ⟨xs, xs[i]'(by omega), g, List.getElem?_eq_getElem _⟩
  stops := fun H g => ⟨xs, g, rfl⟩
  yields := fun i H v H' hi g y => by
    obtain ⟨T, x, rfl, hT, e, f⟩ := y
    exact ⟨T, _, x, rfl, hT, e, rfl, f _ g⟩
/-- for over a list or a tuple -/
def iSeqB (K : PySem.W.Frag) (tl : TE) : TI := fun σ H R => tl σ H fun x H1 => ∃ a, x = .ref a ∧ (((∃ xs, SqL K H1 a xs) ∧ R (Itl K a) H1) ∨ ((∃ xs, SqT K H1 a xs) ∧ R (Itt K a) H1))
theorem pi_seqB {X : Cx} {K : PySem.W.Frag} {tg l : Expr} {tl : TE} (hK : X.K = K) (hl : PE X l tl) : PI X tg l (iSeqB K tl) := by
  subst hK
  constructor
  intro pins s σ H R I ask
  refine thn (hl.run pins s σ H _ I ask) fun v s1 ⟨x, H1, I1, r1, a, e, q⟩ => ?_
  subst e
  have e1 : v = Value.ref a := r1
  subst e1
  rcases q with ⟨⟨xs, sx⟩, k⟩ | ⟨⟨xs, sx⟩, k⟩
  · obtain ⟨its, _, ia, _⟩ := I1.list sx
    refine wpAny_pyIter_list ia.isList ⟨s1.heap.objs.size, [s1.heap.objs.size], _, _, H1, rfl, I1.kept (t' := s1.toks) (fun b o e => Heap.get?_push_of_some _ e), turn_list a _, ⟨_, Heap.get?_push_size _ rfl, rfl, rfl⟩, fun c hc => ?_, k⟩
    rw [List.mem_singleton.mp hc]; exact I1.fpOk (Nat.le_refl _) (I1.hok.fresh (Nat.le_refl _))
  · obtain ⟨its, _, ia, _⟩ := I1.tuple sx
    refine wpAny_pyIter_tuple (show s1.heap.IsTuple a its.toArray from ia) ⟨s1.heap.objs.size, [s1.heap.objs.size], _, _, H1, rfl, I1.kept (t' := s1.toks) (fun b o e => Heap.get?_push_of_some _ e), turn_tuple a _, ⟨_, Heap.get?_push_size _ rfl, rfl, rfl⟩, fun c hc => ?_, k⟩
    rw [List.mem_singleton.mp hc]; exact I1.fpOk (Nat.le_refl _) (I1.hok.fresh (Nat.le_refl _))
/-- one rule for a list and a tuple -/
def ItsB (K : PySem.W.Frag) (a : Addr) : Bool → It
  | true => Itl K a
  | false => Itt K a
def iSeqU (K : PySem.W.Frag) (tl : TE) : TI := fun σ H R => tl σ H fun x H1 => ∃ (a : Addr) (xs : List V) (p : Bool), x = .ref a ∧ SqB K H1 a xs p ∧ R (ItsB K a p) H1
theorem pi_seqU {X : Cx} {K : PySem.W.Frag} {tg l : Expr} {tl : TE} (hK : X.K = K) (hl : PE X l tl) : PI X tg l (iSeqU K tl) := by
  subst hK
  constructor
  intro pins s σ H R I ask
  refine thn (hl.run pins s σ H _ I ask) fun v s1 ⟨x, H1, I1, r1, a, xs, p, e, sx, k⟩ => ?_
  subst e
  have e1 : v = Value.ref a := r1
  subst e1
  cases p with
  | true =>
    obtain ⟨its, _, ia, _⟩ := I1.list sx
    refine wpAny_pyIter_list ia.isList ⟨s1.heap.objs.size, [s1.heap.objs.size], _, _, H1, rfl, I1.kept (t' := s1.toks) (fun b o e => Heap.get?_push_of_some _ e), turn_list a _, ⟨_, Heap.get?_push_size _ rfl, rfl, rfl⟩, fun c hc => ?_, k⟩
    rw [List.mem_singleton.mp hc]; exact I1.fpOk (Nat.le_refl _) (I1.hok.fresh (Nat.le_refl _))
  | false =>
    obtain ⟨its, _, ia, _⟩ := I1.tuple sx
    refine wpAny_pyIter_tuple (show s1.heap.IsTuple a its.toArray from ia) ⟨s1.heap.objs.size, [s1.heap.objs.size], _, _, H1, rfl, I1.kept (t' := s1.toks) (fun b o e => Heap.get?_push_of_some _ e), turn_tuple a _, ⟨_, Heap.get?_push_size _ rfl, rfl, rfl⟩, fun c hc => ?_, k⟩
    rw [List.mem_singleton.mp hc]; exact I1.fpOk (Nat.le_refl _) (I1.hok.fresh (Nat.le_refl _))
theorem walk_seqU {K : PySem.W.Frag} {a : Addr} {xs : List V} {p : Bool} : Walk (ItsB K a p) xs.length (fun H => SqB K H a xs p) (YAt xs) := by
  cases p with
  | true => exact walk_list
  | false => exact walk_tup
end KR
/-! ### days: ladles hour by hour, what each place has taken -/
namespace KR
open PySem PySem.Spec PyProof.Rows L2
theorem minLK {X : Cx} {K : PySem.W.Frag} (hK : X.K = K) (hc : X.calm = true) : CallR X (.builtin "min") (rMin K) := hK ▸ cr_min hc
theorem maxLK {X : Cx} {K : PySem.W.Frag} (hK : X.K = K) (hc : X.calm = true) : CallR X (.builtin "max") (rMax K) := hK ▸ cr_max hc
theorem nuMin3_int (i j k : Int) : nuMin3 (.int i) (.int j) (.int k) = some (.int (min (min i j) k)) := by
  have two : ∀ a b : Int, nuMin2 (.int a) (.int b) = some (.int (min a b)) := fun a b => by
    show some (if decide (b < a) = true then V.int b else V.int a) = _
    by_cases h : b < a
    · rw [decide_eq_true h, if_pos rfl, Int.min_def, if_neg (by omega)]
    · rw [decide_eq_false h, if_neg Bool.false_ne_true, Int.min_def, if_pos (by omega)]
  show (nuMin2 (.int i) (.int j)).bind (fun m => nuMin2 m (.int k)) = _
  rw [two i j]
  exact two _ k
/-! the sum of a list or a tuple of numbers; a part of a list or a tuple -/
theorem sum_intTuple {prog : Program} {w : World} {A : Around} {E : Value → Shared → Prop} {s : Shared} {l : Addr} {xs : Array (Int × Tok)} {Q : Value → Shared → Prop} (hh : A.handled = none) (hl : s.heap.IsTuple l (intItems xs))
    (h : ∀ h' tk t', (∀ b o, s.heap.get? b = some o → h'.get? b = some o) → Q (.int (preSum (numAt xs) xs.size) t') { s with heap := h', toks := tk }) :
    wpAny (model prog w) A (call (.builtin "sum") [.ref l]) Q E s := by
  have hlt : l < s.heap.objs.size := by obtain ⟨_, e, _⟩ := id hl; exact Heap.lt_size e
  refine call_sum_walkG (wpAny_pyIter_tuple hl ?_)
  refine ⟨_, [_, l], [_], _, _, _, numAt xs, rfl, Walks.tuple (A := A.in1) hh s.heap.objs.size l (Nat.ne_of_lt hlt) (intItems xs), ⟨⟨_, Heap.get?_push_size _ rfl, rfl, rfl⟩, hl.push _⟩, fun c hc => ?_, (fun _ _ => intItems_at), fun h' tk t' hk => ?_⟩
  · show c < (s.heap.push _).objs.size
    rw [Heap.size_push]
    rcases List.mem_cons.mp hc with rfl | hc
    · exact Nat.lt_succ_self _
    · rcases List.mem_cons.mp hc with rfl | hc
      · exact Nat.lt_succ_of_lt hlt
      · cases hc
  · have := h h' tk t' fun b o e => hk b o (fun hm => by
      rcases List.mem_cons.mp hm with e1 | hm
      · exact absurd (e1 ▸ Heap.lt_size e) (Nat.lt_irrefl _)
      · cases hm) (Heap.get?_push_of_some _ e)
    simpa [intItems] using this
theorem sum_rawT {prog : Program} {w : World} {A : Around} {E : Value → Shared → Prop} {s : Shared} {l : Addr} {its : List Value} {ns : List Int} {Q : Value → Shared → Prop} (hh : A.handled = none) (hl : s.heap.IsTuple l its.toArray) (hi : IntsAre its ns)
    (h : ∀ h' tk t', (∀ b o, s.heap.get? b = some o → h'.get? b = some o) → Q (.int ns.sum t') { s with heap := h', toks := tk }) : wpAny (model prog w) A (call (.builtin "sum") [.ref l]) Q E s := by
  obtain ⟨xs, e⟩ := hi.allInts.items
  have hn : numsOf (intItems xs).toList = ns := by rw [← e]; exact hi.numsOf
  rw [nums_intItems] at hn
  rw [e] at hl
  refine sum_intTuple hh hl fun h' tk t' hk => ?_
  have := h h' tk t' hk
  rw [preSum_eq, List.take_of_length_le (by simp), hn]; exact this
def rSumB (K : PySem.W.Frag) : List V → Hp → VK → Prop := fun vs H Q => ∃ (a : Addr) (ns : List Int) (p : Bool), vs = [V.ref a] ∧ SqB K H a (ns.map V.int) p ∧ Q (.int ns.sum) H
theorem sumBK {X : Cx} {K : PySem.W.Frag} (hK : X.K = K) (hc : X.calm = true) : CallR X (.builtin "sum") (rSumB K) := by
  subst hK
  intro pins s σ H vs us Q I r h
  obtain ⟨a, ns, p, rfl, hs, q⟩ := h
  cases p with
  | true => exact cr_sum hc pins s σ H _ us Q I r ⟨a, ns, rfl, hs, q⟩
  | false =>
    obtain ⟨its, rv, hl, _⟩ := I.tuple hs
    rw [Vals.ref1 r]
    exact sum_rawT (I.ok.hd hc) hl rv.ints fun h' tk t' hk => ⟨.int _, H, I.kept hk, ⟨_, rfl⟩, q⟩
def rSlB (K : PySem.W.Frag) : V → Option Int → Option Int → Hp → VK → Prop := fun x lo hi H Q => ∃ (a : Addr) (xs : List V) (p : Bool), x = .ref a ∧ SqB K H a xs p ∧ ∀ (c : Addr) (H' : Hp), Same H H' → SqB K H' c (cutV xs lo hi) p → Q (.ref c) H'
theorem cut_whole {xs : List V} {lo hi : Option Int} (h : HT.sIx xs.length 0 lo = 0 ∧ HT.sIx xs.length xs.length hi = xs.length) : cutV xs lo hi = xs := by
  unfold cutV
  rw [h.1, h.2, List.drop_zero, Nat.sub_zero, List.take_length]
theorem slBK {X : Cx} {K : PySem.W.Frag} (hK : X.K = K) : SlR X (rSlB K) := by
  subst hK
  intro pins s σ H x v vl vu lo hi sl Q I rx hs pl pu h
  obtain ⟨a, xs, p, rfl, hx, q⟩ := h
  cases p with
  | true => exact sl_list pins s σ H _ v vl vu lo hi sl Q I rx hs pl pu ⟨a, xs, rfl, hx, fun c hc => q c _ (same_new hc) (SqL.of upd_same)⟩
  | false =>
    refine sl_tupA pins s σ H _ v vl vu lo hi sl Q I rx hs pl pu ⟨a, xs, rfl, hx, fun w => ?_, fun _ c hc => q c _ (same_new hc) (SqT.of upd_same)⟩
    refine q a H (.refl _) ?_
    rw [cut_whole w]
    exact hx
theorem cut_to' {xs : List V} {n : Nat} (h : n ≤ xs.length) : cutV xs none (some (n : Int)) = xs.take n := by
  unfold cutV
  rw [HT.sIx_none, HT.sIx_nat, Nat.min_eq_left h, Nat.sub_zero, List.drop_zero]
theorem same_none' {H H' : Hp} {a : Addr} (s : Same H H') (n : H' a = none) : H a = none := by
  cases e : H a with
  | none => rfl
  | some o =>
    have k := s _ _ e
    rw [n] at k
    cases k
theorem fr_new' {p c : Addr} {H H' : Hp} (F : Fr p H H') (n : H' c = none) (ne : c ≠ p) : H c = none := by
  cases e : H c with
  | none => rfl
  | some o =>
    have k := F _ _ ne e
    rw [n] at k
    cases k
/-! what a day tells -/
structure Dy where
  cs : List Int
  ks : List (Int × List Int)
  ss : List Int
structure DyOk (D : Dy) : Prop where
  h1 : 1 ≤ D.cs.length
  h2 : D.cs.length ≤ 48
  k1 : 1 ≤ D.ks.length
  k2 : D.ks.length ≤ 8
  ts : ∀ k ∈ D.ks, k.2.length = D.cs.length
  sl : D.ss.length = D.cs.length
def csum (D : Dy) (t : Nat) : Int := (D.cs.take t).sum
def kt (D : Dy) (p : Nat) : Int × List Int := D.ks.getD p (0, [])
def tkQ (D : Dy) (t : Nat) (prev : Nat → Int) : Nat → Int
  | 0 => min (prev (D.ks.length - 1)) (prev D.ks.length + D.ss.getD t 0)
  | q + 1 => min (min (if D.ks.length - (q + 1) = 0 then csum D (t + 1) else prev (D.ks.length - (q + 1) - 1)) (prev (D.ks.length - (q + 1)) + (kt D (D.ks.length - (q + 1))).2.getD t 0)) (tkQ D t prev q + (kt D (D.ks.length - (q + 1))).1)
/-- what a place has taken by so many hours -/
def tk (D : Dy) : Nat → Nat → Int
  | 0, _ => 0
  | t + 1, p => tkQ D t (tk D t) (D.ks.length - p)
theorem tk_zero (D : Dy) (p : Nat) : tk D 0 p = 0 := rfl
theorem tk_last (D : Dy) (t : Nat) : tk D (t + 1) D.ks.length = min (tk D t (D.ks.length - 1)) (tk D t D.ks.length + D.ss.getD t 0) := by
  show tkQ D t (tk D t) (D.ks.length - D.ks.length) = _
  rw [Nat.sub_self] <;> rfl
theorem tk_at {D : Dy} {t p : Nat} (h : p < D.ks.length) : tk D (t + 1) p = min (min (if p = 0 then csum D (t + 1) else tk D t (p - 1)) (tk D t p + (kt D p).2.getD t 0)) (tk D (t + 1) (p + 1) + (kt D p).1) := by
  show tkQ D t (tk D t) (D.ks.length - p) = min (min _ _) (tkQ D t (tk D t) (D.ks.length - (p + 1)) + _)
  obtain ⟨q, e⟩ : ∃ q, D.ks.length - p = q + 1 := ⟨D.ks.length - p - 1, by omega⟩
  have e1 : D.ks.length - (q + 1) = p := by omega
  have e2 : D.ks.length - (p + 1) = q := by omega
  rw [e, e2]
  show min (min (if D.ks.length - (q + 1) = 0 then _ else tk D t (D.ks.length - (q + 1) - 1)) (tk D t (D.ks.length - (q + 1)) + (kt D (D.ks.length - (q + 1))).2.getD t 0)) (tkQ D t (tk D t) q + (kt D (D.ks.length - (q + 1))).1) = _
  rw [e1]
/-- what each hour takes at a place -/
def rowI (D : Dy) (p : Nat) : List Int := (List.range D.cs.length).map fun t => tk D (t + 1) p - tk D t p
theorem row_len (D : Dy) (p : Nat) : (rowI D p).length = D.cs.length := by
  unfold rowI
  rw [List.length_map, List.length_range]
theorem row_get {D : Dy} {p t : Nat} (h : t < D.cs.length) : (rowI D p)[t]? = some (tk D (t + 1) p - tk D t p) := by
  unfold rowI
  rw [List.getElem?_map, List.getElem?_range h] <;> rfl
theorem row_sum (D : Dy) (p : Nat) : ∀ t, t ≤ D.cs.length → ((rowI D p).take t).sum = tk D t p := fun t => by
  induction t with
  | zero => intro _; rw [List.take_zero, tk_zero] <;> rfl
  | succ t ih =>
    intro h
    rw [take_one (row_get (by omega)), List.sum_append, ih (by omega), List.sum_cons, List.sum_nil]
    omega
/-! where a day stands -/
def IsB' (K : PySem.W.Frag) (H : Hp) (p a : Addr) (ns : List Int) (b : Bool) : Prop := SqB K H a (ns.map V.int) b ∧ a ≠ p
structure KtAt (K : PySem.W.Frag) (H : Hp) (p a : Addr) (k : Int × List Int) : Prop where
  ex : ∃ t b, SqT K H a [.int k.1, .ref t] ∧ IsB' K H p t k.2 b
structure DyP where
  c : Addr
  k : Addr
  s : Addr
  pc : Bool
  pk : Bool
  ps : Bool
  as : List Addr
structure DayAt (K : PySem.W.Frag) (H : Hp) (p a : Addr) (x : DyP) (D : Dy) : Prop where
  at_ : SqT K H a [.ref x.c, .ref x.k, .ref x.s]
  cs : IsB' K H p x.c D.cs x.pc
  ks : SqB K H x.k (x.as.map V.ref) x.pk
  kp : x.k ≠ p
  ss : IsB' K H p x.s D.ss x.ps
  len : x.as.length = D.ks.length
  kt : ∀ (j : Nat) (a : Addr) (k : Int × List Int), x.as[j]? = some a → D.ks[j]? = some k → KtAt K H p a k
theorem IsB'.same {K : PySem.W.Frag} {H H' : Hp} {p a : Addr} {ns : List Int} {b : Bool} (h : IsB' K H p a ns b) (s : Same H H') : IsB' K H' p a ns b := ⟨h.1.same s, h.2⟩
theorem SqB.fr {K : PySem.W.Frag} {H H' : Hp} {p a : Addr} {xs : List V} {b : Bool} {n : Nat} (h : SqB K H a xs b) (ne : a ≠ p) (B : BoxAt H p n) (f : Fr p H H') : SqB K H' a xs b := by
  cases b with
  | true =>
    rcases h with (h | ⟨o, h⟩) | h
    · exact .inl (.inl (f _ _ ne h))
    · exact .inl (.inr ⟨o, f _ _ ne h⟩)
    · exact .inr h
  | false => exact sqT_fr h B f
theorem IsB'.fr {K : PySem.W.Frag} {H H' : Hp} {p a : Addr} {ns : List Int} {b : Bool} {n : Nat} (h : IsB' K H p a ns b) (B : BoxAt H p n) (f : Fr p H H') : IsB' K H' p a ns b := ⟨SqB.fr h.1 h.2 B f, h.2⟩
theorem KtAt.same {K : PySem.W.Frag} {H H' : Hp} {p a : Addr} {k : Int × List Int} (h : KtAt K H p a k) (s : Same H H') : KtAt K H' p a k := by
  obtain ⟨t, b, h1, h2⟩ := h.ex
  exact ⟨t, b, Same.tup s h1, h2.same s⟩
theorem KtAt.fr {K : PySem.W.Frag} {H H' : Hp} {p a : Addr} {k : Int × List Int} {n : Nat} (h : KtAt K H p a k) (B : BoxAt H p n) (f : Fr p H H') : KtAt K H' p a k := by
  obtain ⟨t, b, h1, h2⟩ := h.ex
  exact ⟨t, b, sqT_fr h1 B f, h2.fr B f⟩
theorem DayAt.same {K : PySem.W.Frag} {H H' : Hp} {p a : Addr} {x : DyP} {D : Dy} (h : DayAt K H p a x D) (s : Same H H') : DayAt K H' p a x D :=
  ⟨Same.tup s h.at_, h.cs.same s, h.ks.same s, h.kp, h.ss.same s, h.len, fun j a k e1 e2 => (h.kt j a k e1 e2).same s⟩
theorem DayAt.fr {K : PySem.W.Frag} {H H' : Hp} {p a : Addr} {x : DyP} {D : Dy} {n : Nat} (h : DayAt K H p a x D) (B : BoxAt H p n) (f : Fr p H H') : DayAt K H' p a x D :=
  ⟨sqT_fr h.at_ B f, h.cs.fr B f, SqB.fr h.ks h.kp B f, h.kp, h.ss.fr B f, h.len, fun j a k e1 e2 => (h.kt j a k e1 e2).fr B f⟩
theorem DayAt.pot {K : PySem.W.Frag} {H : Hp} {p a : Addr} {x : DyP} {D : Dy} (h : DayAt K H p a x D) {j : Nat} (lt : j < D.ks.length) : ∃ ka t b, (x.as.map V.ref)[j]? = some (.ref ka) ∧ SqT K H ka [.int (KR.kt D j).1, .ref t] ∧ IsB' K H p t (KR.kt D j).2 b := by
  have e1 : x.as[j]? = some (x.as[j]'(by rw [h.len]; exact lt)) := List.getElem?_eq_getElem _
  have e2 : D.ks[j]? = some D.ks[j] := List.getElem?_eq_getElem lt
  obtain ⟨t, b, h1, h2⟩ := (h.kt j _ _ e1 e2).ex
  have e3 : KR.kt D j = D.ks[j] := by
    unfold KR.kt
    rw [List.getD_eq_getElem?_getD, e2] <;> rfl
  rw [e3]
  exact ⟨_, t, b, by rw [List.getElem?_map, e1] <;> rfl, h1, h2⟩
theorem ints_get {ns : List Int} {t : Nat} (h : t < ns.length) : (ns.map V.int)[t]? = some (.int (ns.getD t 0)) := by
  rw [List.getElem?_map, List.getD_eq_getElem?_getD, List.getElem?_eq_getElem h] <;> rfl
theorem kt_len {D : Dy} (O : DyOk D) {p : Nat} (h : p < D.ks.length) : (kt D p).2.length = D.cs.length := by
  refine O.ts _ ?_
  unfold kt
  rw [List.getD_eq_getElem?_getD, List.getElem?_eq_getElem h]
  exact List.getElem_mem h
theorem lenV_b {K : PySem.W.Frag} {H : Hp} {a : Addr} {xs : List V} {p : Bool} (h : SqB K H a xs p) : LenV K (.ref a) H xs.length := by
  cases p with
  | true => exact .inl ⟨xs, h, rfl⟩
  | false => exact .inr ⟨xs, h, rfl⟩
theorem ix_b {K : PySem.W.Frag} {H : Hp} {a : Addr} {xs : List V} {p : Bool} {i : Nat} {j : Int} {v : V} {Q : VK} (h : SqB K H a xs p) (e : j = (i : Int)) (g : xs[i]? = some v) (q : Q v H) : rIx K (.ref a) (.int j) H Q := by
  subst e
  cases p with
  | true => exact .inl ⟨a, xs, _, v, rfl, rfl, h, at_of rfl g, q⟩
  | false => exact .inr (.inl ⟨a, xs, _, v, rfl, rfl, h, at_of rfl g, q⟩)
/-! bounds -/
structure Bd where
  word : Str
  lead : Option (Int × Int)
  more : Int
def leadV (H : Hp) (l : V) : Option (Int × Int) → Prop
  | none => l = .non
  | some (p, h) => ∃ q, l = .ref q ∧ H q = some (.tup [.int p, .int h])
def BdAt (H : Hp) (kv : Key × V) (b : Bd) : Prop := kv.1 = .inr b.word ∧ ∃ t l, kv.2 = .ref t ∧ H t = some (.tup [l, .int b.more]) ∧ leadV H l b.lead
theorem leadV.same {H H' : Hp} {l : V} {o : Option (Int × Int)} (h : leadV H l o) (s : Same H H') : leadV H' l o := by
  cases o with
  | none => exact h
  | some x =>
    obtain ⟨q, e, h1⟩ := h
    exact ⟨q, e, s _ _ h1⟩
theorem BdAt.same {H H' : Hp} {kv : Key × V} {b : Bd} (h : BdAt H kv b) (s : Same H H') : BdAt H' kv b := by
  obtain ⟨h1, t, l, h2, h3, h4⟩ := h
  exact ⟨h1, t, l, h2, s _ _ h3, h4.same s⟩
/-- what bounds a place at an hour, that one behind so many hours -/
def firstB (D : Dy) (p t : Nat) : Bd := if p = 0 then ⟨"comes", none, csum D (t + 1)⟩ else ⟨"ahead", some ((p : Int) - 1, (t : Int) - 1), 0⟩
def bnds (D : Dy) (p : Nat) : Nat → List Bd
  | 0 => [⟨"begin", none, 0⟩]
  | t + 1 => if p = D.ks.length then [firstB D p t, ⟨"takes", some ((p : Int), (t : Int) - 1), D.ss.getD t 0⟩]
    else [firstB D p t, ⟨"takes", some ((p : Int), (t : Int) - 1), (kt D p).2.getD t 0⟩, ⟨"room", some ((p : Int) + 1, (t : Int)), (kt D p).1⟩]
def AllBd (H : Hp) (kvs : List (Key × V)) (bs : List Bd) : Prop := Paired (BdAt H) kvs bs
theorem AllBd.same {H H' : Hp} {kvs : List (Key × V)} {bs : List Bd} (h : AllBd H kvs bs) (s : Same H H') : AllBd H' kvs bs := by
  induction h with
  | nil => exact .nil
  | cons a _ ih => exact .cons (a.same s) ih
theorem AllBd.get {H : Hp} : ∀ {kvs : List (Key × V)} {bs : List Bd}, AllBd H kvs bs → ∀ {i : Nat} {kv : Key × V}, kvs[i]? = some kv → ∃ b, bs[i]? = some b ∧ BdAt H kv b
  | [], _, _, i, _, e => by simp at e
  | _ :: _, _, .cons a h, 0, _, e => by cases e; exact ⟨_, rfl, a⟩
  | _ :: _, _, .cons _ h, i + 1, _, e => AllBd.get h (i := i) e
theorem AllBd.len {H : Hp} {kvs : List (Key × V)} {bs : List Bd} (h : AllBd H kvs bs) : kvs.length = bs.length := Paired.length h
/-- a place and an hour as a key -/
def kk (p t : Nat) : List Key := [.inl (p : Int), .inl ((t : Int) - 1)]
theorem kk_inj {p t p' t' : Nat} (h : kk p t = kk p' t') : p = p' ∧ t = t' := by
  unfold kk at h
  injection h with h1 h2
  injection h2 with h3 h4
  injection h1 with h1
  injection h3 with h3
  omega
/-- what is told of places and hours -/
def Told (D : Dy) (kvs : List (List Key × V)) (d : Nat → Nat → Prop) : Prop := ∀ p t, d p t → valV kvs (kk p t) = some (.int (tk D t p))
theorem Told.put {D : Dy} {kvs : List (List Key × V)} {d d' : Nat → Nat → Prop} (h : Told D kvs d) (p t : Nat) (hd : ∀ p' t', d' p' t' → d p' t' ∨ (p' = p ∧ t' = t)) : Told D (putK kvs (kk p t) (.int (tk D t p))) d' := fun p' t' h' => by
  rw [valV_put]
  by_cases c : kk p' t' = kk p t
  · rw [if_pos c]
    obtain ⟨e1, e2⟩ := kk_inj c
    rw [e1, e2]
  · rw [if_neg c]
    rcases hd p' t' h' with g | ⟨e1, e2⟩
    · exact h p' t' g
    · exact absurd (by rw [e1, e2]) c
/-- what a bound comes to -/
def valB (D : Dy) (b : Bd) : Int := match b.lead with
  | none => b.more
  | some (p, h) => tk D (h + 1).toNat p.toNat + b.more
theorem min_mem {ns : List Int} {m a : Int} (h : m ∈ ns) (le : ∀ y ∈ ns, m ≤ y) (ha : a ∈ ns) (la : ∀ y ∈ ns, a ≤ y) : m = a := Int.le_antisymm (le a ha) (la m h)
/-- the least that the bounds come to is what has been taken -/
theorem bnds_min {D : Dy} {p t : Nat} (k1 : 1 ≤ D.ks.length) (hp : p ≤ D.ks.length) : tk D t p ∈ (bnds D p t).map (valB D) ∧ ∀ y ∈ (bnds D p t).map (valB D), tk D t p ≤ y := by
  cases t with
  | zero =>
    show (0 : Int) ∈ [(0 : Int)] ∧ ∀ y ∈ [(0 : Int)], 0 ≤ y
    exact ⟨List.mem_cons_self, fun y hy => by rw [List.mem_singleton.mp hy]; decide⟩
  | succ t =>
    have e1 : valB D (firstB D p t) = if p = 0 then csum D (t + 1) else tk D t (p - 1) := by
      unfold firstB
      by_cases c : p = 0
      · rw [if_pos c, if_pos c] <;> rfl
      · rw [if_neg c, if_neg c]
        show tk D ((t : Int) - 1 + 1).toNat ((p : Int) - 1).toNat + 0 = _
        rw [show ((t : Int) - 1 + 1).toNat = t by omega, show ((p : Int) - 1).toNat = p - 1 by omega, Int.add_zero]
    have e2 : ∀ m, valB D ⟨"takes", some ((p : Int), (t : Int) - 1), m⟩ = tk D t p + m := fun m => by
      show tk D ((t : Int) - 1 + 1).toNat ((p : Int)).toNat + m = _
      rw [show ((t : Int) - 1 + 1).toNat = t by omega, Int.toNat_natCast]
    have e3 : ∀ m, valB D ⟨"room", some ((p : Int) + 1, (t : Int)), m⟩ = tk D (t + 1) (p + 1) + m := fun m => by
      show tk D ((t : Int) + 1).toNat ((p : Int) + 1).toNat + m = _
      rw [show ((t : Int) + 1).toNat = t + 1 by omega, show ((p : Int) + 1).toNat = p + 1 by omega]
    by_cases c : p = D.ks.length
    · have eb : bnds D p (t + 1) = [firstB D p t, ⟨"takes", some ((p : Int), (t : Int) - 1), D.ss.getD t 0⟩] := if_pos c
      rw [eb, List.map_cons, List.map_cons, List.map_nil, e1, e2]
      have et := tk_last D t
      rw [← c] at et
      rw [et, if_neg (show ¬ p = 0 by omega)]
      refine ⟨?_, fun y hy => ?_⟩
      · simp only [List.mem_cons, List.not_mem_nil, or_false]
        omega
      · simp only [List.mem_cons, List.not_mem_nil, or_false] at hy
        omega
    · have eb : bnds D p (t + 1) = [firstB D p t, ⟨"takes", some ((p : Int), (t : Int) - 1), (kt D p).2.getD t 0⟩, ⟨"room", some ((p : Int) + 1, (t : Int)), (kt D p).1⟩] := if_neg c
      have et := tk_at (D := D) (t := t) (p := p) (by omega)
      rw [eb, List.map_cons, List.map_cons, List.map_cons, List.map_nil, e1, e2, e3]
      generalize (if p = 0 then csum D (t + 1) else tk D t (p - 1)) = fb at *
      refine ⟨?_, fun y hy => ?_⟩
      · simp only [List.mem_cons, List.not_mem_nil, or_false]
        omega
      · simp only [List.mem_cons, List.not_mem_nil, or_false] at hy
        omega
theorem same_frb {H0 H1 H2 : Hp} {b : Addr} (s : Same H0 H1) (n : H0 b = none) (f : Fr b H1 H2) : Same H0 H2 := fun c o e => f c o (ne_of_none e n) (s c o e)
/-- the lists of ints in a row, one upon another -/
def RowsAt (H : Hp) (rs : List Addr) (f : Nat → List Int) : Prop := ∀ (j : Nat) (r : Addr), rs[j]? = some r → H r = some (.lst ((f j).map V.int))
theorem leadV.frb {H H' : Hp} {b : Addr} {kb : List (Key × V)} {l : V} {o : Option (Int × Int)} (h : leadV H l o) (hb : H b = some (.dK kb)) (F : Fr b H H') : leadV H' l o := by
  cases o with
  | none => exact h
  | some y =>
    obtain ⟨q, e, h1⟩ := h
    exact ⟨q, e, F _ _ (ne_of h1 hb (by intro z; cases z)) h1⟩
theorem bnds_lead {D : Dy} {p t : Nat} {b : Bd} {p' h' : Int} (hp : p ≤ D.ks.length) (m : b ∈ bnds D p t) (e : b.lead = some (p', h')) : ∃ pn tn : Nat, p' = (pn : Int) ∧ h' = (tn : Int) - 1 ∧ pn ≤ D.ks.length ∧ (tn < t ∨ (tn = t ∧ p < pn)) := by
  cases t with
  | zero =>
    have e1 : b = ⟨"begin", none, 0⟩ := List.mem_singleton.mp m
    rw [e1] at e
    cases e
  | succ t =>
    have f1 : b = firstB D p t → ∃ pn tn : Nat, p' = (pn : Int) ∧ h' = (tn : Int) - 1 ∧ pn ≤ D.ks.length ∧ (tn < t + 1 ∨ (tn = t + 1 ∧ p < pn)) := fun z => by
      rw [z] at e
      unfold firstB at e
      by_cases c : p = 0
      · rw [if_pos c] at e
        cases e
      · rw [if_neg c] at e
        obtain ⟨rfl, rfl⟩ := Prod.mk.inj (Option.some.inj e)
        exact ⟨p - 1, t, by omega, rfl, by omega, .inl (by omega)⟩
    have f2 : ∀ x, b = ⟨"takes", some ((p : Int), (t : Int) - 1), x⟩ → ∃ pn tn : Nat, p' = (pn : Int) ∧ h' = (tn : Int) - 1 ∧ pn ≤ D.ks.length ∧ (tn < t + 1 ∨ (tn = t + 1 ∧ p < pn)) := fun x z => by
      rw [z] at e
      obtain ⟨rfl, rfl⟩ := Prod.mk.inj (Option.some.inj e)
      exact ⟨p, t, rfl, rfl, hp, .inl (by omega)⟩
    by_cases c : p = D.ks.length
    · rw [show bnds D p (t + 1) = [firstB D p t, ⟨"takes", some ((p : Int), (t : Int) - 1), D.ss.getD t 0⟩] from if_pos c] at m
      rcases List.mem_cons.mp m with z | z
      · exact f1 z
      · exact f2 _ (List.mem_singleton.mp z)
    · rw [show bnds D p (t + 1) = [firstB D p t, ⟨"takes", some ((p : Int), (t : Int) - 1), (kt D p).2.getD t 0⟩, ⟨"room", some ((p : Int) + 1, (t : Int)), (kt D p).1⟩] from if_neg c] at m
      rcases List.mem_cons.mp m with z | z
      · exact f1 z
      · rcases List.mem_cons.mp z with z | z
        · exact f2 _ z
        · rw [List.mem_singleton.mp z] at e
          obtain ⟨rfl, rfl⟩ := Prod.mk.inj (Option.some.inj e)
          exact ⟨p + 1, t + 1, by omega, by omega, by omega, .inr ⟨rfl, by omega⟩⟩
theorem bnds_len (D : Dy) (p t : Nat) : 0 < (bnds D p t).length := by
  cases t with
  | zero => exact Nat.zero_lt_succ _
  | succ t =>
    show 0 < (if p = D.ks.length then _ else _ : List Bd).length
    split <;> exact Nat.zero_lt_succ _
theorem bnds_len3 (D : Dy) (p t : Nat) : (bnds D p t).length ≤ 3 := by
  cases t with
  | zero => show 1 ≤ 3; decide
  | succ t =>
    show (if p = D.ks.length then _ else _ : List Bd).length ≤ 3
    split
    · show 2 ≤ 3
      decide
    · show 3 ≤ 3
      decide
/-- the first hour by which so many are struck -/
def FirstV (D : Dy) (m : Int) (v : V) : Prop := (∃ t : Nat, t < D.cs.length ∧ (∀ j, j < t → tk D (j + 1) D.ks.length < m) ∧ m ≤ tk D (t + 1) D.ks.length ∧ v = .int (t : Int)) ∨ ((∀ j, j < D.cs.length → tk D (j + 1) D.ks.length < m) ∧ v = .non)
/-- ladles that a day may have -/
def Ldl (ns : List Int) : Prop := ∀ z ∈ ns, 0 ≤ z ∧ z ≤ 1000000
structure DyNn (D : Dy) : Prop where
  cs : Ldl D.cs
  ks : ∀ k ∈ D.ks, 1 ≤ k.1 ∧ k.1 ≤ 1000000 ∧ Ldl k.2
  ss : Ldl D.ss
/-- kettles beside their lists -/
def KtF (K : PySem.W.Frag) (H : Hp) (p f : Addr) (a : Addr) (k : Int × List Int) : Prop := ∃ t, SqT K H a [.int k.1, .ref t] ∧ H t = some (.lst (k.2.map V.int)) ∧ t ≠ p ∧ t ≠ f
def PotsF (K : PySem.W.Frag) (H : Hp) (p f : Addr) (as : List Addr) (ks : List (Int × List Int)) : Prop := Paired (KtF K H p f) as ks
theorem KtF.same {K : PySem.W.Frag} {H H' : Hp} {p f a : Addr} {k : Int × List Int} (h : KtF K H p f a k) (s : Same H H') : KtF K H' p f a k := by
  obtain ⟨t, h1, h2, h3, h4⟩ := h
  exact ⟨t, Same.tup s h1, s _ _ h2, h3, h4⟩
theorem KtF.fr {K : PySem.W.Frag} {H H' : Hp} {p f a : Addr} {k : Int × List Int} {n : Nat} (h : KtF K H p f a k) (B : BoxAt H p n) (F : Fr p H H') : KtF K H' p f a k := by
  obtain ⟨t, h1, h2, h3, h4⟩ := h
  exact ⟨t, sqT_fr h1 B F, F _ _ h3 h2, h3, h4⟩
theorem KtF.put {K : PySem.W.Frag} {H : Hp} {p f a : Addr} {k : Int × List Int} {xs ys : List V} (h : KtF K H p f a k) (hf : H f = some (.lst xs)) : KtF K (upd H f (.lst ys)) p f a k := by
  obtain ⟨t, h1, h2, h3, h4⟩ := h
  exact ⟨t, sqT_frL h1 hf fr_upd, by rw [upd_ne h4]; exact h2, h3, h4⟩
theorem KtF.to {K : PySem.W.Frag} {H : Hp} {p f g a : Addr} {k : Int × List Int} (h : KtF K H p f a k) (n : H g = none) : KtF K H p g a k := by
  obtain ⟨t, h1, h2, h3, h4⟩ := h
  exact ⟨t, h1, h2, h3, ne_of_none h2 n⟩
theorem PotsF.map {K : PySem.W.Frag} {H H' : Hp} {p f g : Addr} {as : List Addr} {ks : List (Int × List Int)} (h : PotsF K H p f as ks) (m : ∀ a k, KtF K H p f a k → KtF K H' p g a k) : PotsF K H' p g as ks := by
  induction h with
  | nil => exact .nil
  | cons a _ ih => exact .cons (m _ _ a) ih
theorem PotsF.snoc {K : PySem.W.Frag} {H : Hp} {p f : Addr} {as : List Addr} {ks : List (Int × List Int)} {a : Addr} {k : Int × List Int} (h : PotsF K H p f as ks) (ha : KtF K H p f a k) : PotsF K H p f (as ++ [a]) (ks ++ [k]) := by
  induction h with
  | nil => exact .cons ha .nil
  | cons b _ ih => exact .cons b ih
theorem PotsF.get {K : PySem.W.Frag} {H : Hp} {p f : Addr} : ∀ {as : List Addr} {ks : List (Int × List Int)}, PotsF K H p f as ks → ∀ {j : Nat} {a : Addr}, as[j]? = some a → ∃ k, ks[j]? = some k ∧ KtF K H p f a k
  | [], _, _, j, _, e => by simp at e
  | _ :: _, _, .cons h _, 0, _, e => by cases e; exact ⟨_, rfl, h⟩
  | _ :: _, _, .cons _ h, j + 1, _, e => PotsF.get h (j := j) e
theorem PotsF.at_ {K : PySem.W.Frag} {H : Hp} {p f : Addr} {as : List Addr} {ks : List (Int × List Int)} (h : PotsF K H p f as ks) : ∀ (j : Nat) (a : Addr) (k : Int × List Int), as[j]? = some a → ks[j]? = some k → KtAt K H p a k := fun j a k e1 e2 => by
  obtain ⟨k', e3, t, h1, h2, h3, _⟩ := h.get e1
  rw [e2] at e3
  obtain rfl := Option.some.inj e3
  exact ⟨t, true, h1, SqL.of h2, h3⟩
theorem rep_ints (k : Nat) (z : Int) : (List.replicate ((k : Int)).toNat [V.int z]).flatten = (List.replicate k z).map V.int := by
  rw [Int.toNat_natCast, List.map_replicate]
  induction k with
  | zero => rfl
  | succ k ih => rw [List.replicate_succ, List.flatten_cons, ih, List.replicate_succ] <;> rfl
/-! tuple(x) of a list or a tuple -/
def rTupJ (K : PySem.W.Frag) : List V → Hp → VK → Prop := fun xs H Q => ∃ p ys, xs = [.ref p] ∧ ((SqL K H p ys ∧ ∀ l H', Same H H' → H l = none → H' l = some (.tup ys) → Q (.ref l) H') ∨ (SqT K H p ys ∧ Q (.ref p) H))
theorem tupJ {X : Cx} {K : PySem.W.Frag} (h : X.K = K) : CallR X (.type "tuple") (rTupJ K) := fun pins s σ H xs us Q I r ⟨p, ys, e, q⟩ =>
  call_tuple_of pins s σ H xs us Q I r ⟨p, ys, e, h ▸ q.imp (fun z => ⟨z.1, fun l hl => z.2 l _ (same_new hl) hl upd_same⟩) id⟩
/-! rows of numbers as data -/
theorem eqv_nums : ∀ (a b : List Int), PyData.eqvAll (a.map PyData.int) (b.map PyData.int) = decide (a = b)
  | [], [] => rfl
  | [], _ :: _ => rfl
  | _ :: _, [] => rfl
  | x :: a, y :: b => by
    show (PyData.eqv (.int x) (.int y) && PyData.eqvAll (a.map PyData.int) (b.map PyData.int)) = _
    rw [eqv_nums a b]
    show (decide (x = y) && _) = _
    by_cases c : x = y
    · subst c
      by_cases d : a = b
      · subst d
        simp
      · simp [d]
    · simp [c]
def din (ns : List Int) : PyData := .list (ns.map PyData.int)
theorem din_eqv (a b : List Int) : PyData.eqv (din a) (din b) = decide (a = b) := eqv_nums a b
theorem nums_dps {K : PySem.W.Frag} {H : Hp} : ∀ (ns : List Int), DpAll K H (ns.map V.int) (ns.map PyData.int)
  | [] => .nil
  | _ :: r => .cons (.int _) (nums_dps r)
theorem din_at {K : PySem.W.Frag} {H : Hp} {a : Addr} {ns : List Int} (h : H a = some (.lst (ns.map V.int))) : Dp K H (.ref a) (din ns) := .lst (SqL.of h) (nums_dps ns)
theorem nums_flat : ∀ (ns : List Int), PyData.canLayAll0 (ns.map PyData.int) = true ∧ PyData.depthAll (ns.map PyData.int) = 0
  | [] => ⟨rfl, rfl⟩
  | z :: r => by
    obtain ⟨h1, h2⟩ := nums_flat r
    refine ⟨?_, ?_⟩
    · show (PyData.canLay0 (.int z) && PyData.canLayAll0 (r.map PyData.int)) = true
      rw [h1] <;> rfl
    · show max (PyData.depth (.int z)) (PyData.depthAll (r.map PyData.int)) = 0
      rw [h2] <;> rfl
theorem din_shaped (ns : List Int) : SeqAt.shaped (din ns) = true := by
  obtain ⟨h1, h2⟩ := nums_flat ns
  show (PyData.canLayAll0 (ns.map PyData.int) && decide (PyData.depthAll (ns.map PyData.int) + 1 ≤ 64)) = true
  rw [h1, h2] <;> rfl
/-! the hours by which so many are struck -/
theorem filter_head {P : Nat → Bool} : ∀ (n t : Nat), t < n → P t = true → (∀ j, j < t → P j = false) → ∃ r, (List.range n).filter P = t :: r := fun n t lt pt no => by
  induction n with
  | zero => omega
  | succ n ih =>
    rw [List.range_succ, List.filter_append]
    by_cases c : t < n
    · obtain ⟨r, e⟩ := ih c
      rw [e]
      exact ⟨_, rfl⟩
    · have e : t = n := by omega
      subst e
      have e0 : (List.range t).filter P = [] := List.filter_eq_nil_iff.mpr fun j hj => by
        rw [no j (List.mem_range.mp hj)]
        exact Bool.false_ne_true
      rw [e0, List.nil_append, List.filter_cons, if_pos pt]
      exact ⟨_, rfl⟩
def hoursBy (D : Dy) (m : Int) : List Nat := (List.range D.cs.length).filter fun t => decide (m ≤ tk D (t + 1) D.ks.length)
theorem FirstV.hours {D : Dy} {m : Int} {v : V} (h : FirstV D m v) : (hoursBy D m = [] ∧ v = .non) ∨ ∃ t r, hoursBy D m = t :: r ∧ v = .int ((t : Nat) : Int) := by
  rcases h with ⟨t, lt, below, ge, rfl⟩ | ⟨below, rfl⟩
  · obtain ⟨r, e⟩ := filter_head (P := fun t => decide (m ≤ tk D (t + 1) D.ks.length)) D.cs.length t lt (decide_eq_true ge) fun j hj => decide_eq_false (by have := below j hj; omega)
    exact .inr ⟨t, r, e, rfl⟩
  · refine .inl ⟨List.filter_eq_nil_iff.mpr fun j hj => ?_, rfl⟩
    have := below j (List.mem_range.mp hj)
    rw [decide_eq_false (by omega)]
    exact Bool.false_ne_true
/-- what has been taken is neither below nought nor great -/
theorem csum_nn {D : Dy} (N : DyNn D) : ∀ t, 0 ≤ csum D t := fun t => by
  unfold csum
  have all : ∀ l : List Int, (∀ z ∈ l, 0 ≤ z) → 0 ≤ l.sum := fun l => by
    induction l with
    | nil => exact fun _ => Int.le_refl _
    | cons a r ih =>
      intro h
      have h1 := h a List.mem_cons_self
      have h2 := ih fun z hz => h z (List.mem_cons_of_mem _ hz)
      rw [List.sum_cons]
      omega
  exact all _ fun z hz => (N.cs z (List.mem_of_mem_take hz)).1
theorem ldl_at {ns : List Int} (h : Ldl ns) (t : Nat) : 0 ≤ ns.getD t 0 ∧ ns.getD t 0 ≤ 1000000 := by
  rw [List.getD_eq_getElem?_getD]
  cases e : ns[t]? with
  | none => exact ⟨by decide, by decide⟩
  | some z => exact h z (List.mem_of_getElem? e)
theorem kt_nn {D : Dy} (N : DyNn D) (p : Nat) : 0 ≤ (kt D p).1 ∧ Ldl (kt D p).2 := by
  unfold kt
  rw [List.getD_eq_getElem?_getD]
  cases e : D.ks[p]? with
  | none => exact ⟨by decide, fun z hz => absurd hz List.not_mem_nil⟩
  | some k =>
    have h := N.ks k (List.mem_of_getElem? e)
    exact ⟨by show 0 ≤ k.1; omega, h.2.2⟩
theorem tk_nn {D : Dy} (N : DyNn D) : ∀ t q p, p + q = D.ks.length → 0 ≤ tk D t p ∧ tk D t p ≤ 1000000 * t := fun t => by
  induction t with
  | zero =>
    intro q p _
    rw [tk_zero]
    omega
  | succ t ih =>
    intro q
    induction q with
    | zero =>
      intro p hp
      have e : p = D.ks.length := by omega
      subst e
      rw [tk_last]
      have h1 := ih 1 (D.ks.length - 1)
      have h0 := ih 0 D.ks.length rfl
      have s := ldl_at N.ss t
      by_cases c : D.ks.length = 0
      · rw [c] at h0 ⊢
        have e : tk D t (0 - 1) = tk D t 0 := rfl
        omega
      · have := h1 (by omega)
        omega
    | succ q ihq =>
      intro p hp
      rw [tk_at (by omega)]
      have h0 := ih (q + 1) p hp
      have h1 := ihq (p + 1) (by omega)
      have kn := kt_nn N p
      have s := ldl_at kn.2 t
      have c0 := csum_nn N (t + 1)
      by_cases c : p = 0
      · rw [if_pos c]
        omega
      · rw [if_neg c]
        have h2 := ih (q + 2) (p - 1) (by omega)
        omega
/-- a part of a row of numbers -/
theorem cut_nums (ns : List Int) (lo hi : Option Int) : ∃ ms : List Int, cutV (ns.map V.int) lo hi = ms.map V.int ∧ (∀ z ∈ ms, z ∈ ns) ∧ ms.length ≤ ns.length := by
  unfold cutV
  refine ⟨(ns.drop _).take _, by rw [List.map_take, List.map_drop], fun z hz => List.mem_of_mem_drop (List.mem_of_mem_take hz), ?_⟩
  rw [List.length_take, List.length_drop]
  omega
theorem rg_nums (a b : Int) : ∃ ms : List Int, rgV a b = ms.map V.int ∧ ms.length = (b - a).toNat := by
  refine ⟨(List.range (b - a).toNat).map fun i => a + (i : Nat), ?_, by rw [List.length_map, List.length_range]⟩
  unfold rgV
  rw [List.map_map] <;> rfl
/-- a day of tuples stands beside a list that is written -/
theorem DayAt.frT {K : PySem.W.Frag} {H H' : Hp} {p a q : Addr} {c k s : Addr} {as : List Addr} {D : Dy} {xs : List V} (h : DayAt K H p a ⟨c, k, s, false, false, false, as⟩ D) (F : Fr q H H') (hq : H q = some (.lst xs)) (tt : ∀ (j : Nat) (b : Addr) (k : Int × List Int), as[j]? = some b → D.ks[j]? = some k → ∃ t, SqT K H b [.int k.1, .ref t] ∧ SqT K H t (k.2.map V.int) ∧ t ≠ p) : DayAt K H' p a ⟨c, k, s, false, false, false, as⟩ D :=
  ⟨sqT_frL h.at_ hq F, ⟨sqT_frL h.cs.1 hq F, h.cs.2⟩, sqT_frL h.ks hq F, h.kp, ⟨sqT_frL h.ss.1 hq F, h.ss.2⟩, h.len, fun j b k e1 e2 => by
    obtain ⟨t, a1, a2, a3⟩ := tt j b k e1 e2
    exact ⟨t, false, sqT_frL a1 hq F, sqT_frL a2 hq F, a3⟩⟩
theorem same_new_fr {H0 H1 H2 : Hp} {p : Addr} (s : Same H0 H1) (n : H0 p = none) (f : Fr p H1 H2) : Same H0 H2 := fun c o e => f c o (ne_of_none e n) (s c o e)
end KR
/-! ### data of tuples, texts, numbers; repr of any of it -/
namespace KR
open PySem PySem.Spec PyProof.Rows L2
inductive Dg (K : PySem.W.Frag) (H : Hp) : Nat → V → PyData → Prop
  | non (n : Nat) : Dg K H n .non .none
  | int (n : Nat) (i : Int) : Dg K H n (.int i) (.int i)
  | str (n : Nat) (x : Str) : Dg K H n (.str x) (.str x)
  | tup {n : Nat} {a : Addr} {xs : List V} {ds : List PyData} : SqT K H a xs → xs.length = ds.length → (∀ (i : Nat) (x : V) (d : PyData), xs[i]? = some x → ds[i]? = some d → Dg K H n x d) → Dg K H (n + 1) (.ref a) (.tuple ds)
theorem Dg.on {K : PySem.W.Frag} {H H' : Hp} (k : ∀ a xs, SqT K H a xs → SqT K H' a xs) : ∀ {n : Nat} {v : V} {d : PyData}, Dg K H n v d → Dg K H' n v d := by
  intro n v d h
  induction h with
  | non n => exact .non n
  | int n i => exact .int n i
  | str n x => exact .str n x
  | tup h1 h2 _ ih => exact .tup (k _ _ h1) h2 ih
theorem Dg.same {K : PySem.W.Frag} {H H' : Hp} (s : Same H H') {n : Nat} {v : V} {d : PyData} (h : Dg K H n v d) : Dg K H' n v d := h.on fun _ _ q => Same.tup s q
theorem Dg.fr {K : PySem.W.Frag} {H H' : Hp} {p : Addr} {m n : Nat} {v : V} {d : PyData} (h : Dg K H n v d) (B : BoxAt H p m) (f : Fr p H H') : Dg K H' n v d := h.on fun _ _ q => sqT_fr q B f
theorem dps_of {K : PySem.W.Frag} {H : Hp} : ∀ {xs : List V} {ds : List PyData}, xs.length = ds.length → (∀ (i : Nat) (x : V) (d : PyData), xs[i]? = some x → ds[i]? = some d → Dp K H x d) → DpAll K H xs ds
  | [], [], _, _ => .nil
  | x :: xs, d :: ds, hl, h => .cons (h 0 x d rfl rfl) (dps_of (by rw [List.length_cons, List.length_cons] at hl; omega) fun i y e a b => h (i + 1) y e a b)
theorem Dg.dp {K : PySem.W.Frag} {H : Hp} {n : Nat} {v : V} {d : PyData} (h : Dg K H n v d) : Dp K H v d := by
  induction h with
  | non n => exact .non
  | int n i => exact .int i
  | str n x => exact .str x
  | tup h1 h2 _ ih => exact .tup h1 (dps_of h2 ih)
def DgAll (K : PySem.W.Frag) (H : Hp) (n : Nat) (xs : List V) (ds : List PyData) : Prop := xs.length = ds.length ∧ ∀ (i : Nat) (x : V) (d : PyData), xs[i]? = some x → ds[i]? = some d → Dg K H n x d
theorem DgAll.nil {K : PySem.W.Frag} {H : Hp} {n : Nat} : DgAll K H n [] [] := ⟨rfl, fun i x d h => by simp at h⟩
theorem DgAll.cons {K : PySem.W.Frag} {H : Hp} {n : Nat} {x : V} {d : PyData} {xs : List V} {ds : List PyData} (h : Dg K H n x d) (t : DgAll K H n xs ds) : DgAll K H n (x :: xs) (d :: ds) :=
  ⟨by rw [List.length_cons, List.length_cons, t.1], fun i u v hu hv => match i, hu, hv with
    | 0, hu, hv => by cases hu; cases hv; exact h
    | i + 1, hu, hv => t.2 i u v hu hv⟩
theorem DgAll.tup {K : PySem.W.Frag} {H : Hp} {n : Nat} {xs : List V} {ds : List PyData} {a : Addr} (t : DgAll K H n xs ds) (h : SqT K H a xs) : Dg K H (n + 1) (.ref a) (.tuple ds) := .tup h t.1 t.2
/-- data that can be shown -/
structure Fine (k w : Nat) (d : PyData) : Prop where
  lay : PyData.canLay0 d = true
  dep : PyData.depth d ≤ k
  wt : PyData.weight d ≤ w
  ish : PyData.intsShort 13 d = true
  sh : PyData.showable d = true
  nd : PyData.hasDict d = false
structure FineAll (k w : Nat) (ds : List PyData) : Prop where
  lay : PyData.canLayAll0 ds = true
  dep : PyData.depthAll ds ≤ k
  wt : PyData.weightAll ds ≤ w
  ish : PyData.intsShortAll 13 ds = true
  sh : PyData.showableAll ds = true
  nd : PyData.hasDictAll ds = false
theorem FineAll.nil (k : Nat) : FineAll k 0 [] := ⟨rfl, Nat.zero_le _, Nat.le_refl _, rfl, rfl, rfl⟩
theorem FineAll.cons {k a b : Nat} {d : PyData} {ds : List PyData} (h : Fine k a d) (t : FineAll k b ds) : FineAll k (a + 1 + b) (d :: ds) := by
  refine ⟨?_, ?_, ?_, ?_, ?_, ?_⟩
  · show (PyData.canLay0 d && PyData.canLayAll0 ds) = true
    rw [h.lay, t.lay] <;> rfl
  · show max (PyData.depth d) (PyData.depthAll ds) ≤ k
    have := h.dep
    have := t.dep
    omega
  · show PyData.weight d + 1 + PyData.weightAll ds ≤ a + 1 + b
    have := h.wt
    have := t.wt
    omega
  · show (PyData.intsShort 13 d && PyData.intsShortAll 13 ds) = true
    rw [h.ish, t.ish] <;> rfl
  · show (PyData.showable d && PyData.showableAll ds) = true
    rw [h.sh, t.sh] <;> rfl
  · show (PyData.hasDict d || PyData.hasDictAll ds) = false
    rw [h.nd, t.nd] <;> rfl
theorem FineAll.tup {k w : Nat} {ds : List PyData} (t : FineAll k w ds) : Fine (k + 1) w (.tuple ds) := ⟨t.lay, Nat.succ_le_succ t.dep, t.wt, t.ish, t.sh, t.nd⟩
theorem Fine.up {k k' w w' : Nat} {d : PyData} (h : Fine k w d) (h1 : k ≤ k') (h2 : w ≤ w') : Fine k' w' d := ⟨h.lay, Nat.le_trans h.dep h1, Nat.le_trans h.wt h2, h.ish, h.sh, h.nd⟩
theorem Fine.non (k : Nat) : Fine k 0 .none := ⟨rfl, Nat.zero_le _, Nat.le_refl _, rfl, rfl, rfl⟩
theorem nat_short : ∀ n < 1001, (PyData.shown (.int ((n : Nat) : Int))).length ≤ 13 ∧ PyData.weight (.int ((n : Nat) : Int)) ≤ 12 ∧ ((n : Nat) : Int).natAbs.log2 < 1920 := by decide +kernel
theorem Fine.int {i : Int} (k : Nat) (h0 : 0 ≤ i) (h1 : i ≤ 1000) : Fine k 12 (.int i) := by
  obtain ⟨n, rfl⟩ : ∃ n : Nat, i = (n : Int) := ⟨i.toNat, by omega⟩
  obtain ⟨e1, e2, e3⟩ := nat_short n (by omega)
  exact ⟨rfl, Nat.zero_le _, e2, decide_eq_true e1, decide_eq_true e3, rfl⟩
theorem Fine.minus (k : Nat) : Fine k 12 (.int (-1)) := ⟨rfl, Nat.zero_le _, by decide +kernel, by decide +kernel, by decide +kernel, rfl⟩
theorem Fine.str {x : Str} {n : Nat} (k : Nat) (h : x.length ≤ n) (c : ∀ c ∈ TL.tl x, c < 128) : Fine k n (.str x) := by
  refine ⟨?_, Nat.zero_le _, h, rfl, rfl, rfl⟩
  show PyData.strOk x = true
  unfold PyData.strOk
  rw [← Array.all_toList, List.all_eq_true]
  exact fun d hd => decide_eq_true (Nat.lt_trans (c d hd) (by decide))
theorem Fine.line {k w : Nat} {d : PyData} (h : Fine k w d) (hk : k ≤ 60) (hw : w ≤ 100000) : d.shown.length ≤ sizeLine := by
  have dep := h.dep
  have wt := h.wt
  have l : PyData.layable0 d = true := by
    show (PyData.canLay0 d && decide (PyData.depth d ≤ 64) && decide (PyData.weight d ≤ 2 ^ 20)) = true
    rw [h.lay, decide_eq_true (by omega), decide_eq_true (show PyData.weight d ≤ 2 ^ 20 by omega)] <;> rfl
  exact Nat.le_trans (shown_le13 l h.ish) (by decide)
/-- repr of any such data -/
def rReprV (K : PySem.W.Frag) : List V → Hp → VK → Prop := fun xs H Q => ∃ (v : V) (d : PyData) (k w : Nat), xs = [v] ∧ Dp K H v d ∧ Fine k w d ∧ k ≤ 60 ∧ w ≤ 100000 ∧ Q (.str d.shown) H
theorem cr_reprV {X : Cx} {K : PySem.W.Frag} (hK : X.K = K) (hg : X.A.guards = some []) (hu : X.A.units + 64 < cLine) : CallR X (.builtin "repr") (rReprV K) := by
  subst hK
  intro pn s σ H xs us Q I r want
  obtain ⟨v, d, k, w, rfl, dp, f, hk, hw, q⟩ := want
  have len := f.line hk hw
  have dep := f.dep
  cases r with
  | cons r1 r2 =>
    cases r2
    cases dp with
    | non =>
      cases r1
      exact PySem.P.repr_of_none ⟨.str _, H, I.tok _, ⟨_, rfl⟩, q⟩
    | bl b =>
      cases r1
      exact PySem.P.repr_of_bool ⟨.str _, H, I.tok _, ⟨_, rfl⟩, q⟩
    | int i =>
      obtain ⟨t, rfl⟩ := r1
      exact PySem.P.repr_of_int (of_decide_eq_true f.sh) ⟨.str _, H, I.tok _, ⟨_, rfl⟩, q⟩
    | str x =>
      obtain ⟨t, rfl⟩ := r1
      exact PySem.P.repr_of_str ⟨.str _, H, I.tok _, ⟨_, rfl⟩, q⟩ len
    | lst a1 a2 =>
      obtain ⟨as, rd⟩ := Dp.reads I _ _ _ (Dp.lst a1 a2) r1
      cases r1
      exact repr_of_reads' rd f.sh (PyData.noDict_hsm f.nd) hg (by omega) (fun _ _ e => e) (fun h' u tk hkk => ⟨.str _, H, I.kept (fun b o e => hkk b o e), ⟨_, rfl⟩, q⟩) len
    | tup a1 a2 =>
      obtain ⟨as, rd⟩ := Dp.reads I _ _ _ (Dp.tup a1 a2) r1
      cases r1
      exact repr_of_reads' rd f.sh (PyData.noDict_hsm f.nd) hg (by omega) (fun _ _ e => e) (fun h' u tk hkk => ⟨.str _, H, I.kept (fun b o e => hkk b o e), ⟨_, rfl⟩, q⟩) len
end KR
/-! ### plans of a day: a range that is kept; data of days -/
namespace KR
open PySem PySem.Spec PyProof.Rows L2
/-- a comprehension in a comprehension -/
theorem blkOk_in {N : List Str} {outer scope sc : Scope} {own : List (Str × Nat)} {cl : List (Str × Addr)} {C : Addr} {env : Env} (hs : env.scope = sc) (h : blkC N (relS outer sc) scope own = true) : BlkOk N (compEnvC outer cl C env).scope scope own := by
  subst hs
  exact blkOk_by h
/-- range(n) as a value -/
def tRngV (ta : TE) : TE := fun σ H Q => ta σ H fun x H1 => ∃ j : Int, x = .int j ∧ ∀ a, H1 a = none → Q (.ref a) (upd H1 a (.rng 0 j))
theorem pe_rngV {X : Cx} {a : Expr} {ta : TE} {p pos : Pos} (hg : Gl X "range") (hm : X.mg "range" = none) (ha : PE X a ta) (na : starEach [a] X.env = (false, eval a X.env) :: starEach [] X.env := by rfl) : PE X (.Call (.Name "range" p) [a] [] pos) (tRngV ta) := by
  refine ⟨fun pins s σ H Q I h => ?_⟩
  refine Call_ (ld_blt I hg hm boot_range (PyProof.Rows.callWith_type1 (one_arg ha I h (fun v s2 x H2 I2 r q => ?_) na) na))
  obtain ⟨n, rfl, q⟩ := q
  obtain ⟨t, rfl⟩ := r
  exact call_range_1 ⟨.ref s2.heap.objs.size, upd H2 s2.heap.objs.size (.rng 0 n), I2.laid (fun b u e => Heap.get?_push_of_some _ e) (Nat.le_refl _) ⟨_, _, _, Heap.get?_push_size _ rfl⟩, rfl, q _ (I2.hok.fresh (Nat.le_refl _))⟩
/-- a kept range, walked -/
def iRngV (te : TE) : TI := fun σ H R => te σ H fun x H1 => ∃ (a : Addr) (lo hi : Int), x = .ref a ∧ H1 a = some (.rng lo hi) ∧ (-(2 ^ 62) ≤ lo ∧ lo < 2 ^ 62 ∧ -(2 ^ 62) ≤ hi ∧ hi < 2 ^ 62) ∧ R (Itr lo (hi - lo).toNat) H1
theorem pi_rngV {X : Cx} {tg e : Expr} {te : TE} (he : PE X e te) : PI X tg e (iRngV te) := by
  refine ⟨fun pins s σ H R I h => ?_⟩
  refine thn (he.run pins s σ H _ I h) fun v s1 ⟨x, H1, I1, r1, q1⟩ => ?_
  obtain ⟨a, lo, hi, e, ha, ⟨h1, h2, h3, h4⟩, q⟩ := q1
  subst e
  cases r1
  obtain ⟨t, u, w, g⟩ := I1.hok a _ ha
  refine wpAny_pyIter_range (show IsRange s1.heap a lo hi 1 t u w from g) (small_one h1 h2 h3 h4) ?_
  refine pi_one (tk := s1.toks) I1 _ (turn_range _ lo (hi - lo).toNat) ?_ q
  have e1 : lo + ((0 : Nat) : Int) * 1 = lo := by simp
  have e2 : (((hi - lo).toNat : Nat) : Int) - ((0 : Nat) : Int) = Builtin.Range.rangeSize lo hi 1 := by rw [rangeSize_one]; split <;> omega
  show IsRangeIter _ _ (lo + ((0 : Nat) : Int) * 1) ((((hi - lo).toNat : Nat) : Int) - ((0 : Nat) : Int)) 1
  rw [e1, e2]
  exact Heap.get?_push_size _ rfl
/-! days as data that can be shown -/
theorem Fine.ldl {i : Int} (k : Nat) (h0 : 0 ≤ i) (h1 : i ≤ 1000000) : Fine k 20 (.int i) := by
  have n : i.natAbs < 2 ^ 20 := by omega
  have l : i.natAbs ≠ 0 → i.natAbs.log2 < 20 := fun z => (Nat.log2_lt z).mpr n
  refine ⟨rfl, Nat.zero_le _, ?_, decide_eq_true (PyData.shown_int_le (by omega)), decide_eq_true ?_, rfl⟩
  · show (if i == 0 then 0 else i.natAbs.log2 + 1) ≤ 20
    by_cases c : i = 0
    · rw [c]
      decide
    · rw [if_neg (by simpa using c)]
      have := l (by omega)
      omega
  · by_cases c : i.natAbs = 0
    · rw [c]
      decide
    · have := l c
      omega
theorem FineAll.ldl (k : Nat) : ∀ {ns : List Int}, Ldl ns → FineAll k (21 * ns.length) (ns.map PyData.int)
  | [], _ => FineAll.nil k
  | z :: r, h => by
    have a := Fine.ldl k (h z List.mem_cons_self).1 (h z List.mem_cons_self).2
    have b := FineAll.cons a (FineAll.ldl k (ns := r) fun y hy => h y (List.mem_cons_of_mem _ hy))
    have e : 20 + 1 + 21 * r.length = 21 * (z :: r).length := by rw [List.length_cons]; omega
    rw [e] at b
    exact b
theorem FineAll.lst {k w : Nat} {ds : List PyData} (t : FineAll k w ds) : Fine (k + 1) w (.list ds) := ⟨t.lay, Nat.succ_le_succ t.dep, t.wt, t.ish, t.sh, t.nd⟩
theorem ldl_dp {K : PySem.W.Frag} {H : Hp} {p t : Addr} {ns : List Int} {b : Bool} (h : IsB' K H p t ns b) (L : Ldl ns) (l : ns.length ≤ 48) : ∃ d, Fine 1 1008 d ∧ ∀ H', Same H H' → Dp K H' (.ref t) d := by
  have f := FineAll.ldl 0 L
  cases b with
  | true => exact ⟨.list (ns.map PyData.int), (FineAll.lst f).up (Nat.le_refl _) (by omega), fun H' s => .lst (h.same s).1 (nums_dps ns)⟩
  | false => exact ⟨.tuple (ns.map PyData.int), (FineAll.tup f).up (Nat.le_refl _) (by omega), fun H' s => .tup (h.same s).1 (nums_dps ns)⟩
theorem kts_dp {K : PySem.W.Frag} {H : Hp} {p : Addr} : ∀ (as : List Addr) (ks : List (Int × List Int)), as.length = ks.length → (∀ (j : Nat) (a : Addr) (k : Int × List Int), as[j]? = some a → ks[j]? = some k → KtAt K H p a k) → (∀ k ∈ ks, 0 ≤ k.1 ∧ k.1 ≤ 1000000 ∧ Ldl k.2 ∧ k.2.length ≤ 48) → ∃ ds, FineAll 2 (1100 * ks.length) ds ∧ ∀ H', Same H H' → DpAll K H' (as.map V.ref) ds
  | [], [], _, _, _ => ⟨[], FineAll.nil 2, fun _ _ => .nil⟩
  | a :: as, k :: ks, l, at_, ok => by
    obtain ⟨ds, f, dp⟩ := kts_dp as ks (by rw [List.length_cons, List.length_cons] at l; omega) (fun j a k e1 e2 => at_ (j + 1) a k e1 e2) fun k hk => ok k (List.mem_cons_of_mem _ hk)
    obtain ⟨t, b, h1, h2⟩ := (at_ 0 a k rfl rfl).ex
    obtain ⟨o1, o2, o3, o4⟩ := ok k List.mem_cons_self
    obtain ⟨dt, ft, dpt⟩ := ldl_dp h2 o3 o4
    have fk := FineAll.tup (FineAll.cons (Fine.ldl 1 o1 o2) (FineAll.cons ft (FineAll.nil 1)))
    have fa := FineAll.cons (fk.up (w' := 1099) (Nat.le_refl _) (by omega)) f
    refine ⟨.tuple [.int k.1, dt] :: ds, ?_, fun H' s => .cons (.tup (Same.tup s h1) (.cons (.int _) (.cons (dpt H' s) .nil))) (dp H' s)⟩
    have e : 1099 + 1 + 1100 * ks.length = 1100 * (k :: ks).length := by rw [List.length_cons]; omega
    rw [e] at fa
    exact fa
theorem DayAt.shows {K : PySem.W.Frag} {H : Hp} {p a : Addr} {x : DyP} {D : Dy} (h : DayAt K H p a x D) (O : DyOk D) (N : DyNn D) : ∃ d, Fine 4 20000 d ∧ ∀ H', Same H H' → Dp K H' (.ref a) d := by
  have h2 := O.h2
  have k2 := O.k2
  obtain ⟨dc, fc, dpc⟩ := ldl_dp h.cs N.cs h2
  obtain ⟨dss, fs, dps⟩ := ldl_dp h.ss N.ss (by rw [O.sl]; exact h2)
  obtain ⟨dk, fk, dpk⟩ := kts_dp x.as D.ks h.len h.kt fun k hk => ⟨by have := (N.ks k hk).1; omega, (N.ks k hk).2.1, (N.ks k hk).2.2, by rw [O.ts k hk]; exact h2⟩
  have mid : ∃ d2, Fine 3 (1100 * D.ks.length) d2 ∧ PyData.depth d2 ≤ 3 ∧ ∀ H', Same H H' → Dp K H' (.ref x.k) d2 := by
    have hk := h.ks
    cases e : x.pk with
    | true =>
      rw [e] at hk
      exact ⟨.list dk, FineAll.lst fk, (FineAll.lst fk).dep, fun H' s => .lst (Same.seq s hk) (dpk H' s)⟩
    | false =>
      rw [e] at hk
      exact ⟨.tuple dk, FineAll.tup fk, (FineAll.tup fk).dep, fun H' s => .tup (Same.tup s hk) (dpk H' s)⟩
  obtain ⟨d2, f2, _, dp2⟩ := mid
  refine ⟨.tuple [dc, d2, dss], ?_, fun H' s => .tup (Same.tup s h.at_) (.cons (dpc H' s) (.cons (dp2 H' s) (.cons (dps H' s) .nil)))⟩
  have f := FineAll.tup (FineAll.cons (fc.up (k' := 3) (by decide) (Nat.le_refl _)) (FineAll.cons f2 (FineAll.cons (fs.up (k' := 3) (by decide) (Nat.le_refl _)) (FineAll.nil 3))))
  exact f.up (Nat.le_refl _) (by omega)
/-- a plan as data -/
def planD (D : Dy) : PyData := .list ((List.range (D.ks.length + 1)).map fun j => din (rowI D j))
theorem nums_dk {K : PySem.W.Frag} {H : Hp} {r : Addr} {ns : List Int} (n : Nat) (h : H r = some (.lst (ns.map V.int))) (l : ns.length ≤ 100000) : Dk K H (n + 2) (.ref r) (din ns) :=
  .lst h (by rw [List.length_map, List.length_map]) (by rw [List.length_map]; exact l) fun i x d e1 e2 => by
    rw [List.getElem?_map] at e1 e2
    obtain ⟨z, ez, rfl⟩ := Option.map_eq_some_iff.mp e1
    rw [ez] at e2
    cases e2
    exact .int n z
theorem plan_dk {K : PySem.W.Frag} {H : Hp} {f : Addr} {rs : List Addr} {D : Dy} (O : DyOk D) (hf : H f = some (.lst (rs.map V.ref))) (lr : rs.length = D.ks.length + 1) (rows : ∀ (j : Nat) (r : Addr), rs[j]? = some r → H r = some (.lst ((rowI D j).map V.int))) : Dk K H 5 (.ref f) (planD D) := by
  have k2 := O.k2
  have h2 := O.h2
  refine .lst hf (by rw [List.length_map, List.length_map, List.length_range, lr]) (by rw [List.length_map]; omega) fun i x d e1 e2 => ?_
  rw [List.getElem?_map] at e1 e2
  obtain ⟨r, er, rfl⟩ := Option.map_eq_some_iff.mp e1
  obtain ⟨j, ej, rfl⟩ := Option.map_eq_some_iff.mp e2
  obtain ⟨hi, rfl⟩ := List.getElem?_eq_some_iff.mp ej
  rw [List.getElem_range]
  exact nums_dk 2 (rows i r er) (by rw [row_len]; omega)
end KR
/-! ### papers: rows of bounds, each what the one ahead of it leads to -/
namespace KR
open PySem PySem.Spec PyProof.Rows L2
/-- two tuples that hold something, one behind the other -/
def rCatTP (K : PySem.W.Frag) : R2 := fun x y H Q => ∃ a b xs ys, x = .ref a ∧ y = .ref b ∧ SqT K H a xs ∧ SqT K H b ys ∧ xs ≠ [] ∧ ys ≠ [] ∧ xs.length + ys.length ≤ sizeLine ∧ ∀ p H', Same H H' → H p = none → H' p = some (.tup (xs ++ ys)) → Q (.ref p) H'
theorem op_catTP {X : Cx} {K : PySem.W.Frag} (hK : X.K = K) : OpR X (binaryOp .Add) (rCatTP K) := by
  subst hK
  intro pins s σ H x y v u Q I rx ry ⟨a, b, xs, ys, e1, e2, h1, h2, n1, n2, z, k⟩
  exact op_catT pins s σ H x y v u Q I rx ry ⟨a, b, xs, ys, e1, e2, h1, h2, n1, z, fun e => absurd e n2, fun _ p hp => k p _ (same_new hp) hp upd_same⟩
/-- how many are struck in all -/
def mostD (D : Dy) : Int := tk D D.cs.length D.ks.length
/-- a row of bounds from a place and an hour on, and what they come to -/
inductive Chain (D : Dy) : Nat → Nat → List (Str × Nat × Nat) → Int → Prop
  | last {p t : Nat} {b : Bd} : b ∈ bnds D p t → b.lead = none → Chain D p t [(b.word, p, t)] b.more
  | step {p t p' t' : Nat} {b : Bd} {l : List (Str × Nat × Nat)} {m : Int} : b ∈ bnds D p t → b.lead = some ((p' : Int), (t' : Int) - 1) → p' ≤ D.ks.length → t' ≤ t → Chain D p' t' l m → Chain D p t ((b.word, p, t) :: l) (m + b.more)
/-- the first bound that lets no more be taken -/
def FirstT (D : Dy) (p t : Nat) (b : Bd) : Prop := ∃ r, (bnds D p t).filter (fun b => decide (valB D b = tk D t p)) = b :: r
inductive TChain (D : Dy) : Nat → Nat → List (Str × Nat × Nat) → Prop
  | last {p t : Nat} {b : Bd} : FirstT D p t b → b.lead = none → TChain D p t [(b.word, p, t)]
  | step {p t p' t' : Nat} {b : Bd} {l : List (Str × Nat × Nat)} : FirstT D p t b → b.lead = some ((p' : Int), (t' : Int) - 1) → TChain D p' t' l → TChain D p t ((b.word, p, t) :: l)
theorem FirstT.uniq {D : Dy} {p t : Nat} {b c : Bd} (h1 : FirstT D p t b) (h2 : FirstT D p t c) : b = c := by
  obtain ⟨r, e1⟩ := h1
  obtain ⟨r', e2⟩ := h2
  rw [e1] at e2
  injection e2
theorem FirstT.mem {D : Dy} {p t : Nat} {b : Bd} (h : FirstT D p t b) : b ∈ bnds D p t := by
  obtain ⟨r, e⟩ := h
  exact (List.mem_filter.mp (show b ∈ (bnds D p t).filter (fun b => decide (valB D b = tk D t p)) by rw [e]; exact List.mem_cons_self)).1
theorem TChain.uniq {D : Dy} : ∀ {p t : Nat} {l l' : List (Str × Nat × Nat)}, TChain D p t l → TChain D p t l' → l = l' := by
  intro p t l l' h
  induction h generalizing l' with
  | last f n =>
    intro h'
    cases h' with
    | last f' n' => rw [f.uniq f']
    | step f' s' _ =>
      rw [← f.uniq f', n] at s'
      cases s'
  | step f s _ ih =>
    intro h'
    cases h' with
    | last f' n' =>
      rw [← f.uniq f', s] at n'
      cases n'
    | step f' s' c' =>
      have e := f.uniq f'
      subst e
      rw [s] at s'
      obtain ⟨e1, e2⟩ := Prod.mk.inj (Option.some.inj s')
      have n1 : ∀ a b : Nat, (a : Int) = (b : Int) → a = b := fun a b h => by omega
      have n2 : ∀ a b : Nat, (a : Int) - 1 = (b : Int) - 1 → a = b := fun a b h => by omega
      have e1 := n1 _ _ e1
      have e2 := n2 _ _ e2
      subst e1
      subst e2
      rw [ih c']
/-- the words are plain -/
theorem bnds_lay {D : Dy} {p t : Nat} {b : Bd} (m : b ∈ bnds D p t) : PyData.canLay0 (.str b.word) = true := by
  have all : b.word = "begin" ∨ b.word = "comes" ∨ b.word = "ahead" ∨ b.word = "takes" ∨ b.word = "room" := by
    have f1 : ∀ q, (firstB D p q).word = "comes" ∨ (firstB D p q).word = "ahead" := fun q => by
      unfold firstB
      split
      · exact .inl rfl
      · exact .inr rfl
    cases t with
    | zero => exact .inl (by rw [List.mem_singleton.mp m] <;> rfl)
    | succ t =>
      have hm : b = firstB D p t ∨ b.word = "takes" ∨ b.word = "room" := by
        by_cases c : p = D.ks.length
        · rw [show bnds D p (t + 1) = [firstB D p t, ⟨"takes", some ((p : Int), (t : Int) - 1), D.ss.getD t 0⟩] from if_pos c] at m
          rcases List.mem_cons.mp m with z | z
          · exact .inl z
          · exact .inr (.inl (by rw [List.mem_singleton.mp z] <;> rfl))
        · rw [show bnds D p (t + 1) = [firstB D p t, ⟨"takes", some ((p : Int), (t : Int) - 1), (kt D p).2.getD t 0⟩, ⟨"room", some ((p : Int) + 1, (t : Int)), (kt D p).1⟩] from if_neg c] at m
          rcases List.mem_cons.mp m with z | z
          · exact .inl z
          · rcases List.mem_cons.mp z with z | z
            · exact .inr (.inl (by rw [z] <;> rfl))
            · exact .inr (.inr (by rw [List.mem_singleton.mp z] <;> rfl))
      rcases hm with z | z | z
      · rw [z]
        rcases f1 t with y | y
        · exact .inr (.inl y)
        · exact .inr (.inr (.inl y))
      · exact .inr (.inr (.inr (.inl z)))
      · exact .inr (.inr (.inr (.inr z)))
  rcases all with e | e | e | e | e <;> rw [e] <;> decide +kernel
/-- a paper as data -/
def dpB (e : Str × Nat × Nat) : PyData := .tuple [.str e.1, .int (e.2.1 : Int), .int ((e.2.2 : Int) - 1)]
def dpP (l : List (Str × Nat × Nat)) : PyData := .list (l.map dpB)
theorem TChain.lay {D : Dy} {p t : Nat} {l : List (Str × Nat × Nat)} (h : TChain D p t l) : PyData.canLayAll0 (l.map dpB) = true ∧ PyData.depthAll (l.map dpB) ≤ 1 := by
  have one : ∀ {b : Bd} {p t : Nat} (l : List (Str × Nat × Nat)), FirstT D p t b → PyData.canLayAll0 (l.map dpB) = true ∧ PyData.depthAll (l.map dpB) ≤ 1 → PyData.canLayAll0 (((b.word, p, t) :: l).map dpB) = true ∧ PyData.depthAll (((b.word, p, t) :: l).map dpB) ≤ 1 := fun {b p t} l f ⟨h1, h2⟩ => by
    have hb := bnds_lay f.mem
    refine ⟨?_, ?_⟩
    · show ((PyData.canLay0 (.str b.word) && (true && (true && true))) && PyData.canLayAll0 (l.map dpB)) = true
      rw [hb, h1] <;> rfl
    · show max 1 (PyData.depthAll (l.map dpB)) ≤ 1
      omega
  induction h with
  | last f _ => exact one [] f ⟨rfl, Nat.zero_le _⟩
  | step f _ _ ih => exact one _ f ih
theorem pair_shaped {D : Dy} {p t : Nat} {l : List (Str × Nat × Nat)} (h : TChain D p t l) (m : Int) : SeqAt.shaped (.tuple [.int m, dpP l]) = true := by
  obtain ⟨h1, h2⟩ := h.lay
  show ((true && (PyData.canLayAll0 (l.map dpB) && true)) && decide (max 0 (max (PyData.depthAll (l.map dpB) + 1) 0) + 1 ≤ 64)) = true
  rw [h1, decide_eq_true (by omega)] <;> rfl
/-- bounds as tuples -/
def bdTup (e : Str × Nat × Nat) : HO := .tup [.str e.1, .int (e.2.1 : Int), .int ((e.2.2 : Int) - 1)]
def PaperAt (H : Hp) (rs : List Addr) (l : List (Str × Nat × Nat)) : Prop := rs.length = l.length ∧ ∀ (j : Nat) (r : Addr) (e : Str × Nat × Nat), rs[j]? = some r → l[j]? = some e → H r = some (bdTup e)
theorem PaperAt.same {H H' : Hp} {rs : List Addr} {l : List (Str × Nat × Nat)} (h : PaperAt H rs l) (s : Same H H') : PaperAt H' rs l := ⟨h.1, fun j r e a b => s _ _ (h.2 j r e a b)⟩
theorem PaperAt.nil (H : Hp) : PaperAt H [] [] := ⟨rfl, fun j r e a _ => by simp at a⟩
theorem PaperAt.snoc {H : Hp} {rs : List Addr} {l : List (Str × Nat × Nat)} {r : Addr} {e : Str × Nat × Nat} (h : PaperAt H rs l) (hr : H r = some (bdTup e)) : PaperAt H (rs ++ [r]) (l ++ [e]) := by
  refine ⟨by rw [List.length_append, List.length_append, h.1] <;> rfl, fun j r' e' a b => ?_⟩
  by_cases c : j < rs.length
  · rw [List.getElem?_append_left c] at a
    rw [List.getElem?_append_left (by rw [← h.1]; exact c)] at b
    exact h.2 j r' e' a b
  · have jl : j = rs.length := by
      have := (List.getElem?_eq_some_iff.mp a).1
      rw [List.length_append, List.length_singleton] at this
      omega
    subst jl
    rw [List.getElem?_append_right (Nat.le_refl _), Nat.sub_self] at a
    rw [h.1, List.getElem?_append_right (Nat.le_refl _), Nat.sub_self] at b
    cases a
    cases b
    exact hr
/-- no two bounds have the same word -/
theorem bnds_words (D : Dy) (p t : Nat) : ((bnds D p t).map (·.word)).Nodup := by
  cases t with
  | zero => show (["begin"] : List Str).Nodup; simp
  | succ t =>
    show ((if p = D.ks.length then _ else _ : List Bd).map _).Nodup
    split
    · show [(firstB D p t).word, ("takes" : Str)].Nodup
      unfold firstB
      split
      · show (["comes", "takes"] : List Str).Nodup; decide
      · show (["ahead", "takes"] : List Str).Nodup; decide
    · show [(firstB D p t).word, ("takes" : Str), ("room" : Str)].Nodup
      unfold firstB
      split
      · show (["comes", "takes", "room"] : List Str).Nodup; decide
      · show (["ahead", "takes", "room"] : List Str).Nodup; decide
/-- what is kept under a word -/
theorem AllBd.at_ {H : Hp} : ∀ {kvs : List (Key × V)} {bs : List Bd}, AllBd H kvs bs → (bs.map (·.word)).Nodup → ∀ b ∈ bs, ∃ v, valV kvs (.inr b.word : Key) = some v ∧ BdAt H (.inr b.word, v) b
  | _, _, .nil, _, b, m => absurd m List.not_mem_nil
  | (k, v) :: kvs, c :: bs, .cons h t, nd, b, m => by
    rw [List.map_cons] at nd
    have nd' := List.nodup_cons.mp nd
    have hk : k = .inr c.word := h.1
    rcases List.mem_cons.mp m with e | m'
    · subst e
      refine ⟨v, ?_, rfl, h.2⟩
      unfold valV
      rw [List.find?_cons_of_pos (by simpa using hk)] <;> rfl
    · obtain ⟨v', e1, e2⟩ := AllBd.at_ t nd'.2 b m'
      refine ⟨v', ?_, e2⟩
      have ne : ¬ k = .inr b.word := fun e => nd'.1 (by
        rw [hk] at e
        injection e with e
        rw [e]
        exact List.mem_map.mpr ⟨b, m', rfl⟩)
      unfold valV at e1 ⊢
      rw [List.find?_cons_of_neg (by simpa using ne)]
      exact e1
theorem paper_dps {K : PySem.W.Frag} {H : Hp} : ∀ {rs : List Addr} {l : List (Str × Nat × Nat)}, rs.length = l.length → (∀ (j : Nat) (r : Addr) (e : Str × Nat × Nat), rs[j]? = some r → l[j]? = some e → H r = some (bdTup e)) → DpAll K H (rs.map V.ref) (l.map dpB)
  | [], [], _, _ => .nil
  | r :: rs, e :: l, n, h => .cons (.tup (SqT.of (h 0 r e rfl rfl)) (.cons (.str _) (.cons (.int _) (.cons (.int _) .nil)))) (paper_dps (by rw [List.length_cons, List.length_cons] at n; omega) fun j r' e' a b => h (j + 1) r' e' a b)
theorem paper_dp {K : PySem.W.Frag} {H : Hp} {f : Addr} {rs : List Addr} {l : List (Str × Nat × Nat)} (hf : H f = some (.lst (rs.map V.ref))) (h : PaperAt H rs l) : Dp K H (.ref f) (dpP l) := .lst (SqL.of hf) (paper_dps h.1 h.2)
end KR
/-! ### things of any make, and xs[a:c] = ys -/
namespace KR
open PySem PySem.Spec PyProof.Rows L2
/-- xs[a:c] = ys, ys another list -/
def gSlS (to tl th : TE) : TG := fun v σ H Q => to σ H fun x H1 => tl σ H1 fun a H2 => th σ H2 fun c H3 => ∃ (l b : Addr) (xs ys : List V) (i j : Int), x = .ref l ∧ v = .ref b ∧ a = .int i ∧ c = .int j ∧ H3 l = some (.lst xs) ∧ H3 b = some (.lst ys) ∧ l ≠ b ∧ 0 ≤ i ∧ i ≤ j ∧ j ≤ xs.length ∧ xs.length + ys.length ≤ sizeLine ∧ Q σ (upd H3 l (.lst (xs.take i.toNat ++ ys ++ xs.drop j.toNat)))
theorem pg_slS {X : Cx} {o lo hi : Expr} {to tl th : TE} {p2 pos : Pos} (ho : PE X o to) (hl : PE X lo tl) (hh : PE X hi th)
    (ha : ∀ v, assign (.Subscript o (.Slice (some lo) (some hi) none p2) pos) X.env v = (do
      let ov ← holding [v] (eval o X.env)
      let iv ← holding [v, ov] (eval (.Slice (some lo) (some hi) none p2) X.env)
      standAt pos
      holding [v, ov, iv] (setItem ov iv v)
      release [iv, v, ov] []) := by intro _; rfl) : PG X (.Subscript o (.Slice (some lo) (some hi) none p2) pos) (gSlS to tl th) := by
  refine ⟨fun pins s σ H v u Q I r h => ?_⟩
  rw [ha]
  refine wpAny_bind (wpAny_holding (thn (ho.run pins s σ H _ I h) fun ov s1 ⟨x, H1, I1, r1, q1⟩ => ?_))
  refine wpAny_bind (wpAny_holding ?_)
  refine wpAny_Slice ?_
  rw [evalPart_some]
  refine thn (hl.run pins s1 σ H1 _ I1 q1) fun vl s2 ⟨a, H2, I2, ra, q2⟩ => ?_
  rw [evalPart_some]
  refine thn (hh.run pins s2 σ H2 _ I2 q2) fun vu s3 ⟨c, H3, I3, rc, q3⟩ => ?_
  rw [evalPart_none]
  refine wpAny_pure ?_
  obtain ⟨l, b, xs, ys, i, j, rfl, rfl, rfl, rfl, hx, hb, ne, i0, ij, jl, z, q⟩ := q3
  have I4 : Inv X pins σ H3 { s3 with heap := s3.heap.push { cls := .type "slice", data := .fields #[vl, vu, .none] } } := I3.kept (t' := s3.toks) fun b ob q => Heap.get?_push_of_some _ q
  obtain rfl : ov = .ref l := r1
  obtain rfl : u = .ref b := r
  refine wpAny_bind (wpAny_standAt (wpAny_bind (wpAny_holding ?_)))
  refine set_slice I4 hx hb ne (Heap.IsSliceOf.new ..) ra rc i0 ij jl z fun s5 I5 => ?_
  exact wpAny_release ⟨σ, _, I5, q⟩
/-- things whose lists are none of ours to write: ints to a bound, truths, None, texts, rows of such -/
inductive Tg (K : PySem.W.Frag) (p : Addr → Prop) (H : Hp) (B : Nat) : Nat → V → PyData → Prop
  | non (n : Nat) : Tg K p H B n .non .none
  | bl (n : Nat) (b : Bool) : Tg K p H B n (.bl b) (.bool b)
  | int (n : Nat) (i : Int) (h : i.natAbs ≤ B) : Tg K p H B n (.int i) (.int i)
  | str (n : Nat) (x : Str) (w : Nat) (l : x.length ≤ 10) (c : ∀ c ∈ TL.tl x, c < 128) : Tg K p H B n (.str x) (.str x)
  | lst {n : Nat} {a : Addr} {xs : List V} {ds : List PyData} : H a = some (.lst xs) → ¬ p a → xs.length = ds.length → (∀ (i : Nat) (x : V) (d : PyData), xs[i]? = some x → ds[i]? = some d → Tg K p H B n x d) → Tg K p H B (n + 1) (.ref a) (.list ds)
  | tup {n : Nat} {a : Addr} {xs : List V} {ds : List PyData} : SqT K H a xs → xs.length = ds.length → (∀ (i : Nat) (x : V) (d : PyData), xs[i]? = some x → ds[i]? = some d → Tg K p H B n x d) → Tg K p H B (n + 1) (.ref a) (.tuple ds)
theorem Tg.same {K : PySem.W.Frag} {p : Addr → Prop} {B : Nat} {H H' : Hp} (s : Same H H') : ∀ {n : Nat} {v : V} {d : PyData}, Tg K p H B n v d → Tg K p H' B n v d := by
  intro n v d h
  induction h with
  | non n => exact .non n
  | bl n b => exact .bl n b
  | int n i h => exact .int n i h
  | str n x w l c => exact .str n x w l c
  | lst h1 h2 h3 _ ih => exact .lst (s _ _ h1) h2 h3 ih
  | tup h1 h2 _ ih => exact .tup (Same.tup s h1) h2 ih
theorem Tg.fr {K : PySem.W.Frag} {p : Addr → Prop} {q : Addr} (hq : p q) {B m : Nat} {H H' : Hp} (b : BoxAt H q m) (F : Fr q H H') : ∀ {n : Nat} {v : V} {d : PyData}, Tg K p H B n v d → Tg K p H' B n v d := by
  intro n v d h
  induction h with
  | non n => exact .non n
  | bl n b => exact .bl n b
  | int n i h => exact .int n i h
  | str n x w l c => exact .str n x w l c
  | lst h1 h2 h3 _ ih => exact .lst (F _ _ (fun z => h2 (z ▸ hq)) h1) h2 h3 ih
  | tup h1 h2 _ ih => exact .tup (sqT_fr h1 b F) h2 ih
theorem Tg.up {K : PySem.W.Frag} {p : Addr → Prop} {B B' : Nat} {H : Hp} (hB : B ≤ B') : ∀ {n : Nat} {v : V} {d : PyData}, Tg K p H B n v d → ∀ {m : Nat}, n ≤ m → Tg K p H B' m v d := by
  intro n v d h
  induction h with
  | non n => exact fun _ => .non _
  | bl n b => exact fun _ => .bl _ b
  | int n i h => exact fun _ => .int _ i (Nat.le_trans h hB)
  | str n x w l c => exact fun _ => .str _ x w l c
  | lst h1 h2 h3 _ ih =>
    intro m le
    obtain ⟨k, rfl⟩ : ∃ k, m = k + 1 := ⟨m - 1, by omega⟩
    exact .lst h1 h2 h3 fun i x d a b => ih i x d a b (by omega)
  | tup h1 h2 _ ih =>
    intro m le
    obtain ⟨k, rfl⟩ : ∃ k, m = k + 1 := ⟨m - 1, by omega⟩
    exact .tup h1 h2 fun i x d a b => ih i x d a b (by omega)
theorem Tg.dp {K : PySem.W.Frag} {p : Addr → Prop} {B : Nat} {H : Hp} {n : Nat} {v : V} {d : PyData} (h : Tg K p H B n v d) : Dp K H v d := by
  induction h with
  | non n => exact .non
  | bl n b => exact .bl b
  | int n i h => exact .int i
  | str n x w l c => exact .str x
  | lst h1 h2 h3 _ ih => exact .lst (SqL.of h1) (dps_of h3 ih)
  | tup h1 h2 _ ih => exact .tup h1 (dps_of h2 ih)
/-- how much there is to a thing -/
theorem Tg.fine {K : PySem.W.Frag} {p : Addr → Prop} {B : Nat} {H : Hp} (b12 : B < 10 ^ 12) {n : Nat} {v : V} {d : PyData} (h : Tg K p H B n v d) : ∃ w, Fine n w d := by
  have many : ∀ {n : Nat} {xs : List V} {ds : List PyData}, xs.length = ds.length → (∀ (i : Nat) (x : V) (d : PyData), xs[i]? = some x → ds[i]? = some d → ∃ w, Fine n w d) → ∃ w, FineAll n w ds := fun {n} => by
    intro xs
    induction xs with
    | nil =>
      intro ds l _
      cases ds with
      | nil => exact ⟨0, FineAll.nil n⟩
      | cons d ds => cases l
    | cons x xs ih =>
      intro ds l at_
      cases ds with
      | nil => cases l
      | cons d ds =>
        obtain ⟨w1, f1⟩ := at_ 0 x d rfl rfl
        obtain ⟨w2, f2⟩ := ih (by rw [List.length_cons, List.length_cons] at l; omega) fun i x d e1 e2 => at_ (i + 1) x d e1 e2
        exact ⟨_, FineAll.cons f1 f2⟩
  induction h with
  | non n => exact ⟨0, Fine.non n⟩
  | bl n b => exact ⟨0, ⟨rfl, Nat.zero_le _, Nat.le_refl _, rfl, rfl, rfl⟩⟩
  | int n i h =>
    have z : i.natAbs < 10 ^ 12 := by omega
    have e : (10 : Nat) ^ 12 < 2 ^ 40 := by decide
    refine ⟨PyData.weight (.int i), ⟨rfl, Nat.zero_le _, Nat.le_refl _, decide_eq_true (PyData.shown_int_le z), decide_eq_true ?_, rfl⟩⟩
    by_cases c : i.natAbs = 0
    · rw [c]
      decide
    · have := (Nat.log2_lt c).mpr (Nat.lt_trans z e)
      omega
  | str n x w l c => exact ⟨10, Fine.str n l c⟩
  | lst h1 h2 h3 _ ih =>
    obtain ⟨w, f⟩ := many h3 ih
    exact ⟨w, FineAll.lst f⟩
  | tup h1 h2 _ ih =>
    obtain ⟨w, f⟩ := many h2 ih
    exact ⟨w, FineAll.tup f⟩
/-- rows of things -/
def TgAll (K : PySem.W.Frag) (p : Addr → Prop) (H : Hp) (B n : Nat) (xs : List V) (ds : List PyData) : Prop := xs.length = ds.length ∧ ∀ (i : Nat) (x : V) (d : PyData), xs[i]? = some x → ds[i]? = some d → Tg K p H B n x d
theorem TgAll.nil {K : PySem.W.Frag} {p : Addr → Prop} {H : Hp} {B n : Nat} : TgAll K p H B n [] [] := ⟨rfl, fun i x d h => by simp at h⟩
theorem TgAll.cons {K : PySem.W.Frag} {p : Addr → Prop} {H : Hp} {B n : Nat} {x : V} {d : PyData} {xs : List V} {ds : List PyData} (h : Tg K p H B n x d) (t : TgAll K p H B n xs ds) : TgAll K p H B n (x :: xs) (d :: ds) :=
  ⟨by rw [List.length_cons, List.length_cons, t.1], fun i u v hu hv => match i, hu, hv with
    | 0, hu, hv => by cases hu; cases hv; exact h
    | i + 1, hu, hv => t.2 i u v hu hv⟩
theorem TgAll.tail {K : PySem.W.Frag} {p : Addr → Prop} {H : Hp} {B n : Nat} {x : V} {d : PyData} {xs : List V} {ds : List PyData} (t : TgAll K p H B n (x :: xs) (d :: ds)) : Tg K p H B n x d ∧ TgAll K p H B n xs ds :=
  ⟨t.2 0 x d rfl rfl, by have := t.1; rw [List.length_cons, List.length_cons] at this; omega, fun i u v hu hv => t.2 (i + 1) u v hu hv⟩
theorem TgAll.app {K : PySem.W.Frag} {p : Addr → Prop} {H : Hp} {B n : Nat} : ∀ {xs : List V} {ds : List PyData} {ys : List V} {es : List PyData}, TgAll K p H B n xs ds → TgAll K p H B n ys es → TgAll K p H B n (xs ++ ys) (ds ++ es)
  | [], [], _, _, _, h => h
  | [], _ :: _, _, _, h, _ => by have := h.1; cases this
  | _ :: _, [], _, _, h, _ => by have := h.1; cases this
  | _ :: _, _ :: _, _, _, h, h' => .cons h.tail.1 (TgAll.app h.tail.2 h')
theorem TgAll.take {K : PySem.W.Frag} {p : Addr → Prop} {H : Hp} {B n : Nat} {xs : List V} {ds : List PyData} (h : TgAll K p H B n xs ds) (k : Nat) : TgAll K p H B n (xs.take k) (ds.take k) :=
  ⟨by rw [List.length_take, List.length_take, h.1], fun i x d e1 e2 => by
    rw [List.getElem?_take] at e1 e2
    split at e1
    · rename_i c
      rw [if_pos c] at e2
      exact h.2 i x d e1 e2
    · cases e1⟩
theorem TgAll.drop {K : PySem.W.Frag} {p : Addr → Prop} {H : Hp} {B n : Nat} {xs : List V} {ds : List PyData} (h : TgAll K p H B n xs ds) (k : Nat) : TgAll K p H B n (xs.drop k) (ds.drop k) :=
  ⟨by rw [List.length_drop, List.length_drop, h.1], fun i x d e1 e2 => by
    rw [List.getElem?_drop] at e1 e2
    exact h.2 _ x d e1 e2⟩
theorem TgAll.rev {K : PySem.W.Frag} {p : Addr → Prop} {H : Hp} {B n : Nat} : ∀ {xs : List V} {ds : List PyData}, TgAll K p H B n xs ds → TgAll K p H B n xs.reverse ds.reverse
  | [], [], _ => .nil
  | [], _ :: _, h => by have := h.1; cases this
  | _ :: _, [], h => by have := h.1; cases this
  | _ :: _, _ :: _, h => by
    rw [List.reverse_cons, List.reverse_cons]
    exact TgAll.app (TgAll.rev h.tail.2) (.cons h.tail.1 .nil)
theorem TgAll.same {K : PySem.W.Frag} {p : Addr → Prop} {H H' : Hp} {B n : Nat} {xs : List V} {ds : List PyData} (h : TgAll K p H B n xs ds) (s : Same H H') : TgAll K p H' B n xs ds := ⟨h.1, fun i x d e1 e2 => (h.2 i x d e1 e2).same s⟩
theorem TgAll.fr {K : PySem.W.Frag} {p : Addr → Prop} {H H' : Hp} {B n m : Nat} {xs : List V} {ds : List PyData} {q : Addr} (hq : p q) (h : TgAll K p H B n xs ds) (b : BoxAt H q m) (F : Fr q H H') : TgAll K p H' B n xs ds := ⟨h.1, fun i x d e1 e2 => (h.2 i x d e1 e2).fr hq b F⟩
theorem TgAll.up {K : PySem.W.Frag} {p : Addr → Prop} {H : Hp} {B B' n m : Nat} {xs : List V} {ds : List PyData} (h : TgAll K p H B n xs ds) (hB : B ≤ B') (le : n ≤ m) : TgAll K p H B' m xs ds := ⟨h.1, fun i x d e1 e2 => (h.2 i x d e1 e2).up hB le⟩
/-- numbers and truths as numbers -/
def numOf : V → Option Int
  | .int i => some i
  | .bl b => some (if b = true then 1 else 0)
  | _ => none
def rNb (f : Int → Int → Int) : R2 := fun x y H Q => ∃ i j, numOf x = some i ∧ y = .int j ∧ Q (.int (f i j)) H
theorem op_addNb {X : Cx} : OpR X (binaryOp .Add) (rNb fun i j => i + j) := by
  intro pins s σ H x y v u Q I rx ry ⟨i, j, e, e2, q⟩
  cases x <;> try (cases e; done)
  case bl b =>
    cases e
    subst e2
    obtain ⟨t, rfl⟩ := ry
    cases rx
    exact PySem.IntBool.add_bool_int ⟨.int _, H, I.tok _, ⟨_, rfl⟩, q⟩
  case int i => cases e; exact op_add pins s σ H _ y v u Q I rx ry ⟨_, j, rfl, e2, q⟩
theorem op_subNb {X : Cx} : OpR X (binaryOp .Sub) (rNb fun i j => i - j) := by
  intro pins s σ H x y v u Q I rx ry ⟨i, j, e, e2, q⟩
  cases x <;> try (cases e; done)
  case bl b =>
    cases e
    subst e2
    obtain ⟨t, rfl⟩ := ry
    cases rx
    exact PySem.IntBool.sub_bool_int ⟨.int _, H, I.tok _, ⟨_, rfl⟩, q⟩
  case int i => cases e; exact op_sub pins s σ H _ y v u Q I rx ry ⟨_, j, rfl, e2, q⟩
/-- how a thing looks: a leaf, or a row -/
theorem Tg.look {K : PySem.W.Frag} {p : Addr → Prop} {q : Addr} (hq : p q) {B : Nat} {H : Hp} {n : Nat} {v : V} {d : PyData} (hB : 1 ≤ B) (h : Tg K p H B n v d) :
    (∃ (t : String) (bi : Bool), (∀ H2, TyX K H2 v (.type t)) ∧ kitB t "list" = some false ∧ kitB t "tuple" = some false ∧ kitB t "int" = some bi ∧ (bi = true → (∃ i, numOf v = some i ∧ i.natAbs ≤ B) ∧ SeqAt.shaped d = true)) ∨
    (∃ (t : String) (bl bt : Bool) (a : Addr) (xs : List V) (ds : List PyData) (m : Nat), v = .ref a ∧ n = m + 1 ∧ (∀ (H' : Hp) (mm : Nat), BoxAt H q mm → Fr q H H' → TyX K H' v (.type t)) ∧ kitB t "list" = some bl ∧ kitB t "tuple" = some bt ∧ (bl = false → bt = true) ∧ (SqL K H a xs ∨ SqT K H a xs) ∧ TgAll K p H B m xs ds ∧ PyData.weight d = PyData.weightAll ds) := by
  cases h with
  | non n => exact .inl ⟨"NoneType", false, fun _ => .base .non, by decide +kernel, by decide +kernel, by decide +kernel, fun z => nomatch z⟩
  | bl n b => exact .inl ⟨"bool", true, fun _ => .base (.bl b), by decide +kernel, by decide +kernel, by decide +kernel, fun _ => ⟨⟨_, rfl, by cases b <;> simp <;> omega⟩, rfl⟩⟩
  | int n i h => exact .inl ⟨"int", true, fun _ => .base (.int i), by decide +kernel, by decide +kernel, by decide +kernel, fun _ => ⟨⟨_, rfl, h⟩, rfl⟩⟩
  | str n x w l c => exact .inl ⟨"str", false, fun _ => .base (.str x), by decide +kernel, by decide +kernel, by decide +kernel, fun z => nomatch z⟩
  | lst h1 h2 h3 h4 => exact .inr ⟨"list", true, false, _, _, _, _, rfl, rfl, fun H' mm b F => .base (.lst (F _ _ (fun z => h2 (z ▸ hq)) h1)), by decide +kernel, by decide +kernel, (fun z => nomatch z), .inl (SqL.of h1), ⟨h3, h4⟩, rfl⟩
  | tup h1 h2 h3 => exact .inr ⟨"tuple", false, true, _, _, _, _, rfl, rfl, fun H' mm b F => sqT_ty (sqT_fr h1 b F), by decide +kernel, by decide +kernel, fun _ => rfl, .inr h1, ⟨h2, h3⟩, rfl⟩
theorem wt_int {i : Int} (h : i.natAbs < 2 ^ 21) : PyData.weight (.int i) ≤ 21 := by
  show (if i == 0 then 0 else i.natAbs.log2 + 1) ≤ 21
  by_cases c : i = 0
  · rw [c]
    decide
  · rw [if_neg (by simpa using c)]
    have := (Nat.log2_lt (show i.natAbs ≠ 0 by omega)).mpr h
    omega
theorem TgAll.at_ {K : PySem.W.Frag} {p : Addr → Prop} {H : Hp} {B n : Nat} {xs : List V} {ds : List PyData} (h : TgAll K p H B n xs ds) {i : Nat} (lt : i < xs.length) : ∃ x d, xs[i]? = some x ∧ ds[i]? = some d ∧ Tg K p H B n x d := by
  have l2 : i < ds.length := by rw [← h.1]; exact lt
  exact ⟨xs[i], ds[i], List.getElem?_eq_getElem lt, List.getElem?_eq_getElem l2, h.2 i _ _ (List.getElem?_eq_getElem lt) (List.getElem?_eq_getElem l2)⟩
theorem wa_app : ∀ (a b : List PyData), PyData.weightAll (a ++ b) = PyData.weightAll a + PyData.weightAll b
  | [], b => by rw [List.nil_append]; show _ = 0 + _; omega
  | x :: a, b => by
    show PyData.weight x + 1 + PyData.weightAll (a ++ b) = (PyData.weight x + 1 + PyData.weightAll a) + _
    rw [wa_app a b]
    omega
theorem wa_cut (a : List PyData) (k : Nat) : PyData.weightAll (a.take k) + PyData.weightAll (a.drop k) = PyData.weightAll a := by
  rw [← wa_app, List.take_append_drop]
theorem wa_rev : ∀ (a : List PyData), PyData.weightAll a.reverse = PyData.weightAll a
  | [] => rfl
  | x :: a => by
    rw [List.reverse_cons, wa_app, wa_rev a]
    show _ + (PyData.weight x + 1 + 0) = PyData.weight x + 1 + _
    omega
theorem wa_at {a : List PyData} {k : Nat} {d : PyData} (h : a[k]? = some d) : PyData.weightAll (a.take k) + (PyData.weight d + 1) + PyData.weightAll (a.drop (k + 1)) = PyData.weightAll a := by
  obtain ⟨lt, e⟩ := List.getElem?_eq_some_iff.mp h
  have h1 := wa_cut a k
  rw [List.drop_eq_getElem_cons lt, e] at h1
  have h2 : PyData.weightAll (d :: a.drop (k + 1)) = PyData.weight d + 1 + PyData.weightAll (a.drop (k + 1)) := rfl
  rw [h2] at h1
  omega
theorem TgAll.set {K : PySem.W.Frag} {p : Addr → Prop} {H : Hp} {B n : Nat} {xs : List V} {ds : List PyData} (h : TgAll K p H B n xs ds) {k : Nat} {x : V} {d : PyData} (hx : Tg K p H B n x d) : TgAll K p H B n (xs.set k x) (ds.set k d) := by
  refine ⟨by rw [List.length_set, List.length_set]; exact h.1, fun i y e e1 e2 => ?_⟩
  rw [List.getElem?_set] at e1 e2
  by_cases c : k = i
  · subst c
    rw [if_pos rfl] at e1 e2
    split at e1
    · cases e1
      split at e2
      · cases e2
        exact hx
      · cases e2
    · cases e1
  · rw [if_neg c] at e1 e2
    exact h.2 i y e e1 e2
theorem wa_set {a : List PyData} {k : Nat} {d e : PyData} (h : a[k]? = some d) : PyData.weightAll (a.set k e) + PyData.weight d = PyData.weightAll a + PyData.weight e := by
  obtain ⟨lt, _⟩ := List.getElem?_eq_some_iff.mp h
  have h1 := wa_at h
  rw [List.set_eq_take_append_cons_drop, if_pos lt, wa_app]
  have h2 : PyData.weightAll (e :: a.drop (k + 1)) = PyData.weight e + 1 + PyData.weightAll (a.drop (k + 1)) := rfl
  rw [h2]
  omega
/-- a row of things whose list is written anew -/
theorem TgAll.put {K : PySem.W.Frag} {p : Addr → Prop} {H0 H : Hp} {B n : Nat} {xs ys : List V} {ds : List PyData} {r : Addr} (h : TgAll K p H0 B n xs ds) (s : Same H0 H) (nr : H0 r = none) : TgAll K p (upd H r (.lst ys)) B n xs ds := h.same (Same.put s nr)
/-- a part of a row of things -/
theorem TgAll.cut {K : PySem.W.Frag} {p : Addr → Prop} {H : Hp} {B n : Nat} {xs : List V} {ds : List PyData} (h : TgAll K p H B n xs ds) (lo hi : Option Int) : ∃ es, TgAll K p H B n (cutV xs lo hi) es ∧ PyData.weightAll es ≤ PyData.weightAll ds := by
  unfold cutV
  refine ⟨_, (h.drop _).take _, ?_⟩
  have h1 := wa_cut (ds.drop (HT.sIx xs.length 0 lo)) (HT.sIx xs.length xs.length hi - HT.sIx xs.length 0 lo)
  have h2 := wa_cut ds (HT.sIx xs.length 0 lo)
  omega
theorem wa_len : ∀ l : List PyData, l.length ≤ PyData.weightAll l
  | [] => Nat.le_refl _
  | y :: l => by
    have := wa_len l
    show l.length + 1 ≤ PyData.weight y + 1 + PyData.weightAll l
    omega
/-- things that avoid more -/
theorem Tg.avoid {K : PySem.W.Frag} {p : Addr → Prop} {r : Addr} {B : Nat} {H0 : Hp} (s : H0 r = none) : ∀ {n : Nat} {v : V} {d : PyData}, Tg K p H0 B n v d → Tg K (fun a => p a ∨ a = r) H0 B n v d := by
  intro n v d h
  induction h with
  | non n => exact .non n
  | bl n b => exact .bl n b
  | int n i h => exact .int n i h
  | str n x w l c => exact .str n x w l c
  | lst h1 h2 h3 _ ih => exact .lst h1 (fun z => z.elim h2 (ne_of_none h1 s)) h3 ih
  | tup h1 h2 _ ih => exact .tup h1 h2 ih
theorem Tg.less {K : PySem.W.Frag} {p p' : Addr → Prop} (le : ∀ a, p' a → p a) {B : Nat} {H : Hp} : ∀ {n : Nat} {v : V} {d : PyData}, Tg K p H B n v d → Tg K p' H B n v d := by
  intro n v d h
  induction h with
  | non n => exact .non n
  | bl n b => exact .bl n b
  | int n i h => exact .int n i h
  | str n x w l c => exact .str n x w l c
  | lst h1 h2 h3 _ ih => exact .lst h1 (fun z => h2 (le _ z)) h3 ih
  | tup h1 h2 _ ih => exact .tup h1 h2 ih
/-- a list that things avoid is written -/
theorem Tg.wr {K : PySem.W.Frag} {p : Addr → Prop} {r : Addr} (hr : p r) {B : Nat} {H : Hp} {xs ys : List V} (h0 : H r = some (.lst xs)) : ∀ {n : Nat} {v : V} {d : PyData}, Tg K p H B n v d → Tg K p (upd H r (.lst ys)) B n v d := by
  intro n v d h
  induction h with
  | non n => exact .non n
  | bl n b => exact .bl n b
  | int n i h => exact .int n i h
  | str n x w l c => exact .str n x w l c
  | lst h1 h2 h3 _ ih => exact .lst ((upd_ne (fun z => h2 (by rw [z]; exact hr))).trans h1) h2 h3 ih
  | tup h1 h2 _ ih => exact .tup (sqT_frL h1 h0 fr_upd) h2 ih
theorem TgAll.wr {K : PySem.W.Frag} {p : Addr → Prop} {r : Addr} (hr : p r) {B n : Nat} {H : Hp} {xs ys : List V} (h0 : H r = some (.lst xs)) {zs : List V} {ds : List PyData} (h : TgAll K p H B n zs ds) : TgAll K p (upd H r (.lst ys)) B n zs ds := ⟨h.1, fun i x d e1 e2 => (h.2 i x d e1 e2).wr hr h0⟩
theorem TgAll.less {K : PySem.W.Frag} {p p' : Addr → Prop} (le : ∀ a, p' a → p a) {B n : Nat} {H : Hp} {zs : List V} {ds : List PyData} (h : TgAll K p H B n zs ds) : TgAll K p' H B n zs ds := ⟨h.1, fun i x d e1 e2 => (h.2 i x d e1 e2).less le⟩
end KR
/-! ### what a thing of any make is -/
namespace KR
open PySem PySem.Spec PyProof.Rows L2
def isL : PyData → Bool
  | .list _ => true
  | _ => false
def isT : PyData → Bool
  | .tuple _ => true
  | _ => false
def isS : PyData → Bool
  | .str _ => true
  | _ => false
def isI : PyData → Bool
  | .int _ => true
  | _ => false
def isBo : PyData → Bool
  | .bool _ => true
  | _ => false
theorem Tg.ty {K : PySem.W.Frag} {p : Addr → Prop} {H : Hp} {B n : Nat} {v : V} {d : PyData} (h : Tg K p H B n v d) : ∃ t : String, TyX K H v (.type t) ∧ kitB t "list" = some (isL d) ∧ kitB t "tuple" = some (isT d) ∧ kitB t "int" = some (isI d || isBo d) ∧ kitB t "bool" = some (isBo d) ∧ kitB t "str" = some (isS d) := by
  cases h with
  | non n => exact ⟨"NoneType", .base .non, by show kitB "NoneType" "list" = some false; decide +kernel, by show kitB "NoneType" "tuple" = some false; decide +kernel, by show kitB "NoneType" "int" = some false; decide +kernel, by show kitB "NoneType" "bool" = some false; decide +kernel, by show kitB "NoneType" "str" = some false; decide +kernel⟩
  | bl n b => exact ⟨"bool", .base (.bl b), by show kitB "bool" "list" = some false; decide +kernel, by show kitB "bool" "tuple" = some false; decide +kernel, by show kitB "bool" "int" = some true; decide +kernel, by show kitB "bool" "bool" = some true; decide +kernel, by show kitB "bool" "str" = some false; decide +kernel⟩
  | int n i h => exact ⟨"int", .base (.int i), by show kitB "int" "list" = some false; decide +kernel, by show kitB "int" "tuple" = some false; decide +kernel, by show kitB "int" "int" = some true; decide +kernel, by show kitB "int" "bool" = some false; decide +kernel, by show kitB "int" "str" = some false; decide +kernel⟩
  | str n x w l c => exact ⟨"str", .base (.str x), by show kitB "str" "list" = some false; decide +kernel, by show kitB "str" "tuple" = some false; decide +kernel, by show kitB "str" "int" = some false; decide +kernel, by show kitB "str" "bool" = some false; decide +kernel, by show kitB "str" "str" = some true; decide +kernel⟩
  | lst h1 h2 h3 h4 => exact ⟨"list", .base (.lst h1), by show kitB "list" "list" = some true; decide +kernel, by show kitB "list" "tuple" = some false; decide +kernel, by show kitB "list" "int" = some false; decide +kernel, by show kitB "list" "bool" = some false; decide +kernel, by show kitB "list" "str" = some false; decide +kernel⟩
  | tup h1 h2 h3 => exact ⟨"tuple", sqT_ty h1, by show kitB "tuple" "list" = some false; decide +kernel, by show kitB "tuple" "tuple" = some true; decide +kernel, by show kitB "tuple" "int" = some false; decide +kernel, by show kitB "tuple" "bool" = some false; decide +kernel, by show kitB "tuple" "str" = some false; decide +kernel⟩
theorem Tg.tupI {K : PySem.W.Frag} {p : Addr → Prop} {H : Hp} {B n : Nat} {v : V} {d : PyData} (h : Tg K p H B n v d) (e : isT d = true) : ∃ (a : Addr) (xs : List V) (ds : List PyData) (m : Nat), v = .ref a ∧ d = .tuple ds ∧ n = m + 1 ∧ SqT K H a xs ∧ TgAll K p H B m xs ds := by
  cases h <;> try (cases e; done)
  case tup h1 h2 h3 => exact ⟨_, _, _, _, rfl, rfl, rfl, h1, h2, h3⟩
theorem Tg.lstI {K : PySem.W.Frag} {p : Addr → Prop} {H : Hp} {B n : Nat} {v : V} {d : PyData} (h : Tg K p H B n v d) (e : isL d = true) : ∃ (a : Addr) (xs : List V) (ds : List PyData) (m : Nat), v = .ref a ∧ d = .list ds ∧ n = m + 1 ∧ H a = some (.lst xs) ∧ TgAll K p H B m xs ds := by
  cases h <;> try (cases e; done)
  case lst h1 h2 h3 h4 => exact ⟨_, _, _, _, rfl, rfl, rfl, h1, h3, h4⟩
theorem Tg.intI {K : PySem.W.Frag} {p : Addr → Prop} {H : Hp} {B n : Nat} {v : V} {d : PyData} (h : Tg K p H B n v d) (e : isI d = true) : ∃ i : Int, v = .int i ∧ d = .int i ∧ i.natAbs ≤ B := by
  cases h <;> try (cases e; done)
  case int i h => exact ⟨i, rfl, rfl, h⟩
theorem Tg.strI {K : PySem.W.Frag} {p : Addr → Prop} {H : Hp} {B n : Nat} {v : V} {d : PyData} (h : Tg K p H B n v d) (e : isS d = true) : ∃ x : Str, v = .str x ∧ d = .str x := by
  cases h <;> try (cases e; done)
  case str x _ l c => exact ⟨x, rfl, rfl⟩
theorem boI {d : PyData} (h : isBo d = true) : isI d = false := by
  cases d <;> first | rfl | exact nomatch h
theorem Tg.show_ {K : PySem.W.Frag} {p : Addr → Prop} {H : Hp} {B n w : Nat} (b12 : B < 10 ^ 12) {v : V} {d : PyData} (h : Tg K p H B n v d) (le : PyData.weight d ≤ w) : Fine n w d := by
  obtain ⟨w', f⟩ := h.fine b12
  exact ⟨f.lay, f.dep, le, f.ish, f.sh, f.nd⟩
end KR
/-! ### any thing walked as a paper -/
namespace KR
open PySem PySem.Spec PyProof.Rows L2
/-- the bound of a word there -/
def stepP (D : Dy) (p t : Nat) (w : Str) : Option Bd := (bnds D p t).find? fun b => decide (b.word = w)
theorem stepP_mem {D : Dy} {p t : Nat} {b : Bd} (m : b ∈ bnds D p t) : stepP D p t b.word = some b := by
  have nd := bnds_words D p t
  unfold stepP
  generalize bnds D p t = bs at m nd
  induction bs with
  | nil => exact absurd m List.not_mem_nil
  | cons c bs ih =>
    rw [List.map_cons] at nd
    obtain ⟨n1, n2⟩ := List.nodup_cons.mp nd
    rcases List.mem_cons.mp m with e | m
    · rw [← e, List.find?_cons_of_pos (by simp)]
    · rw [List.find?_cons_of_neg (by
        simp only [decide_eq_true_eq]
        exact fun e => n1 (e ▸ List.mem_map.mpr ⟨b, m, rfl⟩))]
      exact ih m n2
theorem stepP_some {D : Dy} {p t : Nat} {w : Str} {b : Bd} (h : stepP D p t w = some b) : b ∈ bnds D p t ∧ b.word = w :=
  ⟨List.mem_of_find?_eq_some h, by simpa using List.find?_some h⟩
theorem stepP_none {D : Dy} {p t : Nat} {w : Str} (h : stepP D p t w = none) : ∀ b ∈ bnds D p t, b.word ≠ w := fun b m e => by
  have := List.find?_eq_none.mp h b m
  simp [e] at this
theorem AllBd.no {H : Hp} {w : Str} : ∀ {kvs : List (Key × V)} {bs : List Bd}, AllBd H kvs bs → (∀ b ∈ bs, b.word ≠ w) → valV kvs (.inr w : Key) = none
  | _, _, .nil, _ => rfl
  | (k, v) :: kvs, c :: bs, .cons h t, ne => by
    have hk : k = .inr c.word := h.1
    have n1 := ne c List.mem_cons_self
    have ih := AllBd.no t fun b m => ne b (List.mem_cons_of_mem _ m)
    unfold valV at ih ⊢
    rw [List.find?_cons_of_neg (by
      rw [hk]
      simp only [decide_eq_true_eq]
      exact fun e => n1 (Sum.inr.inj e))]
    exact ih
/-- what a bound leads to lies within the day -/
theorem lead_in {D : Dy} {p t : Nat} (hp : p ≤ D.ks.length) {b : Bd} (m : b ∈ bnds D p t) {y : Int × Int} (h : b.lead = some y) : ∃ p' t' : Nat, y = ((p' : Int), (t' : Int) - 1) ∧ p' ≤ D.ks.length ∧ t' ≤ t := by
  cases t with
  | zero => rw [List.mem_singleton.mp m] at h; cases h
  | succ t =>
    have hm : b = firstB D p t ∨ b.lead = some ((p : Int), (t : Int) - 1) ∨ (p < D.ks.length ∧ b.lead = some ((p : Int) + 1, (t : Int))) := by
      by_cases c : p = D.ks.length
      · rw [show bnds D p (t + 1) = [firstB D p t, ⟨"takes", some ((p : Int), (t : Int) - 1), D.ss.getD t 0⟩] from if_pos c] at m
        rcases List.mem_cons.mp m with z | z
        · exact .inl z
        · exact .inr (.inl (by rw [List.mem_singleton.mp z] <;> rfl))
      · rw [show bnds D p (t + 1) = [firstB D p t, ⟨"takes", some ((p : Int), (t : Int) - 1), (kt D p).2.getD t 0⟩, ⟨"room", some ((p : Int) + 1, (t : Int)), (kt D p).1⟩] from if_neg c] at m
        rcases List.mem_cons.mp m with z | z
        · exact .inl z
        · rcases List.mem_cons.mp z with z | z
          · exact .inr (.inl (by rw [z] <;> rfl))
          · exact .inr (.inr ⟨by omega, by rw [List.mem_singleton.mp z] <;> rfl⟩)
    rcases hm with z | z | ⟨lt, z⟩
    · rw [z] at h
      unfold firstB at h
      split at h
      · cases h
      · cases h
        exact ⟨p - 1, t, by rw [show ((p - 1 : Nat) : Int) = (p : Int) - 1 by omega], by omega, by omega⟩
    · rw [z] at h
      cases h
      exact ⟨p, t, rfl, hp, by omega⟩
    · rw [z] at h
      cases h
      exact ⟨p + 1, t + 1, by rw [show ((p + 1 : Nat) : Int) = (p : Int) + 1 by omega, show ((t + 1 : Nat) : Int) - 1 = (t : Int) by omega], by omega, by omega⟩
/-- the word of a thing that is a bound of a place and an hour -/
def bdW (p h : Int) : PyData → Option Str
  | .tuple [.str w, .int a, .int b] => if a = p ∧ b = h then some w else none
  | _ => none
theorem bdW_no {p h : Int} {a b c : PyData} (n : isS a = false ∨ isI b = false ∨ isI c = false) : bdW p h (.tuple [a, b, c]) = none := by
  rcases n with n | n | n
  · cases a <;> first | rfl | exact nomatch n
  · cases a <;> first | rfl | (cases b <;> first | rfl | exact nomatch n)
  · cases a <;> first | rfl | (cases b <;> first | rfl | (cases c <;> first | rfl | exact nomatch n))
theorem bdW_len {p h : Int} {ds : List PyData} (n : ds.length ≠ 3) : bdW p h (.tuple ds) = none := by
  match ds, n with
  | [], _ => rfl
  | [a], _ => cases a <;> rfl
  | [a, b], _ => cases a <;> first | rfl | (cases b <;> rfl)
  | [a, b, c], n => exact absurd rfl n
  | a :: b :: c :: e :: r, _ => cases a <;> first | rfl | (cases b <;> first | rfl | (cases c <;> rfl))
theorem bdW_T {p h : Int} {d : PyData} (n : isT d = false) : bdW p h d = none := by
  cases d <;> first | rfl | exact nomatch n
theorem three {K : PySem.W.Frag} {Av : Addr → Prop} {H : Hp} {B n : Nat} {xs : List V} {ds : List PyData} (t : TgAll K Av H B n xs ds) (l : xs.length = 3) : ∃ x1 x2 x3 d1 d2 d3, xs = [x1, x2, x3] ∧ ds = [d1, d2, d3] ∧ Tg K Av H B n x1 d1 ∧ Tg K Av H B n x2 d2 ∧ Tg K Av H B n x3 d3 := by
  match xs, ds, t, l with
  | [a, b, c], [d, e, f], t, _ => exact ⟨a, b, c, d, e, f, rfl, rfl, t.tail.1, t.tail.2.tail.1, t.tail.2.tail.2.tail.1⟩
  | [a, b, c], [], t, _ => exact nomatch t.1
  | [a, b, c], [d], t, _ => exact nomatch t.1
  | [a, b, c], [d, e], t, _ => exact nomatch t.1
  | [a, b, c], d :: e :: f :: g :: r, t, _ => exact nomatch t.1
/-- whether things walk on from a lead to so many -/
def walkP (D : Dy) (m : Int) : Option (Int × Int) → Int → List PyData → Bool
  | l, to, [] => l.isNone && decide (to = m)
  | none, _, _ :: _ => false
  | some (p, h), to, d :: ds => match bdW p h d with
    | none => false
    | some w => match stepP D p.toNat (h + 1).toNat w with
      | none => false
      | some b => walkP D m b.lead (to + b.more) ds
theorem walkP_cons {D : Dy} {m p h to : Int} {d : PyData} {ds : List PyData} : walkP D m (some (p, h)) to (d :: ds) = (match bdW p h d with
    | none => false
    | some w => match stepP D p.toNat (h + 1).toNat w with
      | none => false
      | some b => walkP D m b.lead (to + b.more) ds) := by
  conv => lhs; unfold walkP
def isPap (D : Dy) (m : Int) : PyData → Bool
  | .list ds => walkP D m (some ((D.ks.length : Int), (D.cs.length : Int) - 1)) 0 ds
  | _ => false
theorem Chain.walks {D : Dy} {p t : Nat} {l : List (Str × Nat × Nat)} {m : Int} (c : Chain D p t l m) : ∀ to : Int, walkP D (m + to) (some ((p : Int), (t : Int) - 1)) to (l.map dpB) = true := by
  have hd : ∀ {p t : Nat} {b : Bd} {M to : Int} {ds : List PyData}, b ∈ bnds D p t → walkP D M (some ((p : Int), (t : Int) - 1)) to (dpB (b.word, p, t) :: ds) = walkP D M b.lead (to + b.more) ds := fun {p t b M to ds} mb => by
    have e1 : bdW (p : Int) ((t : Int) - 1) (dpB (b.word, p, t)) = some b.word := if_pos ⟨rfl, rfl⟩
    have e2 : stepP D ((p : Int)).toNat ((t : Int) - 1 + 1).toNat b.word = some b := by
      rw [Int.toNat_natCast, show ((t : Int) - 1 + 1).toNat = t by omega]
      exact stepP_mem mb
    rw [walkP_cons]
    simp only [e1, e2]
  induction c with
  | last mb nl =>
    intro to
    rename_i b
    rw [List.map_cons, hd mb, nl, List.map_nil]
    show (true && decide (to + b.more = b.more + to)) = true
    rw [decide_eq_true (by omega)] <;> rfl
  | step mb sl pk tt c ih =>
    intro to
    rename_i b l' m'
    rw [List.map_cons, hd mb, sl]
    have := ih (to + b.more)
    rw [show m' + (to + b.more) = m' + b.more + to by omega] at this
    exact this
theorem Chain.pap {D : Dy} {l : List (Str × Nat × Nat)} {m : Int} (c : Chain D D.ks.length D.cs.length l m) : isPap D m (dpP l) = true := by
  have := c.walks 0
  rw [Int.add_zero] at this
  exact this
/-- papers as things -/
theorem bnds_word {D : Dy} {p t : Nat} {b : Bd} (m : b ∈ bnds D p t) : b.word = "begin" ∨ b.word = "comes" ∨ b.word = "ahead" ∨ b.word = "takes" ∨ b.word = "room" := by
  have f1 : ∀ q, (firstB D p q).word = "comes" ∨ (firstB D p q).word = "ahead" := fun q => by
    unfold firstB
    split
    · exact .inl rfl
    · exact .inr rfl
  cases t with
  | zero => exact .inl (by rw [List.mem_singleton.mp m] <;> rfl)
  | succ t =>
    have hm : b = firstB D p t ∨ b.word = "takes" ∨ b.word = "room" := by
      by_cases c : p = D.ks.length
      · rw [show bnds D p (t + 1) = [firstB D p t, ⟨"takes", some ((p : Int), (t : Int) - 1), D.ss.getD t 0⟩] from if_pos c] at m
        rcases List.mem_cons.mp m with z | z
        · exact .inl z
        · exact .inr (.inl (by rw [List.mem_singleton.mp z] <;> rfl))
      · rw [show bnds D p (t + 1) = [firstB D p t, ⟨"takes", some ((p : Int), (t : Int) - 1), (kt D p).2.getD t 0⟩, ⟨"room", some ((p : Int) + 1, (t : Int)), (kt D p).1⟩] from if_neg c] at m
        rcases List.mem_cons.mp m with z | z
        · exact .inl z
        · rcases List.mem_cons.mp z with z | z
          · exact .inr (.inl (by rw [z] <;> rfl))
          · exact .inr (.inr (by rw [List.mem_singleton.mp z] <;> rfl))
    rcases hm with z | z | z
    · rw [z]
      rcases f1 t with y | y
      · exact .inr (.inl y)
      · exact .inr (.inr (.inl y))
    · exact .inr (.inr (.inr (.inl z)))
    · exact .inr (.inr (.inr (.inr z)))
def smallE (e : Str × Nat × Nat) : Prop := (e.1.length ≤ 10 ∧ (∀ c ∈ TL.tl e.1, c < 128) ∧ PyData.weight (.str e.1) ≤ 10) ∧ e.2.1 ≤ 100 ∧ e.2.2 ≤ 100
theorem Chain.small {D : Dy} {p t : Nat} {l : List (Str × Nat × Nat)} {m : Int} (c : Chain D p t l m) (hp : p ≤ 100) (hk : D.ks.length ≤ 100) (ht : t ≤ 100) : ∀ e ∈ l, smallE e := by
  have one : ∀ {p t : Nat} {b : Bd}, b ∈ bnds D p t → p ≤ 100 → t ≤ 100 → smallE (b.word, p, t) := fun {p t b} mb h1 h2 => by
    refine ⟨?_, h1, h2⟩
    show b.word.length ≤ 10 ∧ (∀ c ∈ TL.tl b.word, c < 128) ∧ PyData.weight (.str b.word) ≤ 10
    rcases bnds_word mb with e | e | e | e | e <;> rw [e] <;> exact ⟨by decide +kernel, by decide +kernel, by decide +kernel⟩
  induction c with
  | last mb nl =>
    intro e he
    rw [List.mem_singleton.mp he]
    exact one mb hp ht
  | step mb sl pk tt c ih =>
    intro e he
    rcases List.mem_cons.mp he with z | z
    · rw [z]
      exact one mb hp ht
    · exact ih (by omega) (by omega) e z
theorem Chain.pos {D : Dy} {p t : Nat} {l : List (Str × Nat × Nat)} {m : Int} (c : Chain D p t l m) : 1 ≤ l.length := by
  cases c <;> (rw [List.length_cons]; omega)
theorem wt7 {i : Int} (h : i.natAbs < 2 ^ 7) : PyData.weight (.int i) ≤ 7 := by
  show (if i == 0 then 0 else i.natAbs.log2 + 1) ≤ 7
  by_cases c : i = 0
  · rw [c]
    decide
  · rw [if_neg (by simpa using c)]
    have := (Nat.log2_lt (show i.natAbs ≠ 0 by omega)).mpr h
    omega
theorem PaperAt.fr {H H' : Hp} {p : Addr} {n : Nat} {rs : List Addr} {l : List (Str × Nat × Nat)} (h : PaperAt H rs l) (B : BoxAt H p n) (F : Fr p H H') : PaperAt H' rs l := ⟨h.1, fun j r e a b => F _ _ (B.ne (h.2 j r e a b)) (h.2 j r e a b)⟩
theorem wt_small {e : Str × Nat × Nat} (s : smallE e) : PyData.weight (dpB e) ≤ 31 := by
  obtain ⟨⟨_, _, w⟩, h1, h2⟩ := s
  have g : ∀ i : Int, i.natAbs < 2 ^ 7 → PyData.weight (.int i) ≤ 7 := fun i h => by
    show (if i == 0 then 0 else i.natAbs.log2 + 1) ≤ 7
    by_cases c : i = 0
    · rw [c]
      decide
    · rw [if_neg (by simpa using c)]
      have := (Nat.log2_lt (show i.natAbs ≠ 0 by omega)).mpr h
      omega
  have a := g (e.2.1 : Int) (by omega)
  have b := g ((e.2.2 : Int) - 1) (by omega)
  show PyData.weight (.str e.1) + 1 + (PyData.weight (.int (e.2.1 : Int)) + 1 + (PyData.weight (.int ((e.2.2 : Int) - 1)) + 1 + 0)) ≤ 31
  omega
theorem papTg {K : PySem.W.Frag} {Av : Addr → Prop} {H : Hp} {rs : List Addr} {l : List (Str × Nat × Nat)} (h : PaperAt H rs l) (s : ∀ e ∈ l, smallE e) : TgAll K Av H 1000000 1 (rs.map V.ref) (l.map dpB) := by
  refine ⟨by rw [List.length_map, List.length_map, h.1], fun i x d e1 e2 => ?_⟩
  rw [List.getElem?_map] at e1 e2
  obtain ⟨r, er, rfl⟩ := Option.map_eq_some_iff.mp e1
  obtain ⟨e, ee, rfl⟩ := Option.map_eq_some_iff.mp e2
  have hr := h.2 i r e er ee
  obtain ⟨⟨l1, c1, w1⟩, h1, h2⟩ := s e (List.mem_of_getElem? ee)
  exact .tup (SqT.of hr) rfl (TgAll.cons (.str _ _ 0 l1 c1) (.cons (.int _ _ (by omega)) (.cons (.int _ _ (by omega)) .nil))).2
theorem wa_pap : ∀ {l : List (Str × Nat × Nat)}, (∀ e ∈ l, smallE e) → PyData.weightAll (l.map dpB) ≤ 32 * l.length
  | [], _ => Nat.zero_le _
  | e :: l, s => by
    have a := wt_small (s e List.mem_cons_self)
    have b := wa_pap (l := l) fun e h => s e (List.mem_cons_of_mem _ h)
    rw [List.map_cons, List.length_cons]
    show PyData.weight (dpB e) + 1 + PyData.weightAll (l.map dpB) ≤ _
    omega
end KR
namespace KR
open PySem PySem.Spec PyProof.Rows L2
def top (i : Nat) : Stmt := PySem.Challenge.pw_kettlerow_k66_papers_spoilt_anywhere.main.body.getD i (.Pass ⟨0, 0, 0, 0⟩)
abbrev s_p_places_in : Stmt := top 2
theorem sc_p_places_in : FnScope ["day"] ["day"] (defScope s_p_places_in) := ⟨rfl, rfl, rfl, by decide +kernel, rfl, by decide +kernel, by decide +kernel⟩
abbrev s_p_hours_in : Stmt := top 3
theorem sc_p_hours_in : FnScope ["day"] ["day"] (defScope s_p_hours_in) := ⟨rfl, rfl, rfl, by decide +kernel, rfl, by decide +kernel, by decide +kernel⟩
abbrev s_p_end_of : Stmt := top 4
theorem sc_p_end_of : FnScope ["day"] ["day"] (defScope s_p_end_of) := ⟨rfl, rfl, rfl, by decide +kernel, rfl, by decide +kernel, by decide +kernel⟩
abbrev s_p_bounds_at : Stmt := top 5
theorem sc_p_bounds_at : FnScope ["day", "place", "hour", "comes", "kettles", "strikes", "bounds", "room", "takes"] ["day", "place", "hour"] (defScope s_p_bounds_at) := ⟨rfl, rfl, rfl, by decide +kernel, rfl, by decide +kernel, by decide +kernel⟩
abbrev s_p_reached : Stmt := top 6
theorem sc_p_reached : FnScope ["taken", "bound", "lead", "more"] ["taken", "bound"] (defScope s_p_reached) := ⟨rfl, rfl, rfl, by decide +kernel, rfl, by decide +kernel, by decide +kernel⟩
abbrev s_p_is_number : Stmt := top 8
theorem sc_p_is_number : FnScope ["thing"] ["thing"] (defScope s_p_is_number) := ⟨rfl, rfl, rfl, by decide +kernel, rfl, by decide +kernel, by decide +kernel⟩
abbrev s_p_shows_most : Stmt := top 10
theorem sc_p_shows_most : FnScope ["day", "many", "thing", "lead", "told", "bound", "bounds", "more"] ["day", "many", "thing"] (defScope s_p_shows_most) := ⟨rfl, rfl, rfl, by decide +kernel, rfl, by decide +kernel, by decide +kernel⟩
abbrev s_p__is_bound_of : Stmt := top 11
theorem sc_p__is_bound_of : FnScope ["thing", "lead", "word", "place", "hour"] ["thing", "lead"] (defScope s_p__is_bound_of) := ⟨rfl, rfl, rfl, by decide +kernel, rfl, by decide +kernel, by decide +kernel⟩
abbrev s_p_most_struck : Stmt := top 13
theorem sc_p_most_struck : FnScope ["day", "taken", "paper", "lead", "word", "behind"] ["day"] (defScope s_p_most_struck) := ⟨rfl, rfl, rfl, by decide +kernel, rfl, by decide +kernel, by decide +kernel⟩
abbrev s_p__most_taken : Stmt := top 14
theorem sc_p__most_taken : FnScope ["day", "taken", "hour", "place", "bounds", "bound"] ["day"] (defScope s_p__most_taken) := ⟨rfl, rfl, rfl, by decide +kernel, rfl, by decide +kernel, by decide +kernel⟩
abbrev s_p__tight_bound : Stmt := top 15
theorem sc_p__tight_bound : FnScope ["day", "taken", "lead", "place", "hour", "bounds", "tight", "word"] ["day", "taken", "lead"] (defScope s_p__tight_bound) := ⟨rfl, rfl, rfl, by decide +kernel, rfl, by decide +kernel, by decide +kernel⟩
abbrev s_l_cell_at : Stmt := top 17
theorem sc_l_cell_at : FnScope ["_law_script", "_law_k"] ["_law_script", "_law_k"] (defScope s_l_cell_at) := ⟨rfl, rfl, rfl, by decide +kernel, rfl, by decide +kernel, by decide +kernel⟩
abbrev s_l_box : Stmt := top 18
theorem sc_l_box : FnScope ["_law_script", "_law_k", "_law_cell"] ["_law_script", "_law_k"] (defScope s_l_box) := ⟨rfl, rfl, rfl, by decide +kernel, rfl, by decide +kernel, by decide +kernel⟩
abbrev s_l_take : Stmt := top 19
theorem sc_l_take : FnScope ["_law_box_here", "_law_many", "_law_found", "_law_once", "_law_twice"] ["_law_box_here", "_law_many"] (defScope s_l_take) := ⟨rfl, rfl, rfl, by decide +kernel, rfl, by decide +kernel, by decide +kernel⟩
abbrev s_l_ladles : Stmt := top 20
theorem sc_l_ladles : FnScope ["_law_box_here", "_law_hours", "_law_wide", "_law_way", "_law_hour"] ["_law_box_here", "_law_hours", "_law_wide"] (defScope s_l_ladles) := ⟨rfl, rfl, rfl, by decide +kernel, rfl, by decide +kernel, by decide +kernel⟩
abbrev s_l_day : Stmt := top 21
theorem sc_l_day : FnScope ["_law_box_here", "_law_hours", "_law_pots", "_law_wide", "_law_kettles", "_law_place", "_law_room", "_law_takes"] ["_law_box_here", "_law_hours", "_law_pots", "_law_wide"] (defScope s_l_day) := ⟨rfl, rfl, rfl, by decide +kernel, rfl, by decide +kernel, by decide +kernel⟩
abbrev s_l_some_day : Stmt := top 22
theorem sc_l_some_day : FnScope ["_law_box_here", "_law_hours", "_law_pots"] ["_law_box_here"] (defScope s_l_some_day) := ⟨rfl, rfl, rfl, by decide +kernel, rfl, by decide +kernel, by decide +kernel⟩
abbrev s_l_is_number : Stmt := top 23
theorem sc_l_is_number : FnScope ["_law_thing"] ["_law_thing"] (defScope s_l_is_number) := ⟨rfl, rfl, rfl, by decide +kernel, rfl, by decide +kernel, by decide +kernel⟩
abbrev s_l_is_paper : Stmt := top 24
theorem sc_l_is_paper : FnScope ["_law_day_here", "_law_many", "_law_thing", "_law_comes", "_law_kettles", "_law_strikes", "_law_place", "_law_hour", "_law_total", "_law_one", "_law_word"] ["_law_day_here", "_law_many", "_law_thing"] (defScope s_l_is_paper) := ⟨rfl, rfl, rfl, by decide +kernel, rfl, by decide +kernel, by decide +kernel⟩
abbrev s_l_bent : Stmt := top 25
theorem sc_l_bent : FnScope ["_law_box_here", "_law_thing", "_law_deep", "_law_some", "_law_row", "_law_at", "_law_way"] ["_law_box_here", "_law_thing", "_law_deep"] (defScope s_l_bent) := ⟨rfl, rfl, rfl, by decide +kernel, rfl, by decide +kernel, by decide +kernel⟩
abbrev s_l_made : Stmt := top 26
theorem sc_l_made : FnScope ["_law_box_here", "_law_deep", "_law_way", "_law_some", "_law_k"] ["_law_box_here", "_law_deep"] (defScope s_l_made) := ⟨rfl, rfl, rfl, by decide +kernel, rfl, by decide +kernel, by decide +kernel⟩
abbrev s_l_walked : Stmt := top 27
theorem sc_l_walked : FnScope ["_law_box_here", "_law_day_here", "_law_comes", "_law_kettles", "_law_strikes", "_law_place", "_law_hour", "_law_total", "_law_paper", "_law_some", "_law_word"] ["_law_box_here", "_law_day_here"] (defScope s_l_walked) := ⟨rfl, rfl, rfl, by decide +kernel, rfl, by decide +kernel, by decide +kernel⟩
abbrev s_l_otherwise : Stmt := top 28
theorem sc_l_otherwise : FnScope ["_law_box_here", "_law_paper", "_law_at", "_law_word", "_law_place", "_law_hour", "_law_words", "_law_some"] ["_law_box_here", "_law_paper"] (defScope s_l_otherwise) := ⟨rfl, rfl, rfl, by decide +kernel, rfl, by decide +kernel, by decide +kernel⟩
abbrev s_p_law : Stmt := top 29
theorem sc_p_law : FnScope ["_law_script", "_law_k", "_law_box_here", "_law_day_here", "_law_loose", "_law_room", "_law_takes", "_law_many", "_law_paper", "_law_papers", "_law_turn", "_law_thing", "_law_seen", "_law_number", "_law_told"] ["_law_script"] (defScope s_p_law) := ⟨rfl, rfl, rfl, by decide +kernel, rfl, by decide +kernel, by decide +kernel⟩
structure All (K : PySem.W.Frag) (mg : Str → Option Value) where
  f_p_places_in : Addr
  fd_p_places_in : FuncData
  d_p_places_in : Def K mg "places_in" s_p_places_in f_p_places_in fd_p_places_in ["day"]
  f_p_hours_in : Addr
  fd_p_hours_in : FuncData
  d_p_hours_in : Def K mg "hours_in" s_p_hours_in f_p_hours_in fd_p_hours_in ["day"]
  f_p_end_of : Addr
  fd_p_end_of : FuncData
  d_p_end_of : Def K mg "end_of" s_p_end_of f_p_end_of fd_p_end_of ["day"]
  f_p_bounds_at : Addr
  fd_p_bounds_at : FuncData
  d_p_bounds_at : Def K mg "bounds_at" s_p_bounds_at f_p_bounds_at fd_p_bounds_at ["day", "place", "hour"]
  f_p_reached : Addr
  fd_p_reached : FuncData
  d_p_reached : Def K mg "reached" s_p_reached f_p_reached fd_p_reached ["taken", "bound"]
  f_p_is_number : Addr
  fd_p_is_number : FuncData
  d_p_is_number : Def K mg "is_number" s_p_is_number f_p_is_number fd_p_is_number ["thing"]
  f_p_shows_most : Addr
  fd_p_shows_most : FuncData
  d_p_shows_most : Def K mg "shows_most" s_p_shows_most f_p_shows_most fd_p_shows_most ["day", "many", "thing"]
  f_p__is_bound_of : Addr
  fd_p__is_bound_of : FuncData
  d_p__is_bound_of : Def K mg "_is_bound_of" s_p__is_bound_of f_p__is_bound_of fd_p__is_bound_of ["thing", "lead"]
  f_p_most_struck : Addr
  fd_p_most_struck : FuncData
  d_p_most_struck : Def K mg "most_struck" s_p_most_struck f_p_most_struck fd_p_most_struck ["day"]
  f_p__most_taken : Addr
  fd_p__most_taken : FuncData
  d_p__most_taken : Def K mg "_most_taken" s_p__most_taken f_p__most_taken fd_p__most_taken ["day"]
  f_p__tight_bound : Addr
  fd_p__tight_bound : FuncData
  d_p__tight_bound : Def K mg "_tight_bound" s_p__tight_bound f_p__tight_bound fd_p__tight_bound ["day", "taken", "lead"]
  f_l_cell_at : Addr
  fd_l_cell_at : FuncData
  d_l_cell_at : Def K mg "_law_cell_at" s_l_cell_at f_l_cell_at fd_l_cell_at ["_law_script", "_law_k"]
  f_l_box : Addr
  fd_l_box : FuncData
  d_l_box : Def K mg "_law_box" s_l_box f_l_box fd_l_box ["_law_script", "_law_k"]
  f_l_take : Addr
  fd_l_take : FuncData
  d_l_take : Def K mg "_law_take" s_l_take f_l_take fd_l_take ["_law_box_here", "_law_many"]
  f_l_ladles : Addr
  fd_l_ladles : FuncData
  d_l_ladles : Def K mg "_law_ladles" s_l_ladles f_l_ladles fd_l_ladles ["_law_box_here", "_law_hours", "_law_wide"]
  f_l_day : Addr
  fd_l_day : FuncData
  d_l_day : Def K mg "_law_day" s_l_day f_l_day fd_l_day ["_law_box_here", "_law_hours", "_law_pots", "_law_wide"]
  f_l_some_day : Addr
  fd_l_some_day : FuncData
  d_l_some_day : Def K mg "_law_some_day" s_l_some_day f_l_some_day fd_l_some_day ["_law_box_here"]
  f_l_is_number : Addr
  fd_l_is_number : FuncData
  d_l_is_number : Def K mg "_law_is_number" s_l_is_number f_l_is_number fd_l_is_number ["_law_thing"]
  f_l_is_paper : Addr
  fd_l_is_paper : FuncData
  d_l_is_paper : Def K mg "_law_is_paper" s_l_is_paper f_l_is_paper fd_l_is_paper ["_law_day_here", "_law_many", "_law_thing"]
  f_l_bent : Addr
  fd_l_bent : FuncData
  d_l_bent : Def K mg "_law_bent" s_l_bent f_l_bent fd_l_bent ["_law_box_here", "_law_thing", "_law_deep"]
  f_l_made : Addr
  fd_l_made : FuncData
  d_l_made : Def K mg "_law_made" s_l_made f_l_made fd_l_made ["_law_box_here", "_law_deep"]
  f_l_walked : Addr
  fd_l_walked : FuncData
  d_l_walked : Def K mg "_law_walked" s_l_walked f_l_walked fd_l_walked ["_law_box_here", "_law_day_here"]
  f_l_otherwise : Addr
  fd_l_otherwise : FuncData
  d_l_otherwise : Def K mg "_law_otherwise" s_l_otherwise f_l_otherwise fd_l_otherwise ["_law_box_here", "_law_paper"]
  f_p_law : Addr
  fd_p_law : FuncData
  d_p_law : Def K mg "law" s_p_law f_p_law fd_p_law ["_law_script"]
  b_abs : mg "abs" = none
  b_bool : mg "bool" = none
  b_int : mg "int" = none
  b_isinstance : mg "isinstance" = none
  b_len : mg "len" = none
  b_list : mg "list" = none
  b_max : mg "max" = none
  b_min : mg "min" = none
  b_range : mg "range" = none
  b_repr : mg "repr" = none
  b_reversed : mg "reversed" = none
  b_str : mg "str" = none
  b_sum : mg "sum" = none
  b_tuple : mg "tuple" = none
  t_AHEAD_OF_ALL : Tok
  c_AHEAD_OF_ALL : mg "AHEAD_OF_ALL" = some (.int (-1) t_AHEAD_OF_ALL)
end KR
namespace KR
open PySem PySem.Spec PyProof.Rows L2
section
variable {P : Program} {w : World} {K : PySem.W.Frag} {mg : Str → Option Value} {base : Heap}
def sp_l_cell_at (K : PySem.W.Frag) : Sp := fun vs H Q _ => ∃ (a : Addr) (ns : List Int) (k : Int), vs = [.ref a, .int k] ∧ SqL K H a (ns.map V.int) ∧ 0 ≤ k ∧ ∀ z : Int, Q (.int z) H
theorem ok_l_cell_at (T : All K mg) : FnOk P w K mg base CX0 1 T.f_l_cell_at T.fd_l_cell_at ["_law_script", "_law_k"] (sp_l_cell_at K) := by
  refine T.d_l_cell_at.fn.ok sc_l_cell_at (fun vs H Q E h => ?_) (fun cdv A outer s H vs Q E hr h => ?_)
  · obtain ⟨a, ns, k, rfl, _⟩ := h
    rfl
  · obtain ⟨a, ns, k, rfl, hS, h0, q⟩ := h
    refine ⟨_, (pss_cons (ps_if (pt_cmpR op_lt (pv 1) (pe_callB (lenQ (K := K) rfl) (by rfl) T.b_len PySem.boot_len (pa_cons (pv 0) pa_nil)) (nomark _)) (pss_one (ps_ret (pe_ix (ixL (K := K) rfl) (pv 0) (pv 1) (fun _ _ => rfl)))) pss_nil)
      (pss_one (ps_ret pe_int))), ?_⟩
    refine ⟨_, rfl, _, rfl, a, _, rfl, .inl hS, _, _, rfl, rfl, _, rfl, ite2 (fun c => ?_) (fun c => ?_)⟩
    · have c1 : k < ((ns.map V.int).length : Int) := of_decide_eq_true c
      rw [List.length_map] at c1
      refine ⟨_, rfl, _, rfl, a, _, k, _, rfl, rfl, hS, at_of (j := k.toNat) (by omega) (by rw [List.getElem?_map, List.getElem?_eq_getElem (show k.toNat < ns.length by omega)]; rfl), ?_⟩
      exact q _
    · exact q _

end
end KR
namespace KR
open PySem PySem.Spec PyProof.Rows L2
section
variable {P : Program} {w : World} {K : PySem.W.Frag} {mg : Str → Option Value} {base : Heap}
def sp_l_box (K : PySem.W.Frag) : Sp := fun vs H Q _ => ∃ (a : Addr) (ns : List Int) (k : Int), vs = [.ref a, .int k] ∧ SqL K H a (ns.map V.int) ∧ 0 ≤ k ∧ k ≤ 63 ∧ ∀ p H', Same H H' → H p = none → BoxAt H' p 0 → Q (.ref p) H'
theorem ok_l_box (T : All K mg) : FnOk P w K mg base CX0 2 T.f_l_box T.fd_l_box ["_law_script", "_law_k"] (sp_l_box K) := by
  refine T.d_l_box.fn.ok sc_l_box (fun vs H Q E h => ?_) (fun cdv A outer s H vs Q E hr h => ?_)
  · obtain ⟨a, ns, k, rfl, _⟩ := h
    rfl
  · obtain ⟨a, ns, k, rfl, hS, h0, h1, q⟩ := h
    refine ⟨_, (pss_cons (ps_set (i := 2) sc_l_box.nd rfl (by first | exact Or.inl rfl | exact Or.inr rfl) (pe_call (ok_l_cell_at T) hr (by rfl) T.d_l_cell_at.mg T.d_l_cell_at.fn.kp T.d_l_cell_at.b .nil pass0 (pa_cons (pv 0) (pa_cons (pv 1) pa_nil))))
      (pss_one (ps_ret (pe_lstI (pa_cons (pe_op op_mulX (pe_callB call_abs (by rfl) T.b_abs (by decide +kernel) (pa_cons (pv 2) pa_nil)) (pe_callTy call_int1 (by rfl) T.b_int (by decide +kernel) (pa_cons (pe_cmpR op_ge (pe_callB call_abs (by rfl) T.b_abs (by decide +kernel) (pa_cons (pv 2) pa_nil)) (pe_op op_pow pe_int pe_int) (nomark _)) pa_nil))) (pa_cons (pe_op op_add (pe_op op_add (pe_op op_mod (pv 2) pe_int) (pe_op op_mulX pe_int (pv 1))) pe_int) (pa_cons pe_int pa_nil))))))), ?_⟩
    refine ⟨_, rfl, _, rfl, a, ns, k, rfl, hS, h0, fun z => ?_⟩
    refine ⟨_, rfl, _, rfl, _, rfl, _, rfl, _, _, rfl, rfl, ⟨by decide, by decide, by decide⟩, _, _, rfl, rfl, .inr ⟨_, rfl, ?_⟩⟩
    refine ⟨_, _, rfl, rfl, mulR bit_lt, ?_⟩
    refine ⟨_, rfl, _, _, rfl, rfl, (by show (0 : Int) < 2305843009213693951; decide), _, rfl, _, _, rfl, rfl, mulL (by decide), _, _, rfl, rfl, _, _, rfl, rfl, rfl, fun p H1 s1 hp h1 => ?_⟩
    refine q p _ s1 hp ⟨_, _, _, h1, ?_, ?_, ?_, by decide, by decide⟩
    · refine Int.mul_nonneg (by split <;> omega) bit_nn
    · omega
    · omega

end
end KR
namespace KR
open PySem PySem.Spec PyProof.Rows L2
section
variable {P : Program} {w : World} {K : PySem.W.Frag} {mg : Str → Option Value} {base : Heap}
def sp_l_take : Sp := fun vs H Q _ => ∃ (p : Addr) (m : Int) (n : Nat), vs = [.ref p, .int m] ∧ BoxAt H p n ∧ n ≤ 1000000000 ∧ 0 < m ∧ m.natAbs < 2 ^ 200 ∧ ∀ (z : Int) (H' : Hp), 0 ≤ z → z < m → BoxAt H' p (n + 1) → Fr p H H' → Q (.int z) H'
theorem ok_l_take (T : All K mg) : FnOk P w K mg base CX0 1 T.f_l_take T.fd_l_take ["_law_box_here", "_law_many"] sp_l_take := by
  refine T.d_l_take.fn.ok sc_l_take (fun vs H Q E h => ?_) (fun cdv A outer s H vs Q E hr h => ?_)
  · obtain ⟨p, m, n, rfl, _⟩ := h
    rfl
  · obtain ⟨p, m, n, rfl, hB, hn, h0, hm, q⟩ := h
    obtain ⟨a, b, c, hp, ha, hb, hb2, hc, hcn⟩ := hB
    refine ⟨_, (pss_cons (ps_if (pt_cmpR op_gt (pe_ix (ixL (K := K) rfl) (pv 0) pe_int (fun _ _ => rfl)) pe_int (nomark _)) (pss_cons (ps_set (i := 2) sc_l_take.nd rfl (by first | exact Or.inl rfl | exact Or.inr rfl) (pe_op op_mod (pe_ix (ixL (K := K) rfl) (pv 0) pe_int (fun _ _ => rfl)) (pv 1)))
      (pss_cons (ps_asg (pe_op op_fdivW (pe_ix (ixL (K := K) rfl) (pv 0) pe_int (fun _ _ => rfl)) (pv 1)) (pg_sub (pv 0) pe_int set_list))
      (pss_one (ps_ret (pv 2))))) pss_nil)
      (pss_cons (ps_asg (pe_op op_add (pe_ix (ixL (K := K) rfl) (pv 0) pe_int (fun _ _ => rfl)) pe_int) (pg_sub (pv 0) pe_int set_list))
      (pss_cons (ps_set (i := 3) sc_l_take.nd rfl (by first | exact Or.inl rfl | exact Or.inr rfl) (pe_op op_mod (pe_op op_mulX (pe_op op_add (pe_ix (ixL (K := K) rfl) (pv 0) pe_int (fun _ _ => rfl)) (pe_op op_mulX pe_int (pe_ix (ixL (K := K) rfl) (pv 0) pe_int (fun _ _ => rfl)))) (pe_op op_add pe_int (pe_ix (ixL (K := K) rfl) (pv 0) pe_int (fun _ _ => rfl)))) pe_int))
      (pss_cons (ps_set (i := 4) sc_l_take.nd rfl (by first | exact Or.inl rfl | exact Or.inr rfl) (pe_op op_mod (pe_op op_mulX (pe_op op_add (pv 3) (pe_ix (ixL (K := K) rfl) (pv 0) pe_int (fun _ _ => rfl))) (pe_op op_add (pe_op op_mod (pv 3) pe_int) pe_int)) pe_int))
      (pss_one (ps_ret (pe_op op_mod (pe_op op_fdivW (pe_op op_mod (pe_op op_add (pe_op op_mulX (pv 4) pe_int) (pv 3)) pe_int) pe_int) (pv 1)))))))), ?_⟩
    refine ⟨_, rfl, p, _, 0, _, rfl, rfl, SqL.of hp, at0, _, _, rfl, rfl, _, rfl, ite2 (fun c1 => ?_) (fun c1 => ?_)⟩
    · refine ⟨_, rfl, p, _, 0, _, rfl, rfl, SqL.of hp, at0, _, rfl, _, _, rfl, rfl, h0, ?_⟩
      refine ⟨_, rfl, p, _, 0, _, rfl, rfl, SqL.of hp, at0, _, rfl, _, _, rfl, rfl, wide_div h0 hm (by decide) (by decide), ?_⟩
      refine ⟨_, rfl, p, _, 0, 0, rfl, rfl, hp, rfl, ?_⟩
      refine ⟨_, rfl, ?_⟩
      refine q _ _ (Int.emod_nonneg _ (by omega)) (Int.emod_lt_of_pos _ h0) ⟨_, _, _, upd_same, ?_, hb, hb2, hc, by omega⟩ (Fr.put Fr.refl)
      exact Int.ediv_nonneg ha (by omega)
    · refine ⟨_, rfl, p, _, 2, _, rfl, rfl, SqL.of hp, at2, _, _, rfl, rfl, _, rfl, p, _, 2, 2, rfl, rfl, hp, rfl, ?_⟩
      have hp2 : (upd H p (.lst [.int a, .int b, .int (c + 1)])) p = some (.lst [.int a, .int b, .int (c + 1)]) := upd_same
      refine ⟨_, rfl, p, _, 1, _, rfl, rfl, SqL.of hp2, at1, _, rfl, p, _, 2, _, rfl, rfl, SqL.of hp2, at2, _, _, rfl, rfl, mulL (by decide), _, _, rfl, rfl, ?_⟩
      refine ⟨_, rfl, p, _, 2, _, rfl, rfl, SqL.of hp2, at2, _, _, rfl, rfl, _, _, rfl, rfl, mulL (by omega), _, _, rfl, rfl, (by show (0 : Int) < 2147483647; decide), ?_⟩
      generalize e1 : (b + 48271 * (c + 1)) * (39373 + (c + 1)) % 2147483647 = o
      have o1 : 0 ≤ o ∧ o < 2147483647 := by omega
      refine ⟨_, rfl, _, rfl, p, _, 2, _, rfl, rfl, SqL.of hp2, at2, _, _, rfl, rfl, _, rfl, _, _, rfl, rfl, (by show (0 : Int) < 40009; decide), _, _, rfl, rfl, _, _, rfl, rfl, mulL (by omega), _, _, rfl, rfl, (by show (0 : Int) < 2147483629; decide), ?_⟩
      generalize e2 : (o + (c + 1)) * (o % 40009 + 7) % 2147483629 = t
      have t1 : 0 ≤ t ∧ t < 2147483629 := by omega
      refine ⟨_, rfl, _, _, rfl, rfl, mulL (by omega), _, rfl, _, _, rfl, rfl, _, _, rfl, rfl, (by show (0 : Int) < 2147483587; decide), _, _, rfl, rfl, wide_div (b := 10) (by decide) (by decide) (by decide) (by decide), _, rfl, _, _, rfl, rfl, h0, ?_⟩
      exact q _ _ (Int.emod_nonneg _ (by omega)) (Int.emod_lt_of_pos _ h0) ⟨_, _, _, upd_same, ha, hb, hb2, by omega, by omega⟩ (Fr.put Fr.refl)

end
end KR
namespace KR
open PySem PySem.Spec PyProof.Rows L2
section
variable {P : Program} {w : World} {K : PySem.W.Frag} {mg : Str → Option Value} {base : Heap}
def sp_l_ladles (K : PySem.W.Frag) : Sp := fun vs H Q _ => ∃ (p : Addr) (n h : Nat) (w : Int), vs = [.ref p, .int (h : Int), .int w] ∧ BoxAt H p n ∧ n ≤ 999990000 ∧ h ≤ 48 ∧ 0 ≤ w ∧ w ≤ 1000000 ∧ ∀ (f : Addr) (ns : List Int) (H' : Hp), H' f = some (.lst (ns.map V.int)) → ns.length = h → Ldl ns → BoxAt H' p (n + 150) → Fr p H H' → f ≠ p → H f = none → Q (.ref f) H'
theorem ok_l_ladles (T : All K mg) : FnOk P w K mg base CX0 2 T.f_l_ladles T.fd_l_ladles ["_law_box_here", "_law_hours", "_law_wide"] (sp_l_ladles K) := by
  refine T.d_l_ladles.fn.ok sc_l_ladles (fun vs H Q E h => ?_) (fun cdv A outer s H vs Q E hr h => ?_)
  · obtain ⟨p, n, h, w, rfl, _⟩ := h
    rfl
  · obtain ⟨p, n, h, w, rfl, hB, hn, h48, w0, w1, q⟩ := h
    refine ⟨_, (pss_cons (ps_set (i := 3) sc_l_ladles.nd rfl (by first | exact Or.inl rfl | exact Or.inr rfl) (pe_call (ok_l_take T) hr (by rfl) T.d_l_take.mg T.d_l_take.fn.kp T.d_l_take.b .nil pass0 (pa_cons (pv 0) (pa_cons pe_int pa_nil))))
      (pss_cons (ps_if (pt_cmpR op_lt (pv 3) pe_int (nomark _)) (pss_one (ps_ret (pe_op op_rep (pe_lstI (pa_cons (pe_ix (ixL (K := K) rfl) (pe_lstI (pa_cons (pv 2) (pa_cons pe_int pa_nil))) (pv 3) (fun _ _ => rfl)) pa_nil)) (pv 1)))) pss_nil)
      (pss_one (ps_ret (pe_lc (own := [("_law_hour", 4)]) (g := gName 4) (tt := tYes) (by rfl) sc_l_ladles.nd (pi_range1 (by rfl) T.b_range (pa_cons (pv 1) pa_nil)) (blkOk_by (own := [("_law_hour", 4)]) (N := ["_law_box_here", "_law_hours", "_law_wide", "_law_way", "_law_hour"]) (sc := defScope s_l_ladles) (by decide +kernel)) (fun _ _ _ _ _ => (pg_name (i := 4) sc_l_ladles.nd rfl (by first | exact Or.inl rfl | exact Or.inr rfl))) (fun _ _ _ _ _ => pts_nil) (fun _ _ _ _ _ => (pe_ix (ixL (K := K) rfl) (pe_lstI (pa_cons (pe_call (ok_l_take T) hr (by rfl) T.d_l_take.mg T.d_l_take.fn.kp T.d_l_take.b .nil pass0 (pa_cons (pv 0) (pa_cons (pe_op op_add (pv 2) pe_int) pa_nil))) (pa_cons pe_int (pa_cons (pv 2) (pa_cons (pe_call (ok_l_take T) hr (by rfl) T.d_l_take.mg T.d_l_take.fn.kp T.d_l_take.b .nil pass0 (pa_cons (pv 0) (pa_cons (pe_op op_add (pv 2) pe_int) pa_nil))) pa_nil))))) (pe_call (ok_l_take T) hr (by rfl) T.d_l_take.mg T.d_l_take.fn.kp T.d_l_take.b .nil pass0 (pa_cons (pv 0) (pa_cons pe_int pa_nil))) (fun _ _ => rfl)))))))), ?_⟩
    refine ⟨_, rfl, p, 6, n, rfl, hB, by omega, by decide, by decide, fun y H1 y0 y1 B1 F1 => ?_⟩
    refine ⟨_, rfl, _, _, rfl, rfl, _, rfl, ?_⟩
    by_cases c : y < 2
    · refine ite_bT (decide_eq_true c) ?_
      refine ⟨_, rfl, rfl, fun l1 H2 s2 n2 h2 => ?_⟩
      obtain ⟨z, ez, z0, z1⟩ : ∃ z : Int, atI ([.int w, .int 0] : List V) y = some (.int z) ∧ 0 ≤ z ∧ z ≤ 1000000 := by
        have cs : y = 0 ∨ y = 1 := by omega
        rcases cs with e | e <;> subst e
        · exact ⟨w, rfl, w0, w1⟩
        · exact ⟨0, rfl, by decide, by decide⟩
      refine ⟨_, rfl, l1, _, y, _, rfl, rfl, SqL.of h2, ez, rfl, fun l2 H3 s3 n3 h3 => ?_⟩
      refine ⟨_, rfl, l2, (h : Int), _, rfl, rfl, h3, by omega, by omega, by show 1 * _ ≤ _; rw [sizeLine_eq]; omega, fun f nf => ?_⟩
      rw [rep_ints h z]
      have B3 := (B1.same s2).same s3
      have F3 : Fr p H H3 := F1.trans (.of (s2.trans s3))
      have fp := B3.new nf
      refine q f (List.replicate h z) _ upd_same List.length_replicate (fun u hu => by rw [List.eq_of_mem_replicate hu]; exact ⟨z0, z1⟩) ((B3.same (same_new nf)).mono (by omega)) (F3.trans (.of (same_new nf))) fp (fr_new' F3 nf fp)
    · refine ite_bF (decide_eq_false c) ?_
      refine ⟨_, rfl, (h : Int), rfl, by omega, by omega, fun D hD => ?_⟩
      have Dp := B1.new hD
      have nD : H D = none := fr_new' F1 hD Dp
      refine lc_range (lo := 0) (n := h) (fun i H' => ∃ ns : List Int, Fr p H1 H' ∧ BoxAt H' p (n + 1 + 3 * i) ∧ H' D = some (.lst (ns.map V.int)) ∧ ns.length = i ∧ Ldl ns)
        ⟨[], .of (same_new hD), (B1.same (same_new hD)).mono (by omega), upd_same, rfl, fun z hz => absurd hz List.not_mem_nil⟩ (fun i H2 hi z => ?_) (fun H2 z => ?_)
      · obtain ⟨ns, F2, B2, hD2, ln, ok⟩ := z
        refine ⟨rfl, yesT ?_⟩
        refine ⟨_, rfl, _, rfl, _, _, rfl, rfl, p, w + 1, _, rfl, B2, by omega, by omega, by omega, fun a H3 a0 a1 B3 F3 => ?_⟩
        refine ⟨_, rfl, _, rfl, _, rfl, _, _, rfl, rfl, p, w + 1, _, rfl, B3, by omega, by omega, by omega, fun b H4 b0 b1 B4 F4 => ⟨rfl, fun l1 H5 s5 n5 h5 => ?_⟩⟩
        have B5 := B4.same s5
        have l1p := B4.new n5
        refine ⟨_, rfl, p, 4, _, rfl, B5, by omega, by decide, by decide, fun y2 H6 y20 y21 B6 F6 => ?_⟩
        obtain ⟨z, ez, z0, z1⟩ : ∃ z : Int, atI ([.int a, .int 0, .int w, .int b] : List V) y2 = some (.int z) ∧ 0 ≤ z ∧ z ≤ 1000000 := by
          have cs : y2 = 0 ∨ y2 = 1 ∨ y2 = 2 ∨ y2 = 3 := by omega
          rcases cs with e | e | e | e <;> subst e
          · exact ⟨a, rfl, a0, by omega⟩
          · exact ⟨0, rfl, by decide, by decide⟩
          · exact ⟨w, rfl, w0, w1⟩
          · exact ⟨b, rfl, b0, by omega⟩
        refine ⟨l1, _, y2, _, rfl, rfl, SqL.of (F6 _ _ l1p h5), ez, ?_⟩
        have F26 : Fr p H2 H6 := F3.trans (F4.trans ((Fr.of s5).trans F6))
        have hD6 := F26 _ _ Dp hD2
        refine ⟨_, hD6, by rw [List.length_map]; exact small' (by omega), ns ++ [z], (F2.trans F26).put' hD, (B6.upd Dp).mono (by omega), by rw [upd_same, List.map_append] <;> rfl, by rw [List.length_append, ln] <;> rfl, fun u hu => ?_⟩
        rcases List.mem_append.mp hu with g | g
        · exact ok u g
        · rw [List.mem_singleton.mp g]
          exact ⟨z0, z1⟩
      · obtain ⟨ns, F2, B2, hD2, ln, ok⟩ := z
        exact q D ns H2 hD2 ln ok (B2.mono (by omega)) (F1.trans F2) Dp nD

end
end KR
namespace KR
open PySem PySem.Spec PyProof.Rows L2
section
variable {P : Program} {w : World} {K : PySem.W.Frag} {mg : Str → Option Value} {base : Heap}
def sp_l_day (K : PySem.W.Frag) : Sp := fun vs H Q _ => ∃ (p : Addr) (n h k : Nat) (w : Int), vs = [.ref p, .int (h : Int), .int (k : Int), .int w] ∧ BoxAt H p n ∧ n ≤ 999980000 ∧ 1 ≤ h ∧ h ≤ 48 ∧ 1 ≤ k ∧ k ≤ 8 ∧ 1 ≤ w ∧ w ≤ 1000000 ∧
  ∀ (d : Addr) (x : DyP) (D : Dy) (H' : Hp), DayAt K H' p d x D → DyOk D → DyNn D → D.cs.length = h → D.ks.length = k → x.pc = true → x.pk = true → x.ps = true → BoxAt H' p (n + 2000) → Fr p H H' → Q (.ref d) H'
theorem ok_l_day (T : All K mg) : FnOk P w K mg base CX0 3 T.f_l_day T.fd_l_day ["_law_box_here", "_law_hours", "_law_pots", "_law_wide"] (sp_l_day K) := by
  refine T.d_l_day.fn.ok sc_l_day (fun vs H Q E h => ?_) (fun cdv A outer s H vs Q E hr h => ?_)
  · obtain ⟨p, n, h, k, w, rfl, _⟩ := h
    rfl
  · obtain ⟨p, n, h, k, w, rfl, hB, hn, h1, h48, k1, k8, w0, w1, q⟩ := h
    refine ⟨_, (pss_cons (ps_set (i := 4) sc_l_day.nd rfl (by first | exact Or.inl rfl | exact Or.inr rfl) (pe_lstI pa_nil))
      (pss_cons (ps_for PassesOwn.never rfl (pi_range1 (by rfl) T.b_range (pa_cons (pv 2) pa_nil)) (pg_name (i := 5) sc_l_day.nd rfl (by first | exact Or.inl rfl | exact Or.inr rfl)) (pss_one (ps_expr (pe_bm PySem.F.plainAttrs_list PySem.F.slot_list_append PySem.F.type_list_append mt_append (pv 4) (pa_cons (pe_tupI (pa_cons (pe_op op_add pe_int (pe_call (ok_l_take T) (hr.mono (by decide)) (by rfl) T.d_l_take.mg T.d_l_take.fn.kp T.d_l_take.b .nil pass0 (pa_cons (pv 0) (pa_cons (pe_ix (ixL (K := K) rfl) (pe_lstI (pa_cons pe_int (pa_cons (pv 3) (pa_cons (pe_op op_mulX pe_int (pv 3)) pa_nil)))) (pe_call (ok_l_take T) (hr.mono (by decide)) (by rfl) T.d_l_take.mg T.d_l_take.fn.kp T.d_l_take.b .nil pass0 (pa_cons (pv 0) (pa_cons pe_int pa_nil))) (fun _ _ => rfl)) pa_nil)))) (pa_cons (pe_call (ok_l_ladles T) hr (by rfl) T.d_l_ladles.mg T.d_l_ladles.fn.kp T.d_l_ladles.b .nil pass0 (pa_cons (pv 0) (pa_cons (pv 1) (pa_cons (pv 3) pa_nil)))) pa_nil))) pa_nil)))))
      (pss_cons (ps_setLc (i := 4) (own := [("_law_room", 6), ("_law_takes", 7)]) (g := gTup K 2 (gCons (gName 6) (gCons (gName 7) gNil))) (tt := tYes) (by rfl) sc_l_day.nd rfl rfl (sw_true rfl rfl rfl (by decide +kernel)) (pi_listK (K := K) rfl (pv 4)) (blkOk_by (own := [("_law_room", 6), ("_law_takes", 7)]) (N := ["_law_box_here", "_law_hours", "_law_pots", "_law_wide", "_law_kettles", "_law_place", "_law_room", "_law_takes"]) (sc := defScope s_l_day) (by decide +kernel)) (fun _ _ _ _ _ => (pg_tupK (K := K) rfl rfl (pgs_cons (pg_name (i := 6) sc_l_day.nd rfl (by first | exact Or.inl rfl | exact Or.inr rfl)) (pgs_cons (pg_name (i := 7) sc_l_day.nd rfl (by first | exact Or.inl rfl | exact Or.inr rfl)) pgs_nil)))) (fun _ _ _ _ _ => pts_nil) (fun _ _ _ _ _ => (pe_tupI (pa_cons (pe_callB (call_min2 rfl) (by rfl) T.b_min (by decide +kernel) (pa_cons (pe_op op_pow pe_int pe_int) (pa_cons (pv 6) pa_nil))) (pa_cons (pv 7) pa_nil)))))
      (pss_one (ps_ret (pe_tupI (pa_cons (pe_call (ok_l_ladles T) hr (by rfl) T.d_l_ladles.mg T.d_l_ladles.fn.kp T.d_l_ladles.b .nil pass0 (pa_cons (pv 0) (pa_cons (pv 1) (pa_cons (pv 3) pa_nil)))) (pa_cons (pv 4) (pa_cons (pe_call (ok_l_ladles T) hr (by rfl) T.d_l_ladles.mg T.d_l_ladles.fn.kp T.d_l_ladles.b .nil pass0 (pa_cons (pv 0) (pa_cons (pv 1) (pa_cons (pv 3) pa_nil)))) pa_nil))))))))), ?_⟩
    refine ⟨rfl, fun f H1 s1 n1 hf1 => ?_⟩
    have fp := hB.new n1
    refine ⟨_, rfl, k, rfl, by omega, by omega, for_range (lo := 0) (n := k) (fun i σ H' => ∃ (as : List Addr) (ks : List (Int × List Int)) (v5 : Option V), σ = [some (.ref p), some (.int (h : Int)), some (.int (k : Int)), some (.int w), some (.ref f), v5, none, none] ∧ H' f = some (.lst (as.map V.ref)) ∧ PotsF K H' p f as ks ∧ as.length = i ∧ (∀ k ∈ ks, 1 ≤ k.1 ∧ k.2.length = h ∧ Ldl k.2) ∧ BoxAt H' p (n + 160 * i) ∧ Fr p H H')
      ⟨[], [], none, rfl, hf1, .nil, rfl, fun k hk => absurd hk List.not_mem_nil, hB.same s1, .of s1⟩ ?_ ?_⟩
    · rintro i σ H2 hi ⟨as, ks, v5, rfl, hf, P, la, ok, B, F⟩
      refine ⟨_, rfl, .inl ⟨rfl, _, SqL.of hf⟩, ?_⟩
      refine ⟨_, rfl, _, rfl, _, rfl, _, _, rfl, rfl, mulL (by decide), rfl, fun l1 H3 s3 n3 h3 => ?_⟩
      have B3 := B.same s3
      have l1p := B.new n3
      refine ⟨_, rfl, p, 3, _, rfl, B3, by omega, by decide, by decide, fun y H4 y0 y1 B4 F4 => ?_⟩
      obtain ⟨m, em, m0, m1⟩ : ∃ m : Int, atI ([.int 1, .int w, .int (3 * w)] : List V) y = some (.int m) ∧ 1 ≤ m ∧ m ≤ 3000000 := by
        have cs : y = 0 ∨ y = 1 ∨ y = 2 := by omega
        rcases cs with e | e | e <;> subst e
        · exact ⟨1, rfl, by decide, by decide⟩
        · exact ⟨w, rfl, by omega, by omega⟩
        · exact ⟨3 * w, rfl, by omega, by omega⟩
      refine ⟨l1, _, y, _, rfl, rfl, SqL.of (F4 _ _ l1p h3), em, p, m, _, rfl, B4, by omega, by omega, by omega, fun r H5 r0 r1 B5 F5 => ⟨_, _, rfl, rfl, ?_⟩⟩
      have F25 : Fr p H2 H5 := (Fr.of s3).trans (F4.trans F5)
      have hf5 := F25 _ _ fp hf
      refine ⟨_, rfl, _, rfl, _, rfl, p, _, h, w, rfl, B5, by omega, h48, by omega, w1, fun t ns H6 ht ln nn B6 F6 tp nt => ?_⟩
      refine ⟨rfl, fun a H7 s7 n7 h7 => ?_⟩
      have tf : t ≠ f := (ne_of_none hf5 nt).symm
      have F27 : Fr p H2 H7 := (F25.trans F6).trans (.of s7)
      have hf7 := F27 _ _ fp hf
      refine ⟨f, _, _, rfl, rfl, hf7, by rw [List.length_map]; exact small' (by omega), ?_⟩
      refine ⟨as ++ [a], ks ++ [(1 + r, ns)], _, rfl, by rw [upd_same, List.map_append] <;> rfl, ?_, by rw [List.length_append, la] <;> rfl, fun k hk => ?_, ((B6.same s7).upd fp).mono (by omega), (F.trans F27).put' n1⟩
      · refine ((P.map fun a k z => z.fr B F27).snoc ⟨t, SqT.of h7, s7 _ _ ht, tp, tf⟩).map fun a k z => z.put hf7
      · rcases List.mem_append.mp hk with g | g
        · exact ok k g
        · rw [List.mem_singleton.mp g]
          exact ⟨by show 1 ≤ 1 + r; omega, ln, nn⟩
    · rintro σ H2 ⟨as, ks, v5, rfl, hf, P, la, ok, B, F⟩
      refine ⟨_, rfl, f, rfl, ⟨_, SqL.of hf⟩, fun g hg => ?_⟩
      have gp := B.new hg
      refine lc_it (walk_list (K := K) (a := f) (xs := as.map V.ref)) (fun j H' => ∃ (bs : List Addr) (js : List (Int × List Int)), Same H2 H' ∧ H' g = some (.lst (bs.map V.ref)) ∧ PotsF K H' p g bs js ∧ bs.length = j ∧ (∀ k ∈ js, 1 ≤ k.1 ∧ k.1 ≤ 1000000 ∧ k.2.length = h ∧ Ldl k.2))
        ⟨[], [], same_new hg, upd_same, .nil, rfl, fun k hk => absurd hk List.not_mem_nil⟩ (fun j H' _ ⟨_, _, s, _⟩ => SqL.of (s _ _ hf)) ?_ ?_
      · rintro j v H3 H4 hj ⟨bs, js, s3, hg3, P3, lb, ok3⟩ ⟨rfl, hv⟩
        rw [List.getElem?_map] at hv
        obtain ⟨a, ea, rfl⟩ := Option.map_eq_some_iff.mp hv
        obtain ⟨kk', ek, t, h1', h2', h3', h4'⟩ := P.get ea
        obtain ⟨o1, o2, o3⟩ := ok _ (List.mem_of_getElem? ek)
        rw [List.length_map] at hj
        refine ⟨a, _, rfl, Same.tup s3 h1', rfl, _, _, rfl, _, _, rfl, rfl, rfl, yesT ?_⟩
        refine ⟨_, _, rfl, rfl, ⟨by decide, by decide, by decide⟩, _, rfl, _, _, rfl, _, rfl, rfl, fun u H5 s5 n5 h5 => ?_⟩
        have hg5 := s5 _ _ hg3
        have tg : t ≠ g := ne_of_none h2' hg
        obtain ⟨rr, er, r1', r2'⟩ : ∃ rr : Int, (if kk'.1 < (10 : Int) ^ (6 : Int).toNat then kk'.1 else (10 : Int) ^ (6 : Int).toNat) = rr ∧ 1 ≤ rr ∧ rr ≤ 1000000 := by
          refine ⟨_, rfl, ?_, ?_⟩
          · split
            · exact o1
            · decide
          · split
            · have e6 : (10 : Int) ^ (6 : Int).toNat = 1000000 := by decide
              omega
            · decide
        have h5 : H5 u = some (.tup [.int (if kk'.1 < (10 : Int) ^ (6 : Int).toNat then kk'.1 else (10 : Int) ^ (6 : Int).toNat), .ref t]) := h5
        rw [er] at h5
        refine ⟨_, hg5, by rw [List.length_map]; exact small' (by omega), bs ++ [u], js ++ [(rr, kk'.2)], Same.put (s3.trans s5) hg, by rw [upd_same, List.map_append] <;> rfl, ?_, by rw [List.length_append, lb] <;> rfl, fun k hk => ?_⟩
        · refine ((P3.map fun a k z => z.same s5).snoc (show KtF K H5 p g u (rr, kk'.2) from ⟨t, SqT.of h5, (s3.trans s5) _ _ h2', h3', tg⟩)).map fun a k z => z.put hg5
        · rcases List.mem_append.mp hk with g' | g'
          · exact ok3 k g'
          · rw [List.mem_singleton.mp g']
            exact ⟨r1', r2', o2, o3⟩
      · rintro H3 ⟨bs, js, s3, hg3, P3, lb, ok3⟩
        rw [List.length_map, la] at lb
        have B3 := B.same s3
        have F3 : Fr p H H3 := F.trans (.of s3)
        refine ⟨_, rfl, _, rfl, _, rfl, p, _, h, w, rfl, B3, by omega, h48, by omega, w1, fun t1 ns1 H4 ht1 ln1 nn1 B4 F4 t1p nt1 => ?_⟩
        refine ⟨_, rfl, _, rfl, _, rfl, _, rfl, p, _, h, w, rfl, B4, by omega, h48, by omega, w1, fun t2 ns2 H5 ht2 ln2 nn2 B5 F5 t2p nt2 => ⟨rfl, fun d H6 s6 n6 h6 => ?_⟩⟩
        have F36 : Fr p H3 H6 := (F4.trans F5).trans (.of s6)
        have jl : js.length = k := by rw [← Paired.length P3, lb]
        refine q d ⟨t1, g, t2, true, true, true, bs⟩ ⟨ns1, js, ns2⟩ H6 ⟨SqT.of h6, ⟨SqL.of (s6 _ _ (F5 _ _ t1p ht1)), t1p⟩, SqL.of (F36 _ _ gp hg3), gp, ⟨SqL.of (s6 _ _ ht2), t2p⟩, Paired.length P3, (P3.map fun a k z => z.fr B3 F36).at_⟩ ⟨by show 1 ≤ ns1.length; omega, by show ns1.length ≤ 48; omega, by show 1 ≤ js.length; omega, by show js.length ≤ 8; omega, fun k hk => (ok3 k hk).2.2.1.trans ln1.symm, ln2.trans ln1.symm⟩ ⟨nn1, fun k hk => ⟨(ok3 k hk).1, (ok3 k hk).2.1, (ok3 k hk).2.2.2⟩, nn2⟩ ln1 jl rfl rfl rfl ((B5.same s6).mono (by omega)) (F3.trans F36)

end
end KR
namespace KR
open PySem PySem.Spec PyProof.Rows L2
section
variable {P : Program} {w : World} {K : PySem.W.Frag} {mg : Str → Option Value} {base : Heap}
def sp_l_some_day (K : PySem.W.Frag) : Sp := fun vs H Q _ => ∃ (p : Addr) (n : Nat), vs = [.ref p] ∧ BoxAt H p n ∧ n ≤ 999970000 ∧
  ∀ (d : Addr) (x : DyP) (D : Dy) (H' : Hp), DayAt K H' p d x D → DyOk D → DyNn D → x.pc = true → x.pk = true → x.ps = true → BoxAt H' p (n + 3000) → Fr p H H' → Q (.ref d) H'
theorem ok_l_some_day (T : All K mg) : FnOk P w K mg base CX0 4 T.f_l_some_day T.fd_l_some_day ["_law_box_here"] (sp_l_some_day K) := by
  refine T.d_l_some_day.fn.ok sc_l_some_day (fun vs H Q E h => ?_) (fun cdv A outer s H vs Q E hr h => ?_)
  · obtain ⟨p, n, rfl, _⟩ := h
    rfl
  · obtain ⟨p, n, rfl, hB, hn, q⟩ := h
    refine ⟨_, (pss_cons (ps_asg (pe_ix (ixL (K := K) rfl) (pe_lstI (pa_cons (pe_tupI (pa_cons (pe_op op_add pe_int (pe_call (ok_l_take T) (hr.mono (by decide)) (by rfl) T.d_l_take.mg T.d_l_take.fn.kp T.d_l_take.b .nil pass0 (pa_cons (pv 0) (pa_cons pe_int pa_nil)))) (pa_cons (pe_op op_add pe_int (pe_call (ok_l_take T) (hr.mono (by decide)) (by rfl) T.d_l_take.mg T.d_l_take.fn.kp T.d_l_take.b .nil pass0 (pa_cons (pv 0) (pa_cons pe_int pa_nil)))) pa_nil))) (pa_cons (pe_tupI (pa_cons pe_int (pa_cons pe_int pa_nil))) pa_nil))) (pe_callTy call_int1 (by rfl) T.b_int (by decide +kernel) (pa_cons (pe_cmpR op_eq (pe_call (ok_l_take T) (hr.mono (by decide)) (by rfl) T.d_l_take.mg T.d_l_take.fn.kp T.d_l_take.b .nil pass0 (pa_cons (pv 0) (pa_cons pe_int pa_nil))) pe_int (nomark _)) pa_nil)) (fun _ _ => rfl)) (pg_tupK (K := K) rfl rfl (pgs_cons (pg_name (i := 1) sc_l_some_day.nd rfl (by first | exact Or.inl rfl | exact Or.inr rfl)) (pgs_cons (pg_name (i := 2) sc_l_some_day.nd rfl (by first | exact Or.inl rfl | exact Or.inr rfl)) pgs_nil))))
      (pss_one (ps_ret (pe_call (ok_l_day T) hr (by rfl) T.d_l_day.mg T.d_l_day.fn.kp T.d_l_day.b .nil pass0 (pa_cons (pv 0) (pa_cons (pv 1) (pa_cons (pv 2) (pa_cons (pe_ix (ixL (K := K) rfl) (pe_lstI (pa_cons pe_int (pa_cons pe_int (pa_cons (pe_op op_pow pe_int pe_int) pa_nil)))) (pe_call (ok_l_take T) (hr.mono (by decide)) (by rfl) T.d_l_take.mg T.d_l_take.fn.kp T.d_l_take.b .nil pass0 (pa_cons (pv 0) (pa_cons pe_int pa_nil))) (fun _ _ => rfl)) pa_nil)))))))), ?_⟩
    refine ⟨_, rfl, p, 6, n, rfl, hB, by omega, by decide, by decide, fun a H1 a0 a1 B1 F1 => ⟨_, _, rfl, rfl, ?_⟩⟩
    obtain ⟨an, rfl⟩ : ∃ an : Nat, a = (an : Int) := ⟨a.toNat, by omega⟩
    refine ⟨_, rfl, p, 3, _, rfl, B1, by omega, by decide, by decide, fun b H2 b0 b1 B2 F2 => ⟨_, _, rfl, rfl, rfl, fun t1 H3 s3 n3 h3 => ?_⟩⟩
    obtain ⟨bn, rfl⟩ : ∃ bn : Nat, b = (bn : Int) := ⟨b.toNat, by omega⟩
    refine ⟨rfl, fun t2 H4 s4 n4 h4 => ⟨rfl, fun l1 H5 s5 n5 h5 => ?_⟩⟩
    have s35 := s3.trans (s4.trans s5)
    have B5 := B2.same s35
    have l1p := (B2.same (s3.trans s4)).new n5
    refine ⟨_, rfl, p, 8, _, rfl, B5, by omega, by decide, by decide, fun y H6 y0 y1 B6 F6 => ?_⟩
    obtain ⟨tt, hh, kk', ep, ht, a1', a2', a3', a4'⟩ : ∃ (tt : Addr) (hh kk' : Nat), atI ([.ref t1, .ref t2] : List V) (if decide (V.int y = V.int 0) = true then 1 else 0) = some (.ref tt) ∧ SqT K H6 tt [.int (hh : Int), .int (kk' : Int)] ∧ 1 ≤ hh ∧ hh ≤ 48 ∧ 1 ≤ kk' ∧ kk' ≤ 8 := by
      by_cases c : y = 0
      · refine ⟨t2, 48, 8, by rw [if_pos (decide_eq_true (congrArg V.int c))] <;> rfl, sqT_fr (SqT.of (s5 _ _ h4)) B5 F6, by decide, by decide, by decide, by decide⟩
      · refine ⟨t1, 1 + an, 1 + bn, by rw [if_neg (by rw [decide_eq_false fun z => c (V.int.inj z)]; exact Bool.false_ne_true)] <;> rfl, sqT_fr (SqT.of ((s4.trans s5) _ _ h3)) B5 F6, by omega, by omega, by omega, by omega⟩
    refine ⟨rfl, .inr ⟨_, rfl, l1, _, _, _, rfl, rfl, SqL.of (F6 _ _ l1p h5), ep, ?_⟩⟩
    refine ⟨tt, _, rfl, ht, rfl, _, _, rfl, _, _, rfl, rfl, ?_⟩
    refine ⟨_, rfl, _, rfl, _, rfl, _, _, rfl, rfl, ⟨by decide, by decide, by decide⟩, rfl, fun l2 H7 s7 n7 h7 => ?_⟩
    have B7 := B6.same s7
    have l2p := B6.new n7
    refine ⟨_, rfl, p, 3, _, rfl, B7, by omega, by decide, by decide, fun z H8 z0 z1 B8 F8 => ?_⟩
    obtain ⟨m, em, m0, m1⟩ : ∃ m : Int, atI ([.int 3, .int 20, .int (10 ^ (6 : Int).toNat)] : List V) z = some (.int m) ∧ 1 ≤ m ∧ m ≤ 1000000 := by
      have cs : z = 0 ∨ z = 1 ∨ z = 2 := by omega
      rcases cs with e | e | e <;> subst e
      · exact ⟨3, rfl, by decide, by decide⟩
      · exact ⟨20, rfl, by decide, by decide⟩
      · exact ⟨10 ^ (6 : Int).toNat, rfl, by decide, by decide⟩
    refine ⟨l2, _, z, _, rfl, rfl, SqL.of (F8 _ _ l2p h7), em, p, _, hh, kk', m, rfl, B8, by omega, a1', a2', a3', a4', m0, m1, fun d x D H9 hD O nn e1 e2 f1 f2 f3 B9 F9 => ?_⟩
    exact q d x D H9 hD O nn f1 f2 f3 (B9.mono (by omega)) (((F1.trans F2).trans (.of s35)).trans (F6.trans ((Fr.of s7).trans (F8.trans F9))))

end
end KR
namespace KR
open PySem PySem.Spec PyProof.Rows L2
section
variable {P : Program} {w : World} {K : PySem.W.Frag} {mg : Str → Option Value} {base : Heap}
def sp_l_is_number (K : PySem.W.Frag) : Sp := fun vs H Q _ => ∃ (Av : Addr → Prop) (B n : Nat) (v : V) (d : PyData), vs = [v] ∧ Tg K Av H B n v d ∧ Q (.bl (isI d)) H
theorem ok_l_is_number (T : All K mg) : FnOk P w K mg base CX0 1 T.f_l_is_number T.fd_l_is_number ["_law_thing"] (sp_l_is_number K) := by
  refine T.d_l_is_number.fn.ok sc_l_is_number (fun vs H Q E h => ?_) (fun cdv A outer s H vs Q E hr h => ?_)
  · obtain ⟨Av, B, n, v, d, rfl, _⟩ := h
    rfl
  · obtain ⟨Av, B, n, v, d, rfl, h, q⟩ := h
    refine ⟨_, (pss_one (ps_ret (pe_and (pe_callB (isiK (K := K) rfl) (by rfl) T.b_isinstance (by decide +kernel) (pa_cons (pv 0) (pa_cons (pe_bltn (v := .ty "int") (by rfl) T.b_int (by decide +kernel) rfl) pa_nil))) (pe_one (pe_not (pe_callB (isiK (K := K) rfl) (by rfl) T.b_isinstance (by decide +kernel) (pa_cons (pv 0) (pa_cons (pe_bltn (v := .ty "bool") (by rfl) T.b_bool (by decide +kernel) rfl) pa_nil)))))))), ?_⟩
    obtain ⟨t, ty, _, _, ki, kb, _⟩ := h.ty
    cases e : isBo d with
    | true =>
      rw [boI e] at q
      rw [e, Bool.or_true] at ki
      rw [e] at kb
      refine ⟨_, rfl, _, _, _, _, _, rfl, .ty _, ty, kit_ty ki, _, rfl, ?_⟩
      refine iteT ?_
      refine ⟨_, rfl, _, _, _, _, _, rfl, .ty _, ty, kit_ty kb, _, rfl, ?_⟩
      exact q
    | false =>
      rw [e, Bool.or_false] at ki
      rw [e] at kb
      refine ⟨_, rfl, _, _, _, _, _, rfl, .ty _, ty, kit_ty ki, _, rfl, ?_⟩
      cases e2 : isI d with
      | true =>
        rw [e2] at q
        refine iteT ?_
        refine ⟨_, rfl, _, _, _, _, _, rfl, .ty _, ty, kit_ty kb, _, rfl, ?_⟩
        exact q
      | false =>
        rw [e2] at q
        refine iteF ?_
        exact q

end
end KR
namespace KR
open PySem PySem.Spec PyProof.Rows L2
section
variable {P : Program} {w : World} {K : PySem.W.Frag} {mg : Str → Option Value} {base : Heap}
/-- what the law's own look holds within a thing -/
def PapW (D : Dy) (m : Int) (r : Bool) (ds : List PyData) (lv : V) (hour total : Int) : Prop :=
  (∃ pl t : Nat, lv = .int (pl : Int) ∧ hour = (t : Int) - 1 ∧ pl ≤ D.ks.length ∧ t ≤ D.cs.length ∧ walkP D m (some ((pl : Int), (t : Int) - 1)) total ds = r) ∨ (lv = .non ∧ walkP D m none total ds = r)
def sp_l_is_paper (K : PySem.W.Frag) : Sp := fun vs H Q _ => ∃ (p d : Addr) (x : DyP) (D : Dy) (m : Int) (Av : Addr → Prop) (B n : Nat) (v : V) (e : PyData), vs = [.ref d, .int m, v] ∧ DayAt K H p d x D ∧ x.pc = true ∧ x.pk = true ∧ DyOk D ∧ Tg K Av H B n v e ∧ ∀ H', Same H H' → Q (.bl (isPap D m e)) H'
theorem ok_l_is_paper (T : All K mg) : FnOk P w K mg base CX0 2 T.f_l_is_paper T.fd_l_is_paper ["_law_day_here", "_law_many", "_law_thing"] (sp_l_is_paper K) := by
  refine T.d_l_is_paper.fn.ok sc_l_is_paper (fun vs H Q E h => ?_) (fun cdv A outer s H vs Q E hr h => ?_)
  · obtain ⟨p, d, x, D, m, Av, B, n, v, e, rfl, _⟩ := h
    rfl
  · obtain ⟨p, d, x, D, m, Av, B, n, v, e, rfl, hD, xc, xk, O, hv, q⟩ := h
    refine ⟨_, (pss_cons (ps_asg (pv 0) (pg_tupK (K := K) rfl rfl (pgs_cons (pg_name (i := 3) sc_l_is_paper.nd rfl (by first | exact Or.inl rfl | exact Or.inr rfl)) (pgs_cons (pg_name (i := 4) sc_l_is_paper.nd rfl (by first | exact Or.inl rfl | exact Or.inr rfl)) (pgs_cons (pg_name (i := 5) sc_l_is_paper.nd rfl (by first | exact Or.inl rfl | exact Or.inr rfl)) pgs_nil)))))
      (pss_cons (ps_par3 (i := 6) (j := 7) (l := 8) (by rfl) sc_l_is_paper.nd rfl rfl rfl (by decide) (by decide) (by decide) rfl rfl rfl (pa_cons (pe_callB (lenQ (K := K) rfl) (by rfl) T.b_len PySem.boot_len (pa_cons (pv 4) pa_nil)) (pa_cons (pe_op op_sub (pe_callB (lenQ (K := K) rfl) (by rfl) T.b_len PySem.boot_len (pa_cons (pv 3) pa_nil)) pe_int) (pa_cons pe_int pa_nil))) (by rfl))
      (pss_cons (ps_if (pt_not (pt_val (pe_callB (isiK (K := K) rfl) (by rfl) T.b_isinstance (by decide +kernel) (pa_cons (pv 2) (pa_cons (pe_bltn (v := .ty "list") (by rfl) T.b_list (by decide +kernel) rfl) pa_nil))))) (pss_one (ps_ret pe_bl)) pss_nil)
      (pss_cons (ps_for PassesOwn.never rfl (pi_listK (K := K) rfl (pv 2)) (pg_name (i := 9) sc_l_is_paper.nd rfl (by first | exact Or.inl rfl | exact Or.inr rfl)) (pss_cons (ps_if (PW.pt (pw_or (pt_not (pt_val (pe_callB (isiK (K := K) rfl) (by rfl) T.b_isinstance (by decide +kernel) (pa_cons (pv 9) (pa_cons (pe_bltn (v := .ty "tuple") (by rfl) T.b_tuple (by decide +kernel) rfl) pa_nil))))) (pw_or (pt_cmpR op_ne (pe_callB (lenQ (K := K) rfl) (by rfl) T.b_len PySem.boot_len (pa_cons (pv 9) pa_nil)) pe_int (nomark _)) (pw_or (pt_not (pt_val (pe_callB (isiK (K := K) rfl) (by rfl) T.b_isinstance (by decide +kernel) (pa_cons (pe_ix (ixT (K := K) rfl) (pv 9) pe_int (fun _ _ => rfl)) (pa_cons (pe_bltn (v := .ty "str") (by rfl) T.b_str (by decide +kernel) rfl) pa_nil))))) (pw_or1 (pt_cmpR op_isN (pv 6) pe_non (nomark _))))))) (pss_one (ps_ret pe_bl)) pss_nil)
      (pss_cons (ps_if (PW.pt (pw_or (pt_not (pt_val (pe_call (ok_l_is_number T) hr (by rfl) T.d_l_is_number.mg T.d_l_is_number.fn.kp T.d_l_is_number.b .nil pass0 (pa_cons (pe_ix (ixT (K := K) rfl) (pv 9) pe_int (fun _ _ => rfl)) pa_nil)))) (pw_or (pt_not (pt_val (pe_call (ok_l_is_number T) hr (by rfl) T.d_l_is_number.mg T.d_l_is_number.fn.kp T.d_l_is_number.b .nil pass0 (pa_cons (pe_ix (ixT (K := K) rfl) (pv 9) pe_int (fun _ _ => rfl)) pa_nil)))) (pw_or1 (pt_cmpR (neDK (K := K) rfl hr.units) (pe_slice sl_tup (pv 9) (po_some pe_int) po_none) (pe_tupI (pa_cons (pv 6) (pa_cons (pv 7) pa_nil))) (nomark _)))))) (pss_one (ps_ret pe_bl)) pss_nil)
      (pss_cons (ps_set (i := 10) sc_l_is_paper.nd rfl (by first | exact Or.inl rfl | exact Or.inr rfl) (pe_ix (ixT (K := K) rfl) (pv 9) pe_int (fun _ _ => rfl)))
      (pss_cons (ps_if (PW.pt (pw_and (pt_cmpR op_eq (pv 7) (pe_un un_neg pe_int) (nomark _)) (pw_and1 (pt_cmpR op_ne (pv 10) pe_str (nomark _))))) (pss_one (ps_ret pe_bl)) pss_nil)
      (pss_one (ps_if (pt_cmpR op_eq (pv 7) (pe_un un_neg pe_int) (nomark _)) (pss_one (ps_set (i := 6) sc_l_is_paper.nd rfl (by first | exact Or.inl rfl | exact Or.inr rfl) pe_non)) (pss_one (ps_if (pt_cmpR op_eq (pv 10) pe_str (nomark _)) (pss_cons (ps_set (i := 8) sc_l_is_paper.nd rfl (by first | exact Or.inl rfl | exact Or.inr rfl) (pe_op op_add (pv 8) (pe_ix (ixQ (K := K) rfl) (pe_ifExp (pt_cmpR op_eq (pv 6) (pe_callB (lenQ (K := K) rfl) (by rfl) T.b_len PySem.boot_len (pa_cons (pv 4) pa_nil)) (nomark _)) (pv 5) (pe_ix (ixT (K := K) rfl) (pe_ix (ixL (K := K) rfl) (pv 4) (pv 6) (fun _ _ => rfl)) pe_int (fun _ _ => rfl))) (pv 7) (fun _ _ => rfl))))
      (pss_one (ps_set (i := 7) sc_l_is_paper.nd rfl (by first | exact Or.inl rfl | exact Or.inr rfl) (pe_op op_sub (pv 7) pe_int)))) (pss_one (ps_if (PW.pt (pw_and (pt_cmpR op_eq (pv 10) pe_str (nomark _)) (pw_and1 (pt_cmpR op_gt (pv 6) pe_int (nomark _))))) (pss_one (ps_par (i := 6) (j := 7) (by rfl) sc_l_is_paper.nd rfl rfl (by decide) rfl rfl (pa_cons (pe_op op_sub (pv 6) pe_int) (pa_cons (pe_op op_sub (pv 7) pe_int) pa_nil)) (by rfl))) (pss_one (ps_if (PW.pt (pw_and (pt_cmpR op_eq (pv 10) pe_str (nomark _)) (pw_and1 (pt_cmpR op_lt (pv 6) (pe_callB (lenQ (K := K) rfl) (by rfl) T.b_len PySem.boot_len (pa_cons (pv 4) pa_nil)) (nomark _))))) (pss_one (ps_par (i := 8) (j := 6) (by rfl) sc_l_is_paper.nd rfl rfl (by decide) rfl rfl (pa_cons (pe_op op_add (pv 8) (pe_ix (ixT (K := K) rfl) (pe_ix (ixL (K := K) rfl) (pv 4) (pv 6) (fun _ _ => rfl)) pe_int (fun _ _ => rfl))) (pa_cons (pe_op op_add (pv 6) pe_int) pa_nil)) (by rfl))) (pss_one (ps_if (PW.pt (pw_and (pt_cmpR op_eq (pv 10) pe_str (nomark _)) (pw_and1 (pt_cmpR op_eq (pv 6) pe_int (nomark _))))) (pss_one (ps_par (i := 8) (j := 6) (by rfl) sc_l_is_paper.nd rfl rfl (by decide) rfl rfl (pa_cons (pe_op op_add (pv 8) (pe_callB (sumBK (K := K) rfl rfl) (by rfl) T.b_sum (by decide +kernel) (pa_cons (pe_slice (slL (K := K) rfl) (pv 3) po_none (po_some (pe_op op_add (pv 7) pe_int))) pa_nil))) (pa_cons pe_non pa_nil)) (by rfl))) (pss_one (ps_ret pe_bl)))))))))))))))))
      (pss_one (ps_ret (pe_and (pe_cmpR op_isN (pv 6) pe_non (nomark _)) (pe_one (pe_cmpR op_eq (pv 8) (pv 1) (nomark _)))))))))), ?_⟩
    have h2 := O.h2
    have k2 := O.k2
    have hk0 : SqL K H x.k (x.as.map V.ref) := by
      have z := hD.ks
      rw [xk] at z
      exact z
    have hc0 : SqL K H x.c (D.cs.map V.int) := by
      have z := hD.cs.1
      rw [xc] at z
      exact z
    refine ⟨_, rfl, d, _, rfl, hD.at_, rfl, _, _, rfl, _, _, rfl, _, _, rfl, rfl, ?_⟩
    refine ⟨_, rfl, x.k, _, rfl, .inl hk0, _, rfl, x.c, _, rfl, .inl hc0, _, _, rfl, rfl, _, _, _, rfl, ?_⟩
    rw [List.length_map, List.length_map, hD.len]
    obtain ⟨ty, hty, kl, _, _, _, _⟩ := hv.ty
    refine ⟨_, rfl, _, _, _, _, _, rfl, .ty _, hty, kit_ty kl, ?_⟩
    cases el : isL e with
    | false =>
      have z : isPap D m e = false := by cases e <;> first | rfl | exact nomatch el
      rw [z] at q
      exact ⟨_, rfl, iteT (q _ (.refl _))⟩
    | true =>
    obtain ⟨f, xs, ds, n', rfl, rfl, rfl, hf, tg⟩ := hv.lstI el
    refine ⟨_, rfl, iteF ?_⟩
    generalize er : isPap D m (.list ds) = rr at q
    have er' : walkP D m (some ((D.ks.length : Int), (D.cs.length : Int) - 1)) 0 ds = rr := er
    refine ⟨_, rfl, f, rfl, ⟨_, SqL.of hf⟩, for_it (walk_list (K := K) (a := f) (xs := xs)) (fun j σ H' => ∃ (lv : V) (ho to : Int) (v9 v10 : Option V), σ = [some (.ref d), some (.int m), some (.ref f), some (.ref x.c), some (.ref x.k), some (.ref x.s), some lv, some (.int ho), some (.int to), v9, v10] ∧ Same H H' ∧ PapW D m rr (ds.drop j) lv ho to)
      ⟨_, _, _, none, none, rfl, .refl _, .inl ⟨D.ks.length, D.cs.length, rfl, rfl, Nat.le_refl _, Nat.le_refl _, er'⟩⟩ (fun j σ H' _ ⟨_, _, _, _, _, _, s, _⟩ => SqL.of (s _ _ hf)) ?_ ?_⟩
    · rintro j v σ H2 H3 hj ⟨lv, ho, to, v9, v10, rfl, s2, ld⟩ ⟨rfl, hv'⟩
      have hj2 : j < ds.length := by rw [← tg.1]; exact hj
      obtain ⟨x0, e, ex, ee, tx⟩ := (tg.same s2).at_ hj
      obtain rfl : v = x0 := Option.some.inj (hv'.symm.trans ex)
      have dj : ds.drop j = e :: ds.drop (j + 1) := by
        rw [List.drop_eq_getElem_cons hj2]
        rw [List.getElem?_eq_getElem hj2] at ee
        rw [Option.some.inj ee]
      rw [dj] at ld
      have hF : (∀ p h, bdW p h e = none) → rr = false := by
        rcases ld with ⟨pl, t, _, _, _, _, wk⟩ | ⟨_, wk⟩
        · intro z
          rw [walkP_cons] at wk
          simp only [z] at wk
          exact wk.symm
        · intro z
          exact wk.symm
      obtain ⟨ty, hty, _, kty, _, _, _⟩ := tx.ty
      refine ⟨_, rfl, _, _, _, _, _, rfl, .ty _, hty, kit_ty kty, ?_⟩
      cases e0 : isT e with
      | false =>
        rw [hF fun p h => bdW_T e0] at q
        exact ⟨_, rfl, iteT (q _ s2)⟩
      | true =>
      obtain ⟨r, ys, es, m', rfl, rfl, rfl, hr3, tg'⟩ := tx.tupI e0
      refine ⟨_, rfl, iteF ?_⟩
      refine ⟨_, rfl, r, _, rfl, .inr hr3, rfl, _, rfl, ?_⟩
      by_cases cl : ys.length = 3
      rotate_left
      · rw [decide_eq_false (show ¬ V.int (ys.length : Int) = V.int 3 from fun z => cl (by injection z with z; omega))]
        rw [hF fun p h => bdW_len (by rw [← tg'.1]; exact cl)] at q
        exact iteT (q _ s2)
      rw [decide_eq_true (show V.int (ys.length : Int) = V.int 3 by rw [cl] <;> rfl)]
      refine iteF ?_
      obtain ⟨x1, x2, x3, d1, d2, d3, rfl, rfl, t1, t2, t3⟩ := three tg' cl
      obtain ⟨ty1, hty1, _, _, _, _, ks⟩ := t1.ty
      refine ⟨_, rfl, r, _, 0, _, rfl, rfl, hr3, at0, _, _, _, _, _, rfl, .ty _, hty1, kit_ty ks, ?_⟩
      cases e1 : isS d1 with
      | false =>
        rw [hF fun p h => bdW_no (.inl e1)] at q
        exact ⟨_, rfl, iteT (q _ s2)⟩
      | true =>
      refine ⟨_, rfl, iteF ?_⟩
      rcases ld with ⟨pl, t, rfl, rfl, hpl, ht, wk⟩ | ⟨rfl, wk⟩
      rotate_left
      · have wk : false = rr := wk
        subst wk
        refine ⟨_, rfl, rfl, _, rfl, iteT ?_⟩
        exact q _ s2
      refine ⟨_, rfl, rfl, _, rfl, iteF ?_⟩
      refine ⟨_, rfl, r, _, 1, _, rfl, rfl, hr3, at1, Av, B, m', x2, d2, rfl, t2, ?_⟩
      cases e2 : isI d2 with
      | false =>
        rw [hF fun p h => bdW_no (.inr (.inl e2))] at q
        exact ⟨_, rfl, iteT (q _ s2)⟩
      | true =>
      refine ⟨_, rfl, iteF ?_⟩
      refine ⟨_, rfl, r, _, 2, _, rfl, rfl, hr3, at2, Av, B, m', x3, d3, rfl, t3, ?_⟩
      cases e3 : isI d3 with
      | false =>
        rw [hF fun p h => bdW_no (.inr (.inr e3))] at q
        exact ⟨_, rfl, iteT (q _ s2)⟩
      | true =>
      refine ⟨_, rfl, iteF ?_⟩
      obtain ⟨w, rfl, rfl⟩ := t1.strI e1
      obtain ⟨i2, rfl, rfl, _⟩ := t2.intI e2
      obtain ⟨i3, rfl, rfl, _⟩ := t3.intI e3
      refine ⟨_, rfl, _, rfl, r, _, rfl, hr3, by show ¬ (HT.sIx 3 0 (some 1) = 0 ∧ HT.sIx 3 3 none = 3); decide, fun u1 nt1 => ?_⟩
      have s4 : Same H3 (upd H3 u1 (.tup (cutV [V.str w, V.int i2, V.int i3] (some 1) none))) := same_new nt1
      have ht1 : (upd H3 u1 (.tup (cutV [V.str w, V.int i2, V.int i3] (some 1) none))) u1 = some (.tup [.int i2, .int i3]) := upd_same
      generalize upd H3 u1 (.tup (cutV [V.str w, V.int i2, V.int i3] (some 1) none)) = H4 at s4 ht1
      refine ⟨_, rfl, _, rfl, rfl, fun u2 H5 s5 n5 h5 => ⟨.tuple [.int i2, .int i3], .tuple [.int (pl : Int), .int ((t : Int) - 1)], dp_pair (s5 _ _ ht1), dp_pair h5, rfl, rfl, ?_⟩⟩
      rw [eqv_pair]
      have s35 := s4.trans s5
      have s05 := s2.trans s35
      by_cases ci : i2 = (pl : Int) ∧ i3 = (t : Int) - 1
      rotate_left
      · rw [decide_eq_false ci]
        rw [walkP_cons] at wk
        have ew : bdW (pl : Int) ((t : Int) - 1) (.tuple [.str w, .int i2, .int i3]) = none := if_neg ci
        simp only [ew] at wk
        subst wk
        exact ⟨_, rfl, iteT (q _ s05)⟩
      rw [decide_eq_true ci]
      refine ⟨_, rfl, iteF ?_⟩
      rw [walkP_cons] at wk
      have ew : bdW (pl : Int) ((t : Int) - 1) (.tuple [.str w, .int i2, .int i3]) = some w := if_pos ci
      simp only [ew] at wk
      rw [Int.toNat_natCast, show ((t : Int) - 1 + 1).toNat = t by omega] at wk
      refine ⟨_, rfl, r, _, 0, _, rfl, rfl, Same.tup s35 hr3, at0, ?_⟩
      have hD5 := hD.same s05
      have hk5 := Same.seq s05 hk0
      have hc5 := Same.seq s05 hc0
      refine ⟨_, rfl, _, rfl, rfl, _, rfl, ?_⟩
      cases es : stepP D pl t w with
      | none =>
        simp only [es] at wk
        subst wk
        have non := stepP_none es
        cases t with
        | zero =>
          rw [decide_eq_true (show V.int (((0 : Nat) : Int) - 1) = V.int (-1) from rfl)]
          refine iteT ?_
          refine ⟨_, rfl, rfl, _, rfl, ?_⟩
          rw [decide_eq_false (show ¬ V.str w = V.str "begin" from fun z => non ⟨"begin", none, 0⟩ List.mem_cons_self (by injection z with z; exact z.symm))]
          exact iteT (q _ s05)
        | succ t =>
          have hz : decide (V.int (((t + 1 : Nat) : Int) - 1) = V.int (-1)) = false := decide_eq_false fun e => by injection e with e; omega
          rw [hz]
          refine iteF ?_
          refine ⟨_, rfl, _, rfl, rfl, _, rfl, ?_⟩
          rw [hz]
          refine iteF ?_
          have mT : (⟨"takes", some ((pl : Int), (t : Int) - 1), if pl = D.ks.length then D.ss.getD t 0 else (kt D pl).2.getD t 0⟩ : Bd) ∈ bnds D pl (t + 1) := by
            by_cases c : pl = D.ks.length
            · rw [show bnds D pl (t + 1) = [firstB D pl t, ⟨"takes", some ((pl : Int), (t : Int) - 1), D.ss.getD t 0⟩] from if_pos c, if_pos c]
              exact List.mem_cons_of_mem _ List.mem_cons_self
            · rw [show bnds D pl (t + 1) = [firstB D pl t, ⟨"takes", some ((pl : Int), (t : Int) - 1), (kt D pl).2.getD t 0⟩, ⟨"room", some ((pl : Int) + 1, (t : Int)), (kt D pl).1⟩] from if_neg c, if_neg c]
              exact List.mem_cons_of_mem _ List.mem_cons_self
          have mF : firstB D pl t ∈ bnds D pl (t + 1) := by
            by_cases c : pl = D.ks.length
            · rw [show bnds D pl (t + 1) = [firstB D pl t, ⟨"takes", some ((pl : Int), (t : Int) - 1), D.ss.getD t 0⟩] from if_pos c]
              exact List.mem_cons_self
            · rw [show bnds D pl (t + 1) = [firstB D pl t, ⟨"takes", some ((pl : Int), (t : Int) - 1), (kt D pl).2.getD t 0⟩, ⟨"room", some ((pl : Int) + 1, (t : Int)), (kt D pl).1⟩] from if_neg c]
              exact List.mem_cons_self
          have nT : w ≠ "takes" := fun z => non _ mT z.symm
          have nA : w = "ahead" → pl = 0 := fun z => by
            by_cases c : pl = 0
            · exact c
            · have := non _ mF
              rw [show firstB D pl t = ⟨"ahead", some ((pl : Int) - 1, (t : Int) - 1), 0⟩ from if_neg c] at this
              exact absurd z.symm this
          have nC : w = "comes" → pl ≠ 0 := fun z c => by
            have := non _ mF
            rw [show firstB D pl t = ⟨"comes", none, csum D (t + 1)⟩ from if_pos c] at this
            exact absurd z.symm this
          have nR : w = "room" → pl = D.ks.length := fun z => by
            by_cases c : pl = D.ks.length
            · exact c
            · exact absurd z.symm (non ⟨"room", some ((pl : Int) + 1, (t : Int)), (kt D pl).1⟩ (by
                rw [show bnds D pl (t + 1) = [firstB D pl t, ⟨"takes", some ((pl : Int), (t : Int) - 1), (kt D pl).2.getD t 0⟩, ⟨"room", some ((pl : Int) + 1, (t : Int)), (kt D pl).1⟩] from if_neg c]
                exact List.mem_cons_of_mem _ (List.mem_cons_of_mem _ List.mem_cons_self)))
          have sne : ∀ {a b : Str}, a ≠ b → decide (V.str a = V.str b) = false := fun {a b} n => decide_eq_false fun z => n (by injection z)
          refine ⟨_, rfl, rfl, _, rfl, ?_⟩
          rw [sne nT]
          refine iteF ?_
          refine ⟨_, rfl, rfl, _, rfl, ?_⟩
          by_cases wa : w = "ahead"
          · have p0 := nA wa
            subst p0
            subst wa
            rw [decide_eq_true rfl]
            refine iteT ?_
            refine ⟨_, rfl, _, _, rfl, rfl, _, rfl, ite_bF (decide_eq_false (by omega)) ?_⟩
            refine ⟨_, rfl, rfl, _, rfl, ?_⟩
            rw [show decide (V.str ("ahead" : Str) = V.str ("room" : Str)) = false by decide +kernel]
            refine iteF ?_
            refine ⟨_, rfl, rfl, _, rfl, ?_⟩
            rw [show decide (V.str ("ahead" : Str) = V.str ("comes" : Str)) = false by decide +kernel]
            exact iteF (q _ s05)
          rw [sne wa]
          refine iteF ?_
          refine ⟨_, rfl, rfl, _, rfl, ?_⟩
          by_cases wr : w = "room"
          · have p0 := nR wr
            subst wr
            rw [decide_eq_true rfl]
            refine iteT ?_
            refine ⟨_, rfl, _, rfl, x.k, _, rfl, .inl hk5, ?_⟩
            rw [List.length_map, hD.len]
            refine ⟨_, _, rfl, rfl, _, rfl, ite_bF (decide_eq_false (by omega)) ?_⟩
            refine ⟨_, rfl, rfl, _, rfl, ?_⟩
            rw [show decide (V.str ("room" : Str) = V.str ("comes" : Str)) = false by decide +kernel]
            exact iteF (q _ s05)
          rw [sne wr]
          refine iteF ?_
          refine ⟨_, rfl, rfl, _, rfl, ?_⟩
          by_cases wc : w = "comes"
          · have p0 := nC wc
            subst wc
            rw [decide_eq_true rfl]
            refine iteT ?_
            refine ⟨_, rfl, rfl, _, rfl, ?_⟩
            exact ite_iF (by omega) (q _ s05)
          · rw [sne wc]
            exact iteF (q _ s05)
      | some b =>
        simp only [es] at wk
        obtain ⟨mb, hw⟩ := stepP_some es
        have finN : b.lead = none → ∀ ho', PapW D m rr (ds.drop (j + 1)) .non ho' (to + b.more) := fun z ho' => by
          rw [z] at wk
          exact .inr ⟨rfl, wk⟩
        have finS : ∀ p' h', b.lead = some (p', h') → PapW D m rr (ds.drop (j + 1)) (.int p') h' (to + b.more) := fun p' h' z => by
          obtain ⟨pn, tn, ey, hp', ht'⟩ := lead_in hpl mb z
          obtain ⟨rfl, rfl⟩ := Prod.mk.inj ey
          rw [z] at wk
          exact .inl ⟨pn, tn, rfl, rfl, hp', by omega, wk⟩
        cases t with
        | zero =>
          have eb : b = ⟨"begin", none, 0⟩ := List.mem_singleton.mp mb
          subst eb
          obtain rfl : ("begin" : Str) = w := hw
          rw [decide_eq_true (show V.int (((0 : Nat) : Int) - 1) = V.int (-1) from rfl)]
          refine iteT ?_
          refine ⟨_, rfl, rfl, _, rfl, ?_⟩
          rw [decide_eq_true rfl]
          refine iteF ?_
          refine ⟨_, rfl, _, rfl, rfl, _, rfl, ?_⟩
          rw [decide_eq_true (show V.int (((0 : Nat) : Int) - 1) = V.int (-1) from rfl)]
          refine iteT ?_
          have z : PapW D m rr (ds.drop (j + 1)) .non (((0 : Nat) : Int) - 1) (to + 0) := finN rfl _
          rw [Int.add_zero] at z
          exact ⟨_, _, _, _, _, rfl, s05, z⟩
        | succ t =>
          have hz : decide (V.int (((t + 1 : Nat) : Int) - 1) = V.int (-1)) = false := decide_eq_false fun e => by injection e with e; omega
          rw [hz]
          refine iteF ?_
          refine ⟨_, rfl, _, rfl, rfl, _, rfl, ?_⟩
          rw [hz]
          refine iteF ?_
          have kinds : b = firstB D pl t ∨ (b = ⟨"takes", some ((pl : Int), (t : Int) - 1), if pl = D.ks.length then D.ss.getD t 0 else (kt D pl).2.getD t 0⟩) ∨ (pl < D.ks.length ∧ b = ⟨"room", some ((pl : Int) + 1, (t : Int)), (kt D pl).1⟩) := by
            by_cases c : pl = D.ks.length
            · rw [show bnds D pl (t + 1) = [firstB D pl t, ⟨"takes", some ((pl : Int), (t : Int) - 1), D.ss.getD t 0⟩] from if_pos c] at mb
              rcases List.mem_cons.mp mb with z | z
              · exact .inl z
              · rw [if_pos c]
                exact .inr (.inl (List.mem_singleton.mp z))
            · rw [show bnds D pl (t + 1) = [firstB D pl t, ⟨"takes", some ((pl : Int), (t : Int) - 1), (kt D pl).2.getD t 0⟩, ⟨"room", some ((pl : Int) + 1, (t : Int)), (kt D pl).1⟩] from if_neg c] at mb
              rcases List.mem_cons.mp mb with z | z
              · exact .inl z
              · rcases List.mem_cons.mp z with z | z
                · rw [if_neg c]
                  exact .inr (.inl z)
                · exact .inr (.inr ⟨by omega, List.mem_singleton.mp z⟩)
          rcases kinds with eb | eb | ⟨lt, eb⟩
          · by_cases c0 : pl = 0
            · -- what comes
              have eb : b = ⟨"comes", none, csum D (t + 1)⟩ := eb.trans (if_pos c0)
              subst eb
              subst c0
              obtain rfl : ("comes" : Str) = w := hw
              refine ⟨_, rfl, rfl, _, rfl, ?_⟩
              rw [show decide (V.str ("comes" : Str) = V.str ("takes" : Str)) = false by decide +kernel]
              refine iteF ?_
              refine ⟨_, rfl, rfl, _, rfl, ?_⟩
              rw [show decide (V.str ("comes" : Str) = V.str ("ahead" : Str)) = false by decide +kernel]
              refine iteF ?_
              refine ⟨_, rfl, rfl, _, rfl, ?_⟩
              rw [show decide (V.str ("comes" : Str) = V.str ("room" : Str)) = false by decide +kernel]
              refine iteF ?_
              refine ⟨_, rfl, rfl, _, rfl, ?_⟩
              rw [decide_eq_true rfl]
              refine iteT ?_
              refine ⟨_, rfl, rfl, _, rfl, ?_⟩
              rw [decide_eq_true (show V.int ((0 : Nat) : Int) = V.int 0 from rfl)]
              refine iteT ?_
              refine ⟨_, rfl, _, rfl, _, rfl, _, _, rfl, rfl, _, rfl, x.c, _, rfl, hc5, fun c H6 s6 n6 h6 => ?_⟩
              rw [show ((t + 1 : Nat) : Int) - 1 + 1 = ((t + 1 : Nat) : Int) by omega, cut_to' (by rw [List.length_map]; omega), ← List.map_take] at h6
              refine ⟨c, _, true, rfl, SqL.of h6, _, _, rfl, rfl, _, _, rfl, ?_⟩
              exact ⟨_, _, _, _, _, rfl, s05.trans s6, finN rfl _⟩
            · -- from the place ahead
              have eb : b = ⟨"ahead", some ((pl : Int) - 1, (t : Int) - 1), 0⟩ := eb.trans (if_neg c0)
              subst eb
              obtain rfl : ("ahead" : Str) = w := hw
              refine ⟨_, rfl, rfl, _, rfl, ?_⟩
              rw [show decide (V.str ("ahead" : Str) = V.str ("takes" : Str)) = false by decide +kernel]
              refine iteF ?_
              refine ⟨_, rfl, rfl, _, rfl, ?_⟩
              rw [decide_eq_true rfl]
              refine iteT ?_
              refine ⟨_, rfl, _, _, rfl, rfl, _, rfl, ite_bT (decide_eq_true (by omega)) ?_⟩
              refine ⟨_, rfl, _, _, rfl, rfl, _, rfl, _, _, rfl, rfl, _, _, rfl, ?_⟩
              have z : PapW D m rr (ds.drop (j + 1)) (.int ((pl : Int) - 1)) ((t : Int) - 1) (to + 0) := finS _ _ rfl
              rw [Int.add_zero, show (t : Int) - 1 = ((t + 1 : Nat) : Int) - 1 - 1 by omega] at z
              exact ⟨_, _, _, _, _, rfl, s05, z⟩
          · -- what the place takes
            subst eb
            obtain rfl : ("takes" : Str) = w := hw
            refine ⟨_, rfl, rfl, _, rfl, ?_⟩
            rw [decide_eq_true rfl]
            refine iteT ?_
            refine ⟨_, rfl, _, rfl, _, rfl, x.k, _, rfl, .inl hk5, ?_⟩
            rw [List.length_map, hD.len]
            refine ⟨rfl, _, rfl, ?_⟩
            have z : PapW D m rr (ds.drop (j + 1)) (.int (pl : Int)) ((t : Int) - 1) (to + if pl = D.ks.length then D.ss.getD t 0 else (kt D pl).2.getD t 0) := finS _ _ rfl
            rw [show (t : Int) - 1 = ((t + 1 : Nat) : Int) - 1 - 1 by omega] at z
            by_cases c : pl = D.ks.length
            · rw [if_pos c] at z
              refine ite_bT (decide_eq_true (by rw [c])) ?_
              refine ⟨_, rfl, _, rfl, ix_b (i := t) hD5.ss.1 (by omega) (ints_get (by rw [O.sl]; omega)) ?_⟩
              refine ⟨_, _, rfl, rfl, ?_⟩
              refine ⟨_, rfl, _, _, rfl, rfl, ?_⟩
              exact ⟨_, _, _, _, _, rfl, s05, z⟩
            · rw [if_neg c] at z
              refine ite_bF (decide_eq_false fun e => c (by injection e with e; omega)) ?_
              obtain ⟨ka, tk', b', gk, hka, hta⟩ := hD5.pot (j := pl) (by omega)
              refine ⟨_, rfl, _, rfl, x.k, _, _, _, rfl, rfl, hk5, at_of rfl gk, ka, _, 1, _, rfl, rfl, hka, at1, _, rfl, ix_b (i := t) hta.1 (by omega) (ints_get (by rw [kt_len O (by omega)]; omega)) ?_⟩
              refine ⟨_, _, rfl, rfl, ?_⟩
              refine ⟨_, rfl, _, _, rfl, rfl, ?_⟩
              exact ⟨_, _, _, _, _, rfl, s05, z⟩
          · -- its room
            subst eb
            obtain rfl : ("room" : Str) = w := hw
            refine ⟨_, rfl, rfl, _, rfl, ?_⟩
            rw [show decide (V.str ("room" : Str) = V.str ("takes" : Str)) = false by decide +kernel]
            refine iteF ?_
            refine ⟨_, rfl, rfl, _, rfl, ?_⟩
            rw [show decide (V.str ("room" : Str) = V.str ("ahead" : Str)) = false by decide +kernel]
            refine iteF ?_
            refine ⟨_, rfl, rfl, _, rfl, ?_⟩
            rw [decide_eq_true rfl]
            refine iteT ?_
            refine ⟨_, rfl, _, rfl, x.k, _, rfl, .inl hk5, ?_⟩
            rw [List.length_map, hD.len]
            refine ⟨_, _, rfl, rfl, _, rfl, ite_bT (decide_eq_true (by omega)) ?_⟩
            obtain ⟨ka, tk', b', gk, hka, hta⟩ := hD5.pot (j := pl) lt
            refine ⟨_, rfl, _, rfl, _, rfl, x.k, _, _, _, rfl, rfl, hk5, at_of rfl gk, ka, _, 0, _, rfl, rfl, hka, at0, _, _, rfl, rfl, _, rfl, _, _, rfl, rfl, _, _, rfl, ?_⟩
            have z : PapW D m rr (ds.drop (j + 1)) (.int ((pl : Int) + 1)) (t : Int) (to + (kt D pl).1) := finS _ _ rfl
            rw [show (t : Int) = ((t + 1 : Nat) : Int) - 1 by omega] at z
            exact ⟨_, _, _, _, _, rfl, s05, z⟩
    · rintro σ H2 ⟨lv, ho, to, v9, v10, rfl, s2, ld⟩
      rw [tg.1, List.drop_length] at ld
      rcases ld with ⟨pl, t, rfl, rfl, hpl, ht, wk⟩ | ⟨rfl, wk⟩
      · have wk : false = rr := wk
        subst wk
        refine ⟨_, rfl, rfl, _, rfl, iteF ?_⟩
        exact q _ s2
      · have wk : (true && decide (to = m)) = rr := wk
        subst wk
        refine ⟨_, rfl, rfl, _, rfl, iteT ?_⟩
        refine ⟨_, rfl, _, rfl, rfl, ?_⟩
        have z := q _ s2
        by_cases c : to = m
        · rw [decide_eq_true c] at z
          rw [decide_eq_true (show V.int to = V.int m by rw [c])]
          exact z
        · rw [decide_eq_false c] at z
          rw [decide_eq_false (show ¬ V.int to = V.int m from fun e => c (by injection e))]
          exact z

end
end KR
namespace KR
open PySem PySem.Spec PyProof.Rows L2
section
variable {P : Program} {w : World} {K : PySem.W.Frag} {mg : Str → Option Value} {base : Heap}
def sp_l_bent (K : PySem.W.Frag) (k : Nat) : Sp := fun vs H Q _ => ∃ (p : Addr) (Av : Addr → Prop) (nb dp n B W : Nat) (v : V) (d : PyData), vs = [.ref p, v, .int (dp : Int)] ∧ Av p ∧ (∀ a, Av a → ∃ o, H a = some o) ∧ BoxAt H p nb ∧ nb + 10 * (dp + 1) ≤ 999000000 ∧ Tg K Av H B n v d ∧ 1000001 ≤ B ∧ B ≤ 2000000 ∧ PyData.weight d ≤ W ∧ W ≤ 32000 ∧ dp + 2 ≤ k ∧ dp ≤ 10 ∧
  ∀ (v' : V) (d' : PyData) (H' : Hp), BoxAt H' p (nb + 5 * (dp + 1)) → Fr p H H' → Tg K Av H' (B + 1) (n + 1) v' d' → PyData.weight d' ≤ 3 * W + 200 → Q v' H'
theorem ixN_at' {n i : Nat} (h : i < n) : ixN n (i : Int) = some i := by
  unfold ixN
  rw [if_pos (by omega), if_pos (by omega), Int.toNat_natCast]
theorem none_l_bent {f : Addr} {fd : FuncData} {k : Nat} (hk : k < 2) : FnOk P w K mg base CX0 k f fd ["_law_box_here", "_law_thing", "_law_deep"] (sp_l_bent K k) := by
  have no : ∀ vs H Q E, ¬ sp_l_bent K k vs H Q E := fun vs H Q E h => by
    obtain ⟨p, Av, nb, dp, n, B, W, v, d, _, _, _, _, _, _, _, _, _, _, h, _⟩ := h
    omega
  exact ⟨fun vs H Q E h => absurd h (no vs H Q E), fun A outer s H args us vs Q E _ _ _ _ h => absurd h (no vs H Q E)⟩
theorem step_l_bent (T : All K mg) {k : Nat} (hk : 1 ≤ k) (ih : FnOk P w K mg base CX0 k T.f_l_bent T.fd_l_bent ["_law_box_here", "_law_thing", "_law_deep"] (sp_l_bent K k)) : FnOk P w K mg base CX0 (k + 1) T.f_l_bent T.fd_l_bent ["_law_box_here", "_law_thing", "_law_deep"] (sp_l_bent K (k + 1)) := by
  refine T.d_l_bent.fn.ok sc_l_bent (fun vs H Q E h => ?_) (fun cdv A outer s H vs Q E hr h => ?_)
  · obtain ⟨p, Av, nb, dp, n, B, W, v, d, rfl, _⟩ := h
    rfl
  · obtain ⟨p, Av, nb, dp, n, B, W, v, d, rfl, hAp, hAv, hB, hnb, hT, B1, B2, hw, hW, hdp, dp10, q⟩ := h
    refine ⟨_, (pss_cons (ps_if (pt_not (pt_val (pe_callB (isiTK (K := K) rfl) (by rfl) T.b_isinstance (by decide +kernel) (pa_cons (pv 1) (pa_cons (pe_tupI (pa_cons (pe_bltn (v := .ty "list") (by rfl) T.b_list (by decide +kernel) rfl) (pa_cons (pe_bltn (v := .ty "tuple") (by rfl) T.b_tuple (by decide +kernel) rfl) pa_nil))) pa_nil))))) (pss_cons (ps_set (i := 3) sc_l_bent.nd rfl (by first | exact Or.inl rfl | exact Or.inr rfl) (pe_lstI (pa_cons pe_int (pa_cons pe_bl (pa_cons pe_non (pa_cons pe_str (pa_cons (pe_lstI (pa_cons (pv 1) pa_nil)) (pa_cons (pe_tupI (pa_cons (pv 1) pa_nil)) (pa_cons (pe_un un_neg pe_int) (pa_cons (pe_op op_pow pe_int pe_int) (pa_cons (pe_op op_add (pe_op op_pow pe_int pe_int) pe_int) (pa_cons pe_int pa_nil))))))))))))
      (pss_cons (ps_J (ps_if (pt_val (pe_callB (isiK (K := K) rfl) (by rfl) T.b_isinstance (by decide +kernel) (pa_cons (pv 1) (pa_cons (pe_bltn (v := .ty "int") (by rfl) T.b_int (by decide +kernel) rfl) pa_nil)))) (pss_one (ps_asg (pe_lstI (pa_cons (pe_op op_addNb (pv 1) pe_int) (pa_cons (pe_op op_subNb (pv 1) pe_int) (pa_cons (pe_cmpR (eqDK (K := K) rfl hr.units) (pv 1) pe_int (nomark _)) pa_nil)))) (pg_slS (pv 3) pe_int pe_int))) pss_nil))
      (pss_one (ps_ret (pe_ix (ixL (K := K) rfl) (pv 3) (pe_call (ok_l_take T) (hr.mono (by omega)) (by rfl) T.d_l_take.mg T.d_l_take.fn.kp T.d_l_take.b .nil pass0 (pa_cons (pv 0) (pa_cons pe_int pa_nil))) (fun _ _ => rfl)))))) pss_nil)
      (pss_cons (ps_par3 (i := 4) (j := 5) (l := 6) (by rfl) sc_l_bent.nd rfl rfl rfl (by decide) (by decide) (by decide) rfl rfl rfl (pa_cons (pe_callTy (listI (K := K) rfl) (by rfl) T.b_list (by decide +kernel) (pa_cons (pv 1) pa_nil)) (pa_cons (pe_call (ok_l_take T) (hr.mono (by omega)) (by rfl) T.d_l_take.mg T.d_l_take.fn.kp T.d_l_take.b .nil pass0 (pa_cons (pv 0) (pa_cons (pe_op op_add (pe_callB (lenA (K := K) rfl) (by rfl) T.b_len PySem.boot_len (pa_cons (pv 1) pa_nil)) pe_int) pa_nil))) (pa_cons (pe_call (ok_l_take T) (hr.mono (by omega)) (by rfl) T.d_l_take.mg T.d_l_take.fn.kp T.d_l_take.b .nil pass0 (pa_cons (pv 0) (pa_cons pe_int pa_nil))) pa_nil))) (by rfl))
      (pss_cons (ps_J (ps_if (PW.pt (pw_and (pt_cmpR op_gt (pv 2) pe_int (nomark _)) (pw_and (pt_cmpR op_lt (pv 5) (pe_callB (lenQ (K := K) rfl) (by rfl) T.b_len PySem.boot_len (pa_cons (pv 4) pa_nil)) (nomark _)) (pw_and1 (pt_cmpR op_gt (pe_call (ok_l_take T) (hr.mono (by omega)) (by rfl) T.d_l_take.mg T.d_l_take.fn.kp T.d_l_take.b .nil pass0 (pa_cons (pv 0) (pa_cons pe_int pa_nil))) pe_int (nomark _)))))) (pss_one (ps_asg (pe_call ih hr (by rfl) T.d_l_bent.mg T.d_l_bent.fn.kp T.d_l_bent.b .nil pass0 (pa_cons (pv 0) (pa_cons (pe_ix (ixL (K := K) rfl) (pv 4) (pv 5) (fun _ _ => rfl)) (pa_cons (pe_op op_sub (pv 2) pe_int) pa_nil)))) (pg_sub (pv 4) (pv 5) set_list))) (pss_one (ps_if (pt_cmpR op_eq (pv 6) pe_int (nomark _)) (pss_one (ps_set (i := 4) sc_l_bent.nd rfl (by first | exact Or.inl rfl | exact Or.inr rfl) (pe_op op_catI (pe_slice (slL (K := K) rfl) (pv 4) po_none (po_some (pv 5))) (pe_slice (slL (K := K) rfl) (pv 4) (po_some (pe_op op_add (pv 5) pe_int)) po_none)))) (pss_one (ps_if (pt_cmpR op_eq (pv 6) pe_int (nomark _)) (pss_one (ps_set (i := 4) sc_l_bent.nd rfl (by first | exact Or.inl rfl | exact Or.inr rfl) (pe_op op_catI (pe_op op_catI (pe_slice (slL (K := K) rfl) (pv 4) po_none (po_some (pv 5))) (pe_slice (slL (K := K) rfl) (pv 4) (po_some (pv 5)) (po_some (pe_op op_add (pv 5) pe_int)))) (pe_slice (slL (K := K) rfl) (pv 4) (po_some (pv 5)) po_none)))) (pss_one (ps_if (pt_cmpR op_eq (pv 6) pe_int (nomark _)) (pss_one (ps_set (i := 4) sc_l_bent.nd rfl (by first | exact Or.inl rfl | exact Or.inr rfl) (pe_op op_catI (pe_op op_catI (pe_slice (slL (K := K) rfl) (pv 4) po_none (po_some (pv 5))) (pe_revL (pe_slice (slL (K := K) rfl) (pv 4) (po_some (pv 5)) (po_some (pe_op op_add (pv 5) pe_int))))) (pe_slice (slL (K := K) rfl) (pv 4) (po_some (pe_op op_add (pv 5) pe_int)) po_none)))) (pss_one (ps_if (pt_cmpR op_eq (pv 6) pe_int (nomark _)) (pss_one (ps_expr (pe_bm PySem.F.plainAttrs_list PySem.F.slot_list_insert PySem.F.type_list_insert mt_insert (pv 4) (pa_cons (pv 5) (pa_cons (pe_ix (ixL (K := K) rfl) (pe_lstI (pa_cons pe_int (pa_cons pe_non (pa_cons (pe_tupI pa_nil) (pa_cons (pe_lstI pa_nil) (pa_cons pe_bl (pa_cons pe_str pa_nil))))))) (pe_call (ok_l_take T) (hr.mono (by omega)) (by rfl) T.d_l_take.mg T.d_l_take.fn.kp T.d_l_take.b .nil pass0 (pa_cons (pv 0) (pa_cons pe_int pa_nil))) (fun _ _ => rfl)) pa_nil))))) (pss_one (ps_if (pt_cmpR op_eq (pv 6) pe_int (nomark _)) (pss_one (ps_ret (pe_ifExp (pt_val (pe_callB (isiK (K := K) rfl) (by rfl) T.b_isinstance (by decide +kernel) (pa_cons (pv 1) (pa_cons (pe_bltn (v := .ty "tuple") (by rfl) T.b_tuple (by decide +kernel) rfl) pa_nil)))) (pv 4) (pe_callTy (tupJ (K := K) rfl) (by rfl) T.b_tuple (by decide +kernel) (pa_cons (pv 4) pa_nil))))) (pss_one (ps_if (pt_cmpR op_eq (pv 6) pe_int (nomark _)) (pss_one (ps_expr (pe_bm0 PySem.F.plainAttrs_list PySem.F.slot_list_reverse PySem.F.type_list_reverse mt_reverse (pv 4)))) (pss_one (ps_set (i := 4) sc_l_bent.nd rfl (by first | exact Or.inl rfl | exact Or.inr rfl) (pe_ix (ixL (K := K) rfl) (pe_lstI (pa_cons (pe_slice (slL (K := K) rfl) (pv 4) po_none (po_some (pv 5))) (pa_cons (pe_op op_catI (pv 4) (pv 4)) pa_nil))) (pe_op op_sub (pv 6) pe_int) (fun _ _ => rfl))))))))))))))))))
      (pss_one (ps_ret (pe_ifExp (pt_val (pe_callB (isiK (K := K) rfl) (by rfl) T.b_isinstance (by decide +kernel) (pa_cons (pv 1) (pa_cons (pe_bltn (v := .ty "tuple") (by rfl) T.b_tuple (by decide +kernel) rfl) pa_nil)))) (pe_callTy (tupJ (K := K) rfl) (by rfl) T.b_tuple (by decide +kernel) (pa_cons (pv 4) pa_nil)) (pv 4))))))), ?_⟩
    refine ⟨_, rfl, rfl, fun tp H1 s1 htp htp2 => ?_⟩
    have hB1 := hB.same s1
    have hT1 := hT.same s1
    have avo : ∀ {Ha : Hp} {b : Addr}, Fr p H Ha → Ha b = none → b ≠ p → ¬ Av b := fun {Ha b} F nb bp z => by
      obtain ⟨o, ho⟩ := hAv _ z
      rw [F _ _ bp ho] at nb
      cases nb
    rcases hT1.look hAp (by omega) with ⟨t, bi, ty, kl, kt, ki, num⟩ | ⟨t, bl, bt, a, xs, ds, m, rfl, rfl, ty, kl, kt, kk, sq, tg, ew⟩
    · refine ⟨_, tp, _, _, [.type "list", .type "tuple"], false, rfl, htp2, .cons (.ty _) (.cons (.ty _) .nil), ty H1, kitAny_cons (kit_ty kl) (fun _ => kitAny_cons (kit_ty kt) (fun _ => rfl) (fun z => nomatch z)) (fun z => nomatch z), false, rfl, iteT ?_⟩
      refine ⟨_, rfl, rfl, fun l1 H2 s2 n2 h2 => ?_⟩
      refine ⟨_, rfl, rfl, fun u1 H3 s3 n3 h3 => ?_⟩
      refine ⟨_, rfl, _, _, rfl, rfl, ⟨by decide, by decide, by decide⟩, _, _, rfl, rfl, ⟨by decide, by decide, by decide⟩, _, _, rfl, rfl, rfl, fun ls H4 s4 n4 h4 => ?_⟩
      have s24 := s3.trans s4
      have s14 := s2.trans s24
      have hT3 := hT1.same (s2.trans s3)
      have hT4 := hT1.same s14
      have l1p : l1 ≠ p := hB1.new n2
      have lsp : ls ≠ p := ((hB1.same s2).same s3).new n4
      have tgl : Tg K Av H3 (B + 1) (n + 1) (.ref l1) (.list [d]) := .lst (s3 _ _ h2) (avo (.of s1) n2 l1p) rfl (TgAll.cons (hT3.up (by omega) (Nat.le_refl _)) .nil).2
      have tgt : Tg K Av H3 (B + 1) (n + 1) (.ref u1) (.tuple [d]) := .tup (SqT.of h3) rfl (TgAll.cons (hT3.up (by omega) (Nat.le_refl _)) .nil).2
      have rest3 : TgAll K Av H3 (B + 1) (n + 1) [.str "1", .ref l1, .ref u1, .int (-1), .int (10 ^ 6), .int (10 ^ 6 + 1), .int 1] [.str "1", .list [d], .tuple [d], .int (-1), .int (10 ^ 6), .int (10 ^ 6 + 1), .int 1] :=
        .cons (.str _ _ 0 (by decide +kernel) (by decide +kernel)) (.cons tgl (.cons tgt (.cons (.int _ _ (by show 1 ≤ B + 1; omega)) (.cons (.int _ _ (by show 1000000 ≤ B + 1; omega)) (.cons (.int _ _ (by show 1000001 ≤ B + 1; omega)) (.cons (.int _ _ (by show 1 ≤ B + 1; omega)) .nil))))))
      have rest := rest3.same s4
      have wrest : ∀ e ∈ ([.str "1", .list [d], .tuple [d], .int (-1), .int (10 ^ 6), .int (10 ^ 6 + 1), .int 1] : List PyData), PyData.weight e ≤ W + 200 := fun e he => by
        simp only [List.mem_cons, List.not_mem_nil, or_false] at he
        rcases he with e1 | e1 | e1 | e1 | e1 | e1 | e1 <;> rw [e1]
        · show 1 ≤ W + 200; omega
        · show PyData.weight d + 1 + 0 ≤ W + 200; omega
        · show PyData.weight d + 1 + 0 ≤ W + 200; omega
        · exact Nat.le_trans (wt_int (by decide)) (by omega)
        · exact Nat.le_trans (wt_int (by decide)) (by omega)
        · exact Nat.le_trans (wt_int (by decide)) (by omega)
        · exact Nat.le_trans (wt_int (by decide)) (by omega)
      refine ⟨fun σ' H' => ∃ (ss : List V) (es : List PyData), σ' = [some (.ref p), some v, some (.int (dp : Int)), some (.ref ls), none, none, none] ∧ Same H1 H' ∧ H' ls = some (.lst ss) ∧ TgAll K Av H' (B + 1) (n + 1) ss es ∧ ss.length = 10 ∧ ∀ e ∈ es, PyData.weight e ≤ W + 200, ?_, ?_⟩
      · rintro σ' H5 ⟨ss, es, rfl, s5, hls, tg, l10, wt⟩
        refine ⟨_, rfl, _, rfl, p, 10, nb, rfl, hB1.same s5, by omega, by decide, by decide, fun z H6 z0 z1 B6 F6 => ?_⟩
        obtain ⟨zi, rfl⟩ : ∃ zi : Nat, z = (zi : Int) := ⟨z.toNat, by omega⟩
        obtain ⟨x, e, ex, ee, tx⟩ := tg.at_ (i := zi) (by omega)
        refine ⟨ls, _, (zi : Int), x, rfl, rfl, SqL.of (F6 _ _ lsp hls), at_of rfl ex, ?_⟩
        exact q x e H6 (B6.mono (by omega)) ((Fr.of (s1.trans s5)).trans F6) (tx.fr hAp (hB1.same s5) F6) (by have := wt e (List.mem_of_getElem? ee); omega)
      · refine ⟨_, rfl, _, _, _, _, _, rfl, .ty _, ty H4, kit_ty ki, ?_⟩
        cases bi with
        | false =>
          refine ⟨_, rfl, iteF ?_⟩
          refine ⟨_, _, rfl, s14, h4, .cons (.int _ _ (Nat.zero_le _)) (.cons (.bl _ _) (.cons (.non _) rest)), rfl, fun e he => ?_⟩
          simp only [List.mem_cons] at he
          rcases he with e1 | e1 | e1 | he
          · rw [e1]; exact Nat.zero_le _
          · rw [e1]; exact Nat.zero_le _
          · rw [e1]; exact Nat.zero_le _
          · exact wrest e (by simpa using he)
        | true =>
          obtain ⟨⟨i, hi, ib⟩, sh⟩ := num rfl
          refine ⟨_, rfl, iteT ?_⟩
          refine ⟨_, rfl, i, _, hi, rfl, _, rfl, i, _, hi, rfl, _, rfl, d, .int 1, hT4.dp, .int _, sh, rfl, rfl, fun l3 H5 s5 n5 h5 => ?_⟩
          have hls5 := s5 _ _ h4
          have ls3 : ls ≠ l3 := ne_of_none h4 n5
          refine ⟨_, rfl, ls, l3, _, _, 0, 3, rfl, rfl, rfl, rfl, hls5, h5, ls3, by decide, by decide, by show (3 : Int) ≤ 10; decide, by show 10 + 3 ≤ _; rw [sizeLine_eq]; decide, ?_⟩
          have nls : H1 ls = none := same_none' (s2.trans s3) n4
          have i1 : (i + 1).natAbs ≤ B + 1 := by omega
          have i2 : (i - 1).natAbs ≤ B + 1 := by omega
          refine ⟨_, _, rfl, Same.put (s14.trans s5) nls, upd_same, .cons (.int _ _ i1) (.cons (.int _ _ i2) (.cons (.bl _ _) (rest3.same (Same.put (s4.trans s5) n4)))), rfl, fun e he => ?_⟩
          simp only [List.mem_cons] at he
          rcases he with e1 | e1 | e1 | he
          · rw [e1]; exact Nat.le_trans (wt_int (by omega)) (by omega)
          · rw [e1]; exact Nat.le_trans (wt_int (by omega)) (by omega)
          · rw [e1]; exact Nat.zero_le _
          · exact wrest e (by simpa using he)
    · refine ⟨_, tp, _, _, [.type "list", .type "tuple"], true, rfl, htp2, .cons (.ty _) (.cons (.ty _) .nil), ty H1 nb hB1 Fr.refl, kitAny_cons (kit_ty kl) (fun z => kitAny_cons (kit_ty kt) (fun y => nomatch (kk z).symm.trans y) (fun _ => rfl)) (fun _ => rfl), true, rfl, iteF ?_⟩
      have hlv : LenV K (.ref a) H1 xs.length := sq.elim (fun h => .inl ⟨_, h, rfl⟩) fun h => .inr ⟨_, h, rfl⟩
      refine ⟨_, rfl, a, xs, rfl, sq, fun r0 H2 s2 n2 h2 => ?_⟩
      have hB2 := hB1.same s2
      have r0p : r0 ≠ p := hB1.new n2
      have r0a : ¬ Av r0 := avo (.of s1) n2 r0p
      have avn : ∀ {Ha : Hp} {b : Addr}, Fr p H1 Ha → Ha b = none → b ≠ p → ¬ Av b := fun {Ha b} F nb bp => avo ((Fr.of s1).trans F) nb bp
      have hlv2 : LenV K (.ref a) H2 xs.length := sq.elim (fun h => .inl ⟨_, Same.seq s2 h, rfl⟩) fun h => .inr ⟨_, Same.tup s2 h, rfl⟩
      have xl : xs.length ≤ 50000 := by
        rw [tg.1]
        have wl : ∀ l : List PyData, l.length ≤ PyData.weightAll l := fun l => by
          induction l with
          | nil => exact Nat.le_refl _
          | cons y l ih =>
            show l.length + 1 ≤ PyData.weight y + 1 + PyData.weightAll l
            omega
        have := wl ds
        omega
      refine ⟨_, rfl, _, rfl, _, _, rfl, hlv2, _, _, rfl, rfl, p, _, nb, rfl, hB2, by omega, by omega, by omega, fun at_ H3 a0 a1 B3 F3 => ?_⟩
      refine ⟨_, rfl, p, 8, nb + 1, rfl, B3, by omega, by decide, by decide, fun way H4 w0 w1 B4 F4 => ⟨_, _, _, rfl, ?_⟩⟩
      obtain ⟨k', rfl⟩ : ∃ k' : Nat, at_ = (k' : Int) := ⟨at_.toNat, by omega⟩
      have hr4 := F4 _ _ r0p (F3 _ _ r0p h2)
      have F14 : Fr p H1 H4 := (Fr.of s2).trans (F3.trans F4)
      have wx : PyData.weightAll ds ≤ W := by rw [← ew]; exact hw
      refine ⟨fun σ' H' => ∃ (ro : Addr) (ys : List V) (es : List PyData), σ' = [some (.ref p), some (.ref a), some (.int (dp : Int)), none, some (.ref ro), some (.int (k' : Int)), some (.int way)] ∧ BoxAt H' p (nb + 5 * (dp + 1)) ∧ Fr p H1 H' ∧ H' ro = some (.lst ys) ∧ ¬ Av ro ∧ TgAll K Av H' (B + 1) (m + 1) ys es ∧ PyData.weightAll es ≤ 3 * W + 200, ?_, ?_⟩
      · rintro σ' H5 ⟨ro, ys, es, rfl, B5, F5, hro, rop, tg5, w5⟩
        have FH : Fr p H H5 := (Fr.of s1).trans F5
        have tl : Tg K Av H5 (B + 1) (m + 1 + 1) (.ref ro) (.list es) := .lst hro rop tg5.1 tg5.2
        refine ⟨_, rfl, _, _, _, _, _, rfl, .ty _, ty H5 nb hB1 F5, kit_ty kt, ?_⟩
        cases bt with
        | true =>
          refine ⟨_, rfl, iteT ?_⟩
          refine ⟨_, rfl, ro, _, rfl, .inl ⟨SqL.of hro, fun tn H6 s6 n6 h6 => ?_⟩⟩
          exact q _ (.tuple es) H6 (B5.same s6) (FH.trans (.of s6)) (.tup (SqT.of h6) tg5.1 (tg5.same s6).2) w5
        | false =>
          refine ⟨_, rfl, iteF ⟨_, rfl, ?_⟩⟩
          exact q _ (.list es) H5 B5 FH tl w5
      · refine ⟨_, rfl, _, _, rfl, rfl, _, rfl, ?_⟩
        by_cases cd : 0 < dp
        · refine ite_bT (decide_eq_true (by omega)) ?_
          refine ⟨_, rfl, _, rfl, r0, _, rfl, .inl (SqL.of hr4), _, _, rfl, rfl, _, rfl, ?_⟩
          by_cases ca : k' < xs.length
          · refine ite_bT (decide_eq_true (by omega)) ?_
            refine ⟨_, rfl, p, 4, _, rfl, B4, by omega, by decide, by decide, fun z Hq z0 z1 Bq F5q => ?_⟩
            refine ⟨_, _, rfl, rfl, _, rfl, ?_⟩
            have Fq : Fr p H1 Hq := F14.trans F5q
            have hrq := F5q _ _ r0p hr4
            have tgx := TgAll.fr hAp tg hB1 Fq
            by_cases cz : 0 < z
            · refine ite_bT (decide_eq_true cz) ?_
              let Av' : Addr → Prop := fun a => Av a ∨ a = r0
              have hAp' : Av' p := .inl hAp
              have hAv' : ∀ a, Av' a → ∃ o, Hq a = some o := fun a z => by
                rcases z with z | z
                · by_cases c : a = p
                  · rw [c]
                    exact Bq.some
                  · obtain ⟨o, ho⟩ := hAv a z
                    exact ⟨o, Fq _ _ c (s1 _ _ ho)⟩
                · rw [z]
                  exact ⟨_, hrq⟩
              have tga : TgAll K Av' H1 B m xs ds := ⟨tg.1, fun i x d e1 e2 => (tg.2 i x d e1 e2).avoid n2⟩
              obtain ⟨x, e, ex, ee, tx⟩ := (TgAll.fr hAp' tga hB1 Fq).at_ ca
              have we := wa_at ee
              refine ⟨_, rfl, _, rfl, _, rfl, r0, _, (k' : Int), x, rfl, rfl, SqL.of hrq, at_of rfl ex, _, rfl, _, _, rfl, rfl, ?_⟩
              refine ⟨p, Av', nb + 2 + 1, dp - 1, m, B, PyData.weight e, x, e, by show [V.ref p, x, V.int ((dp : Int) - 1)] = _; rw [show (dp : Int) - 1 = ((dp - 1 : Nat) : Int) by omega], hAp', hAv', Bq, by omega, tx, B1, B2, Nat.le_refl _, by omega, by omega, by omega, fun v' d' H6 B6 F6 t6 w6 => ?_⟩
              have hr6 := F6 _ _ r0p hrq
              refine ⟨_, rfl, _, rfl, r0, _, (k' : Int), k', rfl, rfl, hr6, ixN_at' ca, ?_⟩
              have F16 : Fr p H1 H6 := Fq.trans F6
              have Fu := F16.put' (o := .lst (xs.set k' v')) n2
              have tgu := (TgAll.fr hAp tg hB1 Fu).up (B' := B + 1) (m := m + 1) (by omega) (by omega)
              have ws := wa_set (e := d') ee
              have tv : Tg K Av (upd H6 r0 (.lst (xs.set k' v'))) (B + 1) (m + 1) v' d' := (t6.wr (r := r0) (.inr rfl) hr6).less fun a h => .inl h
              exact ⟨r0, _, ds.set k' d', rfl, (B6.upd r0p).mono (by omega), Fu, upd_same, r0a, tgu.set tv, by omega⟩
            · refine ite_bF (decide_eq_false cz) ?_
              refine ⟨_, rfl, rfl, _, rfl, ?_⟩
              by_cases c0 : way = 0
              · refine ite_bT (decide_eq_true (by rw [c0])) ?_
                refine ⟨_, rfl, _, rfl, _, rfl, r0, _, rfl, SqL.of hrq, fun c1 G1 t1 o1 y1 => ?_⟩
                refine ⟨_, rfl, _, rfl, _, _, rfl, rfl, _, rfl, r0, _, rfl, SqL.of (t1 _ _ hrq), fun c2 G2 t2 o2 y2 => ?_⟩
                refine ⟨c1, c2, _, _, rfl, rfl, t2 _ _ y1, y2, ?_, fun ro G3 t3 o3 y3 => ?_⟩
                · have e1 := cutV_length xs none (some (k' : Int))
                  have e2 := cutV_length xs (some ((k' : Int) + 1)) none
                  rw [sizeLine_eq]
                  omega
                have tG := tgx.same (t1.trans (t2.trans t3))
                obtain ⟨e1, g1, w1'⟩ := tG.cut none (some (k' : Int))
                obtain ⟨e2, g2, w2'⟩ := tG.cut (some ((k' : Int) + 1)) none
                exact ⟨ro, _, _, rfl, ((((Bq.same t1).same t2).same t3).mono (by omega)), Fq.trans (.of (t1.trans (t2.trans t3))), y3, avn (Fq.trans (.of (t1.trans t2))) o3 (((Bq.same t1).same t2).new o3), (g1.app g2).up (by omega) (by omega), by rw [wa_app]; omega⟩
              refine ite_bF (decide_eq_false fun e => c0 (by injection e)) ?_
              refine ⟨_, rfl, rfl, _, rfl, ?_⟩
              by_cases c1' : way = 1
              · refine ite_bT (decide_eq_true (by rw [c1'])) ?_
                refine ⟨_, rfl, _, rfl, _, rfl, r0, _, rfl, SqL.of hrq, fun c1 G1 t1 o1 y1 => ?_⟩
                refine ⟨_, rfl, _, rfl, _, rfl, _, rfl, _, _, rfl, rfl, _, rfl, r0, _, rfl, SqL.of (t1 _ _ hrq), fun c2 G2 t2 o2 y2 => ?_⟩
                refine ⟨c1, c2, _, _, rfl, rfl, t2 _ _ y1, y2, ?_, fun c3 G3 t3 o3 y3 => ?_⟩
                · have e1 := cutV_length xs none (some (k' : Int))
                  have e2 := cutV_length xs (some (k' : Int)) (some ((k' : Int) + 1))
                  rw [sizeLine_eq]
                  omega
                refine ⟨_, rfl, _, rfl, _, rfl, r0, _, rfl, SqL.of ((t1.trans (t2.trans t3)) _ _ hrq), fun c4 G4 t4 o4 y4 => ?_⟩
                refine ⟨c3, c4, _, _, rfl, rfl, t4 _ _ y3, y4, ?_, fun ro G5 t5 o5 y5 => ?_⟩
                · have e1 := cutV_length xs none (some (k' : Int))
                  have e2 := cutV_length xs (some (k' : Int)) (some ((k' : Int) + 1))
                  have e3 := cutV_length xs (some (k' : Int)) none
                  rw [sizeLine_eq, List.length_append]
                  omega
                have t15 := t1.trans (t2.trans (t3.trans (t4.trans t5)))
                have tG := tgx.same t15
                obtain ⟨e1, g1, w1'⟩ := tG.cut none (some (k' : Int))
                obtain ⟨e2, g2, w2'⟩ := tG.cut (some (k' : Int)) (some ((k' : Int) + 1))
                obtain ⟨e3, g3, w3'⟩ := tG.cut (some (k' : Int)) none
                exact ⟨ro, _, _, rfl, (Bq.same t15).mono (by omega), Fq.trans (.of t15), y5, avn (Fq.trans (.of (t1.trans (t2.trans (t3.trans t4))))) o5 ((Bq.same (t1.trans (t2.trans (t3.trans t4)))).new o5), ((g1.app g2).app g3).up (by omega) (by omega), by rw [wa_app, wa_app]; omega⟩
              refine ite_bF (decide_eq_false fun e => c1' (by injection e)) ?_
              refine ⟨_, rfl, rfl, _, rfl, ?_⟩
              by_cases c2' : way = 2
              · refine ite_bT (decide_eq_true (by rw [c2'])) ?_
                refine ⟨_, rfl, _, rfl, _, rfl, r0, _, rfl, SqL.of hrq, fun c1 G1 t1 o1 y1 => ?_⟩
                refine ⟨_, rfl, _, rfl, _, rfl, _, rfl, _, _, rfl, rfl, _, rfl, r0, _, rfl, SqL.of (t1 _ _ hrq), fun c2 G2 t2 o2 y2 => ⟨c2, _, rfl, SqL.of y2, fun c3 nc3 => ?_⟩⟩
                have t3 : Same G2 (upd G2 c3 (.lst (cutV xs (some (k' : Int)) (some ((k' : Int) + 2))).reverse)) := same_new nc3
                have y3 : (upd G2 c3 (.lst (cutV xs (some (k' : Int)) (some ((k' : Int) + 2))).reverse)) c3 = some (.lst (cutV xs (some (k' : Int)) (some ((k' : Int) + 2))).reverse) := upd_same
                generalize upd G2 c3 (.lst (cutV xs (some (k' : Int)) (some ((k' : Int) + 2))).reverse) = G3 at t3 y3
                refine ⟨c1, c3, _, _, rfl, rfl, (t2.trans t3) _ _ y1, y3, ?_, fun c4 G4 t4 o4 y4 => ?_⟩
                · have e1 := cutV_length xs none (some (k' : Int))
                  have e2 := cutV_length xs (some (k' : Int)) (some ((k' : Int) + 2))
                  rw [sizeLine_eq, List.length_reverse]
                  omega
                have t14 := t1.trans (t2.trans (t3.trans t4))
                refine ⟨_, rfl, _, rfl, _, _, rfl, rfl, _, rfl, r0, _, rfl, SqL.of (t14 _ _ hrq), fun c5 G5 t5 o5 y5 => ?_⟩
                refine ⟨c4, c5, _, _, rfl, rfl, t5 _ _ y4, y5, ?_, fun ro G6 t6 o6 y6 => ?_⟩
                · have e1 := cutV_length xs none (some (k' : Int))
                  have e2 := cutV_length xs (some (k' : Int)) (some ((k' : Int) + 2))
                  have e3 := cutV_length xs (some ((k' : Int) + 2)) none
                  rw [sizeLine_eq, List.length_append, List.length_reverse]
                  omega
                have t16 := t14.trans (t5.trans t6)
                have tG := tgx.same t16
                obtain ⟨e1, g1, w1'⟩ := tG.cut none (some (k' : Int))
                obtain ⟨e2, g2, w2'⟩ := tG.cut (some (k' : Int)) (some ((k' : Int) + 2))
                obtain ⟨e3, g3, w3'⟩ := tG.cut (some ((k' : Int) + 2)) none
                exact ⟨ro, _, _, rfl, (Bq.same t16).mono (by omega), Fq.trans (.of t16), y6, avn (Fq.trans (.of (t14.trans t5))) o6 ((Bq.same (t14.trans t5)).new o6), ((g1.app g2.rev).app g3).up (by omega) (by omega), by rw [wa_app, wa_app, wa_rev]; omega⟩
              refine ite_bF (decide_eq_false fun e => c2' (by injection e)) ?_
              refine ⟨_, rfl, rfl, _, rfl, ?_⟩
              by_cases c3' : way = 3
              · refine ite_bT (decide_eq_true (by rw [c3'])) ?_
                refine ⟨_, rfl, .inl ⟨rfl, _, SqL.of hrq⟩, _, rfl, rfl, fun e1 G1 t1 o1 y1 => ⟨rfl, fun e2 G2 t2 o2 y2 => ⟨rfl, fun l1 G3 t3 o3 y3 => ?_⟩⟩⟩
                have t13 := t1.trans (t2.trans t3)
                have e2p : e2 ≠ p := (Bq.same t1).new o2; have e2a : ¬ Av e2 := avn (Fq.trans (.of t1)) o2 e2p
                have l1p : l1 ≠ p := ((Bq.same t1).same t2).new o3
                refine ⟨_, rfl, p, 6, _, rfl, Bq.same t13, by omega, by decide, by decide, fun z G4 z0 z1 B5 F5 => ?_⟩
                have F15 : Fr p H1 G4 := (Fq.trans (.of t13)).trans F5
                have hr5 := F5 _ _ r0p (t13 _ _ hrq)
                obtain ⟨y, e, ey, ty', we⟩ : ∃ (y : V) (e : PyData), atI ([.int 0, .non, .ref e1, .ref e2, .bl true, .str "0"] : List V) z = some y ∧ (∀ Hz, SqT K Hz e1 [] → Hz e2 = some (.lst []) → Tg K Av Hz (B + 1) (m + 1) y e) ∧ PyData.weight e ≤ 1 := by
                  have cs : z = 0 ∨ z = 1 ∨ z = 2 ∨ z = 3 ∨ z = 4 ∨ z = 5 := by omega
                  rcases cs with c | c | c | c | c | c <;> subst c
                  · exact ⟨.int 0, .int 0, rfl, fun _ _ _ => .int _ _ (Nat.zero_le _), by decide⟩
                  · exact ⟨.non, .none, rfl, fun _ _ _ => .non _, by decide⟩
                  · exact ⟨.ref e1, .tuple [], rfl, fun Hz f1 _ => .tup f1 rfl fun i x d hx => by simp at hx, by decide⟩
                  · exact ⟨.ref e2, .list [], rfl, fun Hz _ f2 => .lst f2 e2a rfl fun i x d hx => by simp at hx, by decide⟩
                  · exact ⟨.bl true, .bool true, rfl, fun _ _ _ => .bl _ _, by decide⟩
                  · exact ⟨.str "0", .str "0", rfl, fun _ _ _ => .str _ _ 0 (by decide +kernel) (by decide +kernel), by decide +kernel⟩
                refine ⟨l1, _, z, y, rfl, rfl, SqL.of (F5 _ _ l1p y3), ey, r0, _, (k' : Int), y, rfl, rfl, hr5, by rw [sizeLine_eq]; omega, by omega, by omega, ?_⟩
                rw [Int.toNat_natCast]
                have Fu := F15.put' (o := .lst (xs.take k' ++ [y] ++ xs.drop k')) n2
                have tgu := (TgAll.fr hAp tg hB1 Fu).up (B' := B + 1) (m := m + 1) (by omega) (by omega)
                have q1 : SqT K (upd G4 r0 (.lst (xs.take k' ++ [y] ++ xs.drop k'))) e1 [] := sqT_frL (sqT_fr (SqT.of ((t2.trans t3) _ _ y1)) (Bq.same t13) F5) hr5 fr_upd
                have q2 : (upd G4 r0 (.lst (xs.take k' ++ [y] ++ xs.drop k'))) e2 = some (.lst []) := by
                  rw [upd_ne (ne_of_none (t1 _ _ hrq) o2).symm]
                  exact F5 _ _ e2p (t3 _ _ y2)
                refine ⟨r0, _, ds.take k' ++ [e] ++ ds.drop k', rfl, (B5.upd r0p).mono (by omega), Fu, upd_same, r0a, ((tgu.take k').app (.cons (ty' _ q1 q2) .nil)).app (tgu.drop k'), ?_⟩
                have wc := wa_cut ds k'
                rw [wa_app, wa_app]
                show _ + (PyData.weight e + 1 + 0) + _ ≤ _
                omega
              refine ite_bF (decide_eq_false fun e => c3' (by injection e)) ?_
              refine ⟨_, rfl, rfl, _, rfl, ?_⟩
              by_cases c4' : way = 4
              · refine ite_bT (decide_eq_true (by rw [c4'])) ?_
                refine ⟨_, rfl, _, _, _, _, _, rfl, .ty _, ty Hq nb hB1 Fq, kit_ty kt, ?_⟩
                have FH : Fr p H Hq := (Fr.of s1).trans Fq
                have tgu := tgx.up (B' := B + 1) (m := m + 1) (by omega) (by omega)
                cases bt with
                | true => exact ⟨_, rfl, iteT ⟨_, rfl, q _ (.list ds) Hq (Bq.mono (by omega)) FH (.lst hrq r0a tgu.1 tgu.2) (by show PyData.weightAll ds ≤ _; omega)⟩⟩
                | false => exact ⟨_, rfl, iteF ⟨_, rfl, r0, _, rfl, .inl ⟨SqL.of hrq, fun tn H6 s6 n6 h6 => q _ (.tuple ds) H6 ((Bq.same s6).mono (by omega)) (FH.trans (.of s6)) (.tup (SqT.of h6) tgu.1 (tgu.same s6).2) (by show PyData.weightAll ds ≤ _; omega)⟩⟩⟩
              refine ite_bF (decide_eq_false fun e => c4' (by injection e)) ?_
              refine ⟨_, rfl, rfl, _, rfl, ?_⟩
              by_cases c5' : way = 5
              · refine ite_bT (decide_eq_true (by rw [c5'])) ?_
                refine ⟨_, rfl, .inl ⟨rfl, _, SqL.of hrq⟩, r0, _, rfl, rfl, hrq, ?_⟩
                have Fu := Fq.put' (o := .lst xs.reverse) n2
                exact ⟨r0, _, ds.reverse, rfl, (Bq.upd r0p).mono (by omega), Fu, upd_same, r0a, ((TgAll.fr hAp tg hB1 Fu).rev).up (by omega) (by omega), by rw [wa_rev]; omega⟩
              refine ite_bF (decide_eq_false fun e => c5' (by injection e)) ?_
              refine ⟨_, rfl, _, rfl, _, rfl, r0, _, rfl, SqL.of hrq, fun c1 G1 t1 o1 y1 => ?_⟩
              refine ⟨_, rfl, _, rfl, r0, r0, _, _, rfl, rfl, t1 _ _ hrq, t1 _ _ hrq, by rw [sizeLine_eq]; omega, fun c2 G2 t2 o2 y2 => ⟨rfl, fun c3 G3 t3 o3 y3 => ?_⟩⟩
              have t13 := t1.trans (t2.trans t3)
              have tG := tgx.same t13
              obtain ⟨e1, g1, w1'⟩ := tG.cut none (some (k' : Int))
              have cs : way = 6 ∨ way = 7 := by omega
              rcases cs with c | c
              · refine ⟨_, rfl, _, _, rfl, rfl, c3, _, 0, .ref c1, rfl, by rw [c] <;> rfl, SqL.of y3, at0, ?_⟩
                exact ⟨c1, _, _, rfl, (Bq.same t13).mono (by omega), Fq.trans (.of t13), (t2.trans t3) _ _ y1, avn Fq o1 (Bq.new o1), g1.up (by omega) (by omega), by omega⟩
              · refine ⟨_, rfl, _, _, rfl, rfl, c3, _, 1, .ref c2, rfl, by rw [c] <;> rfl, SqL.of y3, at1, ?_⟩
                exact ⟨c2, _, _, rfl, (Bq.same t13).mono (by omega), Fq.trans (.of t13), t3 _ _ y2, avn (Fq.trans (.of t1)) o2 ((Bq.same t1).new o2), (tG.app tG).up (by omega) (by omega), by rw [wa_app]; omega⟩
          · refine ite_bF (decide_eq_false (by omega)) ?_
            have tgx := TgAll.fr hAp tg hB1 F14
            refine ⟨_, rfl, rfl, _, rfl, ?_⟩
            by_cases c0 : way = 0
            · refine ite_bT (decide_eq_true (by rw [c0])) ?_
              refine ⟨_, rfl, _, rfl, _, rfl, r0, _, rfl, SqL.of hr4, fun c1 G1 t1 o1 y1 => ?_⟩
              refine ⟨_, rfl, _, rfl, _, _, rfl, rfl, _, rfl, r0, _, rfl, SqL.of (t1 _ _ hr4), fun c2 G2 t2 o2 y2 => ?_⟩
              refine ⟨c1, c2, _, _, rfl, rfl, t2 _ _ y1, y2, ?_, fun ro G3 t3 o3 y3 => ?_⟩
              · have e1 := cutV_length xs none (some (k' : Int))
                have e2 := cutV_length xs (some ((k' : Int) + 1)) none
                rw [sizeLine_eq]
                omega
              have tG := tgx.same (t1.trans (t2.trans t3))
              obtain ⟨e1, g1, w1'⟩ := tG.cut none (some (k' : Int))
              obtain ⟨e2, g2, w2'⟩ := tG.cut (some ((k' : Int) + 1)) none
              exact ⟨ro, _, _, rfl, ((((B4.same t1).same t2).same t3).mono (by omega)), F14.trans (.of (t1.trans (t2.trans t3))), y3, avn (F14.trans (.of (t1.trans t2))) o3 (((B4.same t1).same t2).new o3), (g1.app g2).up (by omega) (by omega), by rw [wa_app]; omega⟩
            refine ite_bF (decide_eq_false fun e => c0 (by injection e)) ?_
            refine ⟨_, rfl, rfl, _, rfl, ?_⟩
            by_cases c1' : way = 1
            · refine ite_bT (decide_eq_true (by rw [c1'])) ?_
              refine ⟨_, rfl, _, rfl, _, rfl, r0, _, rfl, SqL.of hr4, fun c1 G1 t1 o1 y1 => ?_⟩
              refine ⟨_, rfl, _, rfl, _, rfl, _, rfl, _, _, rfl, rfl, _, rfl, r0, _, rfl, SqL.of (t1 _ _ hr4), fun c2 G2 t2 o2 y2 => ?_⟩
              refine ⟨c1, c2, _, _, rfl, rfl, t2 _ _ y1, y2, ?_, fun c3 G3 t3 o3 y3 => ?_⟩
              · have e1 := cutV_length xs none (some (k' : Int))
                have e2 := cutV_length xs (some (k' : Int)) (some ((k' : Int) + 1))
                rw [sizeLine_eq]
                omega
              refine ⟨_, rfl, _, rfl, _, rfl, r0, _, rfl, SqL.of ((t1.trans (t2.trans t3)) _ _ hr4), fun c4 G4 t4 o4 y4 => ?_⟩
              refine ⟨c3, c4, _, _, rfl, rfl, t4 _ _ y3, y4, ?_, fun ro G5 t5 o5 y5 => ?_⟩
              · have e1 := cutV_length xs none (some (k' : Int))
                have e2 := cutV_length xs (some (k' : Int)) (some ((k' : Int) + 1))
                have e3 := cutV_length xs (some (k' : Int)) none
                rw [sizeLine_eq, List.length_append]
                omega
              have t15 := t1.trans (t2.trans (t3.trans (t4.trans t5)))
              have tG := tgx.same t15
              obtain ⟨e1, g1, w1'⟩ := tG.cut none (some (k' : Int))
              obtain ⟨e2, g2, w2'⟩ := tG.cut (some (k' : Int)) (some ((k' : Int) + 1))
              obtain ⟨e3, g3, w3'⟩ := tG.cut (some (k' : Int)) none
              exact ⟨ro, _, _, rfl, (B4.same t15).mono (by omega), F14.trans (.of t15), y5, avn (F14.trans (.of (t1.trans (t2.trans (t3.trans t4))))) o5 ((B4.same (t1.trans (t2.trans (t3.trans t4)))).new o5), ((g1.app g2).app g3).up (by omega) (by omega), by rw [wa_app, wa_app]; omega⟩
            refine ite_bF (decide_eq_false fun e => c1' (by injection e)) ?_
            refine ⟨_, rfl, rfl, _, rfl, ?_⟩
            by_cases c2' : way = 2
            · refine ite_bT (decide_eq_true (by rw [c2'])) ?_
              refine ⟨_, rfl, _, rfl, _, rfl, r0, _, rfl, SqL.of hr4, fun c1 G1 t1 o1 y1 => ?_⟩
              refine ⟨_, rfl, _, rfl, _, rfl, _, rfl, _, _, rfl, rfl, _, rfl, r0, _, rfl, SqL.of (t1 _ _ hr4), fun c2 G2 t2 o2 y2 => ⟨c2, _, rfl, SqL.of y2, fun c3 nc3 => ?_⟩⟩
              have t3 : Same G2 (upd G2 c3 (.lst (cutV xs (some (k' : Int)) (some ((k' : Int) + 2))).reverse)) := same_new nc3
              have y3 : (upd G2 c3 (.lst (cutV xs (some (k' : Int)) (some ((k' : Int) + 2))).reverse)) c3 = some (.lst (cutV xs (some (k' : Int)) (some ((k' : Int) + 2))).reverse) := upd_same
              generalize upd G2 c3 (.lst (cutV xs (some (k' : Int)) (some ((k' : Int) + 2))).reverse) = G3 at t3 y3
              refine ⟨c1, c3, _, _, rfl, rfl, (t2.trans t3) _ _ y1, y3, ?_, fun c4 G4 t4 o4 y4 => ?_⟩
              · have e1 := cutV_length xs none (some (k' : Int))
                have e2 := cutV_length xs (some (k' : Int)) (some ((k' : Int) + 2))
                rw [sizeLine_eq, List.length_reverse]
                omega
              have t14 := t1.trans (t2.trans (t3.trans t4))
              refine ⟨_, rfl, _, rfl, _, _, rfl, rfl, _, rfl, r0, _, rfl, SqL.of (t14 _ _ hr4), fun c5 G5 t5 o5 y5 => ?_⟩
              refine ⟨c4, c5, _, _, rfl, rfl, t5 _ _ y4, y5, ?_, fun ro G6 t6 o6 y6 => ?_⟩
              · have e1 := cutV_length xs none (some (k' : Int))
                have e2 := cutV_length xs (some (k' : Int)) (some ((k' : Int) + 2))
                have e3 := cutV_length xs (some ((k' : Int) + 2)) none
                rw [sizeLine_eq, List.length_append, List.length_reverse]
                omega
              have t16 := t14.trans (t5.trans t6)
              have tG := tgx.same t16
              obtain ⟨e1, g1, w1'⟩ := tG.cut none (some (k' : Int))
              obtain ⟨e2, g2, w2'⟩ := tG.cut (some (k' : Int)) (some ((k' : Int) + 2))
              obtain ⟨e3, g3, w3'⟩ := tG.cut (some ((k' : Int) + 2)) none
              exact ⟨ro, _, _, rfl, (B4.same t16).mono (by omega), F14.trans (.of t16), y6, avn (F14.trans (.of (t14.trans t5))) o6 ((B4.same (t14.trans t5)).new o6), ((g1.app g2.rev).app g3).up (by omega) (by omega), by rw [wa_app, wa_app, wa_rev]; omega⟩
            refine ite_bF (decide_eq_false fun e => c2' (by injection e)) ?_
            refine ⟨_, rfl, rfl, _, rfl, ?_⟩
            by_cases c3' : way = 3
            · refine ite_bT (decide_eq_true (by rw [c3'])) ?_
              refine ⟨_, rfl, .inl ⟨rfl, _, SqL.of hr4⟩, _, rfl, rfl, fun e1 G1 t1 o1 y1 => ⟨rfl, fun e2 G2 t2 o2 y2 => ⟨rfl, fun l1 G3 t3 o3 y3 => ?_⟩⟩⟩
              have t13 := t1.trans (t2.trans t3)
              have e2p : e2 ≠ p := (B4.same t1).new o2; have e2a : ¬ Av e2 := avn (F14.trans (.of t1)) o2 e2p
              have l1p : l1 ≠ p := ((B4.same t1).same t2).new o3
              refine ⟨_, rfl, p, 6, _, rfl, B4.same t13, by omega, by decide, by decide, fun z G4 z0 z1 B5 F5 => ?_⟩
              have F15 : Fr p H1 G4 := (F14.trans (.of t13)).trans F5
              have hr5 := F5 _ _ r0p (t13 _ _ hr4)
              obtain ⟨y, e, ey, ty', we⟩ : ∃ (y : V) (e : PyData), atI ([.int 0, .non, .ref e1, .ref e2, .bl true, .str "0"] : List V) z = some y ∧ (∀ Hz, SqT K Hz e1 [] → Hz e2 = some (.lst []) → Tg K Av Hz (B + 1) (m + 1) y e) ∧ PyData.weight e ≤ 1 := by
                have cs : z = 0 ∨ z = 1 ∨ z = 2 ∨ z = 3 ∨ z = 4 ∨ z = 5 := by omega
                rcases cs with c | c | c | c | c | c <;> subst c
                · exact ⟨.int 0, .int 0, rfl, fun _ _ _ => .int _ _ (Nat.zero_le _), by decide⟩
                · exact ⟨.non, .none, rfl, fun _ _ _ => .non _, by decide⟩
                · exact ⟨.ref e1, .tuple [], rfl, fun Hz f1 _ => .tup f1 rfl fun i x d hx => by simp at hx, by decide⟩
                · exact ⟨.ref e2, .list [], rfl, fun Hz _ f2 => .lst f2 e2a rfl fun i x d hx => by simp at hx, by decide⟩
                · exact ⟨.bl true, .bool true, rfl, fun _ _ _ => .bl _ _, by decide⟩
                · exact ⟨.str "0", .str "0", rfl, fun _ _ _ => .str _ _ 0 (by decide +kernel) (by decide +kernel), by decide +kernel⟩
              refine ⟨l1, _, z, y, rfl, rfl, SqL.of (F5 _ _ l1p y3), ey, r0, _, (k' : Int), y, rfl, rfl, hr5, by rw [sizeLine_eq]; omega, by omega, by omega, ?_⟩
              rw [Int.toNat_natCast]
              have Fu := F15.put' (o := .lst (xs.take k' ++ [y] ++ xs.drop k')) n2
              have tgu := (TgAll.fr hAp tg hB1 Fu).up (B' := B + 1) (m := m + 1) (by omega) (by omega)
              have q1 : SqT K (upd G4 r0 (.lst (xs.take k' ++ [y] ++ xs.drop k'))) e1 [] := sqT_frL (sqT_fr (SqT.of ((t2.trans t3) _ _ y1)) (B4.same t13) F5) hr5 fr_upd
              have q2 : (upd G4 r0 (.lst (xs.take k' ++ [y] ++ xs.drop k'))) e2 = some (.lst []) := by
                rw [upd_ne (ne_of_none (t1 _ _ hr4) o2).symm]
                exact F5 _ _ e2p (t3 _ _ y2)
              refine ⟨r0, _, ds.take k' ++ [e] ++ ds.drop k', rfl, (B5.upd r0p).mono (by omega), Fu, upd_same, r0a, ((tgu.take k').app (.cons (ty' _ q1 q2) .nil)).app (tgu.drop k'), ?_⟩
              have wc := wa_cut ds k'
              rw [wa_app, wa_app]
              show _ + (PyData.weight e + 1 + 0) + _ ≤ _
              omega
            refine ite_bF (decide_eq_false fun e => c3' (by injection e)) ?_
            refine ⟨_, rfl, rfl, _, rfl, ?_⟩
            by_cases c4' : way = 4
            · refine ite_bT (decide_eq_true (by rw [c4'])) ?_
              refine ⟨_, rfl, _, _, _, _, _, rfl, .ty _, ty H4 nb hB1 F14, kit_ty kt, ?_⟩
              have FH : Fr p H H4 := (Fr.of s1).trans F14
              have tgu := tgx.up (B' := B + 1) (m := m + 1) (by omega) (by omega)
              cases bt with
              | true => exact ⟨_, rfl, iteT ⟨_, rfl, q _ (.list ds) H4 (B4.mono (by omega)) FH (.lst hr4 r0a tgu.1 tgu.2) (by show PyData.weightAll ds ≤ _; omega)⟩⟩
              | false => exact ⟨_, rfl, iteF ⟨_, rfl, r0, _, rfl, .inl ⟨SqL.of hr4, fun tn H6 s6 n6 h6 => q _ (.tuple ds) H6 ((B4.same s6).mono (by omega)) (FH.trans (.of s6)) (.tup (SqT.of h6) tgu.1 (tgu.same s6).2) (by show PyData.weightAll ds ≤ _; omega)⟩⟩⟩
            refine ite_bF (decide_eq_false fun e => c4' (by injection e)) ?_
            refine ⟨_, rfl, rfl, _, rfl, ?_⟩
            by_cases c5' : way = 5
            · refine ite_bT (decide_eq_true (by rw [c5'])) ?_
              refine ⟨_, rfl, .inl ⟨rfl, _, SqL.of hr4⟩, r0, _, rfl, rfl, hr4, ?_⟩
              have Fu := F14.put' (o := .lst xs.reverse) n2
              exact ⟨r0, _, ds.reverse, rfl, (B4.upd r0p).mono (by omega), Fu, upd_same, r0a, ((TgAll.fr hAp tg hB1 Fu).rev).up (by omega) (by omega), by rw [wa_rev]; omega⟩
            refine ite_bF (decide_eq_false fun e => c5' (by injection e)) ?_
            refine ⟨_, rfl, _, rfl, _, rfl, r0, _, rfl, SqL.of hr4, fun c1 G1 t1 o1 y1 => ?_⟩
            refine ⟨_, rfl, _, rfl, r0, r0, _, _, rfl, rfl, t1 _ _ hr4, t1 _ _ hr4, by rw [sizeLine_eq]; omega, fun c2 G2 t2 o2 y2 => ⟨rfl, fun c3 G3 t3 o3 y3 => ?_⟩⟩
            have t13 := t1.trans (t2.trans t3)
            have tG := tgx.same t13
            obtain ⟨e1, g1, w1'⟩ := tG.cut none (some (k' : Int))
            have cs : way = 6 ∨ way = 7 := by omega
            rcases cs with c | c
            · refine ⟨_, rfl, _, _, rfl, rfl, c3, _, 0, .ref c1, rfl, by rw [c] <;> rfl, SqL.of y3, at0, ?_⟩
              exact ⟨c1, _, _, rfl, (B4.same t13).mono (by omega), F14.trans (.of t13), (t2.trans t3) _ _ y1, avn F14 o1 (B4.new o1), g1.up (by omega) (by omega), by omega⟩
            · refine ⟨_, rfl, _, _, rfl, rfl, c3, _, 1, .ref c2, rfl, by rw [c] <;> rfl, SqL.of y3, at1, ?_⟩
              exact ⟨c2, _, _, rfl, (B4.same t13).mono (by omega), F14.trans (.of t13), t3 _ _ y2, avn (F14.trans (.of t1)) o2 ((B4.same t1).new o2), (tG.app tG).up (by omega) (by omega), by rw [wa_app]; omega⟩
        · refine ite_bF (decide_eq_false (by omega)) ?_
          have tgx := TgAll.fr hAp tg hB1 F14
          refine ⟨_, rfl, rfl, _, rfl, ?_⟩
          by_cases c0 : way = 0
          · refine ite_bT (decide_eq_true (by rw [c0])) ?_
            refine ⟨_, rfl, _, rfl, _, rfl, r0, _, rfl, SqL.of hr4, fun c1 G1 t1 o1 y1 => ?_⟩
            refine ⟨_, rfl, _, rfl, _, _, rfl, rfl, _, rfl, r0, _, rfl, SqL.of (t1 _ _ hr4), fun c2 G2 t2 o2 y2 => ?_⟩
            refine ⟨c1, c2, _, _, rfl, rfl, t2 _ _ y1, y2, ?_, fun ro G3 t3 o3 y3 => ?_⟩
            · have e1 := cutV_length xs none (some (k' : Int))
              have e2 := cutV_length xs (some ((k' : Int) + 1)) none
              rw [sizeLine_eq]
              omega
            have tG := tgx.same (t1.trans (t2.trans t3))
            obtain ⟨e1, g1, w1'⟩ := tG.cut none (some (k' : Int))
            obtain ⟨e2, g2, w2'⟩ := tG.cut (some ((k' : Int) + 1)) none
            exact ⟨ro, _, _, rfl, ((((B4.same t1).same t2).same t3).mono (by omega)), F14.trans (.of (t1.trans (t2.trans t3))), y3, avn (F14.trans (.of (t1.trans t2))) o3 (((B4.same t1).same t2).new o3), (g1.app g2).up (by omega) (by omega), by rw [wa_app]; omega⟩
          refine ite_bF (decide_eq_false fun e => c0 (by injection e)) ?_
          refine ⟨_, rfl, rfl, _, rfl, ?_⟩
          by_cases c1' : way = 1
          · refine ite_bT (decide_eq_true (by rw [c1'])) ?_
            refine ⟨_, rfl, _, rfl, _, rfl, r0, _, rfl, SqL.of hr4, fun c1 G1 t1 o1 y1 => ?_⟩
            refine ⟨_, rfl, _, rfl, _, rfl, _, rfl, _, _, rfl, rfl, _, rfl, r0, _, rfl, SqL.of (t1 _ _ hr4), fun c2 G2 t2 o2 y2 => ?_⟩
            refine ⟨c1, c2, _, _, rfl, rfl, t2 _ _ y1, y2, ?_, fun c3 G3 t3 o3 y3 => ?_⟩
            · have e1 := cutV_length xs none (some (k' : Int))
              have e2 := cutV_length xs (some (k' : Int)) (some ((k' : Int) + 1))
              rw [sizeLine_eq]
              omega
            refine ⟨_, rfl, _, rfl, _, rfl, r0, _, rfl, SqL.of ((t1.trans (t2.trans t3)) _ _ hr4), fun c4 G4 t4 o4 y4 => ?_⟩
            refine ⟨c3, c4, _, _, rfl, rfl, t4 _ _ y3, y4, ?_, fun ro G5 t5 o5 y5 => ?_⟩
            · have e1 := cutV_length xs none (some (k' : Int))
              have e2 := cutV_length xs (some (k' : Int)) (some ((k' : Int) + 1))
              have e3 := cutV_length xs (some (k' : Int)) none
              rw [sizeLine_eq, List.length_append]
              omega
            have t15 := t1.trans (t2.trans (t3.trans (t4.trans t5)))
            have tG := tgx.same t15
            obtain ⟨e1, g1, w1'⟩ := tG.cut none (some (k' : Int))
            obtain ⟨e2, g2, w2'⟩ := tG.cut (some (k' : Int)) (some ((k' : Int) + 1))
            obtain ⟨e3, g3, w3'⟩ := tG.cut (some (k' : Int)) none
            exact ⟨ro, _, _, rfl, (B4.same t15).mono (by omega), F14.trans (.of t15), y5, avn (F14.trans (.of (t1.trans (t2.trans (t3.trans t4))))) o5 ((B4.same (t1.trans (t2.trans (t3.trans t4)))).new o5), ((g1.app g2).app g3).up (by omega) (by omega), by rw [wa_app, wa_app]; omega⟩
          refine ite_bF (decide_eq_false fun e => c1' (by injection e)) ?_
          refine ⟨_, rfl, rfl, _, rfl, ?_⟩
          by_cases c2' : way = 2
          · refine ite_bT (decide_eq_true (by rw [c2'])) ?_
            refine ⟨_, rfl, _, rfl, _, rfl, r0, _, rfl, SqL.of hr4, fun c1 G1 t1 o1 y1 => ?_⟩
            refine ⟨_, rfl, _, rfl, _, rfl, _, rfl, _, _, rfl, rfl, _, rfl, r0, _, rfl, SqL.of (t1 _ _ hr4), fun c2 G2 t2 o2 y2 => ⟨c2, _, rfl, SqL.of y2, fun c3 nc3 => ?_⟩⟩
            have t3 : Same G2 (upd G2 c3 (.lst (cutV xs (some (k' : Int)) (some ((k' : Int) + 2))).reverse)) := same_new nc3
            have y3 : (upd G2 c3 (.lst (cutV xs (some (k' : Int)) (some ((k' : Int) + 2))).reverse)) c3 = some (.lst (cutV xs (some (k' : Int)) (some ((k' : Int) + 2))).reverse) := upd_same
            generalize upd G2 c3 (.lst (cutV xs (some (k' : Int)) (some ((k' : Int) + 2))).reverse) = G3 at t3 y3
            refine ⟨c1, c3, _, _, rfl, rfl, (t2.trans t3) _ _ y1, y3, ?_, fun c4 G4 t4 o4 y4 => ?_⟩
            · have e1 := cutV_length xs none (some (k' : Int))
              have e2 := cutV_length xs (some (k' : Int)) (some ((k' : Int) + 2))
              rw [sizeLine_eq, List.length_reverse]
              omega
            have t14 := t1.trans (t2.trans (t3.trans t4))
            refine ⟨_, rfl, _, rfl, _, _, rfl, rfl, _, rfl, r0, _, rfl, SqL.of (t14 _ _ hr4), fun c5 G5 t5 o5 y5 => ?_⟩
            refine ⟨c4, c5, _, _, rfl, rfl, t5 _ _ y4, y5, ?_, fun ro G6 t6 o6 y6 => ?_⟩
            · have e1 := cutV_length xs none (some (k' : Int))
              have e2 := cutV_length xs (some (k' : Int)) (some ((k' : Int) + 2))
              have e3 := cutV_length xs (some ((k' : Int) + 2)) none
              rw [sizeLine_eq, List.length_append, List.length_reverse]
              omega
            have t16 := t14.trans (t5.trans t6)
            have tG := tgx.same t16
            obtain ⟨e1, g1, w1'⟩ := tG.cut none (some (k' : Int))
            obtain ⟨e2, g2, w2'⟩ := tG.cut (some (k' : Int)) (some ((k' : Int) + 2))
            obtain ⟨e3, g3, w3'⟩ := tG.cut (some ((k' : Int) + 2)) none
            exact ⟨ro, _, _, rfl, (B4.same t16).mono (by omega), F14.trans (.of t16), y6, avn (F14.trans (.of (t14.trans t5))) o6 ((B4.same (t14.trans t5)).new o6), ((g1.app g2.rev).app g3).up (by omega) (by omega), by rw [wa_app, wa_app, wa_rev]; omega⟩
          refine ite_bF (decide_eq_false fun e => c2' (by injection e)) ?_
          refine ⟨_, rfl, rfl, _, rfl, ?_⟩
          by_cases c3' : way = 3
          · refine ite_bT (decide_eq_true (by rw [c3'])) ?_
            refine ⟨_, rfl, .inl ⟨rfl, _, SqL.of hr4⟩, _, rfl, rfl, fun e1 G1 t1 o1 y1 => ⟨rfl, fun e2 G2 t2 o2 y2 => ⟨rfl, fun l1 G3 t3 o3 y3 => ?_⟩⟩⟩
            have t13 := t1.trans (t2.trans t3)
            have e2p : e2 ≠ p := (B4.same t1).new o2; have e2a : ¬ Av e2 := avn (F14.trans (.of t1)) o2 e2p
            have l1p : l1 ≠ p := ((B4.same t1).same t2).new o3
            refine ⟨_, rfl, p, 6, _, rfl, B4.same t13, by omega, by decide, by decide, fun z G4 z0 z1 B5 F5 => ?_⟩
            have F15 : Fr p H1 G4 := (F14.trans (.of t13)).trans F5
            have hr5 := F5 _ _ r0p (t13 _ _ hr4)
            obtain ⟨y, e, ey, ty', we⟩ : ∃ (y : V) (e : PyData), atI ([.int 0, .non, .ref e1, .ref e2, .bl true, .str "0"] : List V) z = some y ∧ (∀ Hz, SqT K Hz e1 [] → Hz e2 = some (.lst []) → Tg K Av Hz (B + 1) (m + 1) y e) ∧ PyData.weight e ≤ 1 := by
              have cs : z = 0 ∨ z = 1 ∨ z = 2 ∨ z = 3 ∨ z = 4 ∨ z = 5 := by omega
              rcases cs with c | c | c | c | c | c <;> subst c
              · exact ⟨.int 0, .int 0, rfl, fun _ _ _ => .int _ _ (Nat.zero_le _), by decide⟩
              · exact ⟨.non, .none, rfl, fun _ _ _ => .non _, by decide⟩
              · exact ⟨.ref e1, .tuple [], rfl, fun Hz f1 _ => .tup f1 rfl fun i x d hx => by simp at hx, by decide⟩
              · exact ⟨.ref e2, .list [], rfl, fun Hz _ f2 => .lst f2 e2a rfl fun i x d hx => by simp at hx, by decide⟩
              · exact ⟨.bl true, .bool true, rfl, fun _ _ _ => .bl _ _, by decide⟩
              · exact ⟨.str "0", .str "0", rfl, fun _ _ _ => .str _ _ 0 (by decide +kernel) (by decide +kernel), by decide +kernel⟩
            refine ⟨l1, _, z, y, rfl, rfl, SqL.of (F5 _ _ l1p y3), ey, r0, _, (k' : Int), y, rfl, rfl, hr5, by rw [sizeLine_eq]; omega, by omega, by omega, ?_⟩
            rw [Int.toNat_natCast]
            have Fu := F15.put' (o := .lst (xs.take k' ++ [y] ++ xs.drop k')) n2
            have tgu := (TgAll.fr hAp tg hB1 Fu).up (B' := B + 1) (m := m + 1) (by omega) (by omega)
            have q1 : SqT K (upd G4 r0 (.lst (xs.take k' ++ [y] ++ xs.drop k'))) e1 [] := sqT_frL (sqT_fr (SqT.of ((t2.trans t3) _ _ y1)) (B4.same t13) F5) hr5 fr_upd
            have q2 : (upd G4 r0 (.lst (xs.take k' ++ [y] ++ xs.drop k'))) e2 = some (.lst []) := by
              rw [upd_ne (ne_of_none (t1 _ _ hr4) o2).symm]
              exact F5 _ _ e2p (t3 _ _ y2)
            refine ⟨r0, _, ds.take k' ++ [e] ++ ds.drop k', rfl, (B5.upd r0p).mono (by omega), Fu, upd_same, r0a, ((tgu.take k').app (.cons (ty' _ q1 q2) .nil)).app (tgu.drop k'), ?_⟩
            have wc := wa_cut ds k'
            rw [wa_app, wa_app]
            show _ + (PyData.weight e + 1 + 0) + _ ≤ _
            omega
          refine ite_bF (decide_eq_false fun e => c3' (by injection e)) ?_
          refine ⟨_, rfl, rfl, _, rfl, ?_⟩
          by_cases c4' : way = 4
          · refine ite_bT (decide_eq_true (by rw [c4'])) ?_
            refine ⟨_, rfl, _, _, _, _, _, rfl, .ty _, ty H4 nb hB1 F14, kit_ty kt, ?_⟩
            have FH : Fr p H H4 := (Fr.of s1).trans F14
            have tgu := tgx.up (B' := B + 1) (m := m + 1) (by omega) (by omega)
            cases bt with
            | true => exact ⟨_, rfl, iteT ⟨_, rfl, q _ (.list ds) H4 (B4.mono (by omega)) FH (.lst hr4 r0a tgu.1 tgu.2) (by show PyData.weightAll ds ≤ _; omega)⟩⟩
            | false => exact ⟨_, rfl, iteF ⟨_, rfl, r0, _, rfl, .inl ⟨SqL.of hr4, fun tn H6 s6 n6 h6 => q _ (.tuple ds) H6 ((B4.same s6).mono (by omega)) (FH.trans (.of s6)) (.tup (SqT.of h6) tgu.1 (tgu.same s6).2) (by show PyData.weightAll ds ≤ _; omega)⟩⟩⟩
          refine ite_bF (decide_eq_false fun e => c4' (by injection e)) ?_
          refine ⟨_, rfl, rfl, _, rfl, ?_⟩
          by_cases c5' : way = 5
          · refine ite_bT (decide_eq_true (by rw [c5'])) ?_
            refine ⟨_, rfl, .inl ⟨rfl, _, SqL.of hr4⟩, r0, _, rfl, rfl, hr4, ?_⟩
            have Fu := F14.put' (o := .lst xs.reverse) n2
            exact ⟨r0, _, ds.reverse, rfl, (B4.upd r0p).mono (by omega), Fu, upd_same, r0a, ((TgAll.fr hAp tg hB1 Fu).rev).up (by omega) (by omega), by rw [wa_rev]; omega⟩
          refine ite_bF (decide_eq_false fun e => c5' (by injection e)) ?_
          refine ⟨_, rfl, _, rfl, _, rfl, r0, _, rfl, SqL.of hr4, fun c1 G1 t1 o1 y1 => ?_⟩
          refine ⟨_, rfl, _, rfl, r0, r0, _, _, rfl, rfl, t1 _ _ hr4, t1 _ _ hr4, by rw [sizeLine_eq]; omega, fun c2 G2 t2 o2 y2 => ⟨rfl, fun c3 G3 t3 o3 y3 => ?_⟩⟩
          have t13 := t1.trans (t2.trans t3)
          have tG := tgx.same t13
          obtain ⟨e1, g1, w1'⟩ := tG.cut none (some (k' : Int))
          have cs : way = 6 ∨ way = 7 := by omega
          rcases cs with c | c
          · refine ⟨_, rfl, _, _, rfl, rfl, c3, _, 0, .ref c1, rfl, by rw [c] <;> rfl, SqL.of y3, at0, ?_⟩
            exact ⟨c1, _, _, rfl, (B4.same t13).mono (by omega), F14.trans (.of t13), (t2.trans t3) _ _ y1, avn F14 o1 (B4.new o1), g1.up (by omega) (by omega), by omega⟩
          · refine ⟨_, rfl, _, _, rfl, rfl, c3, _, 1, .ref c2, rfl, by rw [c] <;> rfl, SqL.of y3, at1, ?_⟩
            exact ⟨c2, _, _, rfl, (B4.same t13).mono (by omega), F14.trans (.of t13), t3 _ _ y2, avn (F14.trans (.of t1)) o2 ((B4.same t1).new o2), (tG.app tG).up (by omega) (by omega), by rw [wa_app]; omega⟩
theorem ok_l_bent (T : All K mg) : FnOk P w K mg base CX0 6 T.f_l_bent T.fd_l_bent ["_law_box_here", "_law_thing", "_law_deep"] (sp_l_bent K 6) := by
  have go : ∀ k, FnOk P w K mg base CX0 k T.f_l_bent T.fd_l_bent ["_law_box_here", "_law_thing", "_law_deep"] (sp_l_bent K k) := fun k => by
    induction k with
    | zero => exact none_l_bent (by omega)
    | succ k ih =>
      by_cases c : k = 0
      · subst c
        exact none_l_bent (by omega)
      · exact step_l_bent T (by omega) ih
  exact go _

end
end KR
namespace KR
open PySem PySem.Spec PyProof.Rows L2
section
variable {P : Program} {w : World} {K : PySem.W.Frag} {mg : Str → Option Value} {base : Heap}
/-- how many draws a made thing takes, and how much there is to it -/
def mdraws : Nat → Nat
  | 0 => 5
  | d + 1 => 5 + 3 * mdraws d
def mwt : Nat → Nat
  | 0 => 10
  | d + 1 => 20 + 6 * (mwt d + 1)
def sp_l_made (K : PySem.W.Frag) (k : Nat) : Sp := fun vs H Q _ => ∃ (p : Addr) (Av : Addr → Prop) (nb dp : Nat), vs = [.ref p, .int (dp : Int)] ∧ Av p ∧ (∀ a, Av a → ∃ o, H a = some o) ∧ BoxAt H p nb ∧ nb + mdraws dp ≤ 999000000 ∧ dp + 2 ≤ k ∧
  ∀ (v' : V) (d' : PyData) (H' : Hp), BoxAt H' p (nb + mdraws dp) → Fr p H H' → Tg K Av H' 1000 (2 * dp) v' d' → PyData.weight d' ≤ mwt dp → Q v' H'
theorem none_l_made {f : Addr} {fd : FuncData} {k : Nat} (hk : k < 2) : FnOk P w K mg base CX0 k f fd ["_law_box_here", "_law_deep"] (sp_l_made K k) := by
  have no : ∀ vs H Q E, ¬ sp_l_made K k vs H Q E := fun vs H Q E h => by
    obtain ⟨p, Av, nb, dp, _, _, _, _, _, h, _⟩ := h
    omega
  exact ⟨fun vs H Q E h => absurd h (no vs H Q E), fun A outer s H args us vs Q E _ _ _ _ h => absurd h (no vs H Q E)⟩
theorem step_l_made (T : All K mg) {k : Nat} (hk : 1 ≤ k) (ih : FnOk P w K mg base CX0 k T.f_l_made T.fd_l_made ["_law_box_here", "_law_deep"] (sp_l_made K k)) : FnOk P w K mg base CX0 (k + 1) T.f_l_made T.fd_l_made ["_law_box_here", "_law_deep"] (sp_l_made K (k + 1)) := by
  refine T.d_l_made.fn.ok sc_l_made (fun vs H Q E h => ?_) (fun cdv A outer s H vs Q E hr h => ?_)
  · obtain ⟨p, Av, nb, dp, rfl, _⟩ := h
    rfl
  · obtain ⟨p, Av, nb, dp, rfl, hAp, hAv, hB, hnb, hdp, q⟩ := h
    refine ⟨_, (pss_cons (ps_set (i := 2) sc_l_made.nd rfl (by first | exact Or.inl rfl | exact Or.inr rfl) (pe_call (ok_l_take T) (hr.mono (by omega)) (by rfl) T.d_l_take.mg T.d_l_take.fn.kp T.d_l_take.b .nil pass0 (pa_cons (pv 0) (pa_cons (pe_ifExp (pt_cmpR op_gt (pv 1) pe_int (nomark _)) pe_int pe_int) pa_nil))))
      (pss_cons (ps_if (pt_cmpR op_lt (pv 2) pe_int (nomark _)) (pss_one (ps_ret (pe_ix (ixL (K := K) rfl) (pe_lstI (pa_cons pe_int (pa_cons (pe_call (ok_l_take T) (hr.mono (by omega)) (by rfl) T.d_l_take.mg T.d_l_take.fn.kp T.d_l_take.b .nil pass0 (pa_cons (pv 0) (pa_cons pe_int pa_nil))) (pa_cons pe_bl (pa_cons pe_bl (pa_cons pe_non (pa_cons pe_str (pa_cons (pe_un un_neg pe_int) pa_nil)))))))) (pv 2) (fun _ _ => rfl)))) pss_nil)
      (pss_cons (ps_setLc (i := 3) (own := [("_law_k", 4)]) (g := gName 4) (tt := tYes) (by rfl) sc_l_made.nd rfl rfl (sw_true rfl rfl rfl (by decide +kernel)) (pi_range1 (by rfl) T.b_range (pa_cons (pe_call (ok_l_take T) (hr.mono (by omega)) (by rfl) T.d_l_take.mg T.d_l_take.fn.kp T.d_l_take.b .nil pass0 (pa_cons (pv 0) (pa_cons pe_int pa_nil))) pa_nil)) (blkOk_by (own := [("_law_k", 4)]) (N := ["_law_box_here", "_law_deep", "_law_way", "_law_some", "_law_k"]) (sc := defScope s_l_made) (by decide +kernel)) (fun _ _ _ _ _ => (pg_name (i := 4) sc_l_made.nd rfl (by first | exact Or.inl rfl | exact Or.inr rfl))) (fun _ _ _ _ _ => pts_nil) (fun _ _ _ _ _ => (pe_call ih hr (by rfl) T.d_l_made.mg T.d_l_made.fn.kp T.d_l_made.b .nil pass0 (pa_cons (pv 0) (pa_cons (pe_op op_sub (pv 1) pe_int) pa_nil)))))
      (pss_one (ps_ret (pe_ix (ixL (K := K) rfl) (pe_lstI (pa_cons (pv 3) (pa_cons (pe_callTy (tupJ (K := K) rfl) (by rfl) T.b_tuple (by decide +kernel) (pa_cons (pv 3) pa_nil)) (pa_cons (pe_tupI (pa_cons (pv 3) (pa_cons (pv 3) pa_nil))) (pa_cons (pe_lstI (pa_cons (pv 3) pa_nil)) (pa_cons (pe_tupI (pa_cons (pv 3) (pa_cons (pe_lstI pa_nil) (pa_cons (pv 3) pa_nil)))) pa_nil)))))) (pe_op op_sub (pv 2) pe_int) (fun _ _ => rfl))))))), ?_⟩
    have avo : ∀ {Ha : Hp} {b : Addr}, Fr p H Ha → Ha b = none → b ≠ p → ¬ Av b := fun {Ha b} F nb bp z => by
      obtain ⟨o, ho⟩ := hAv _ z
      rw [F _ _ bp ho] at nb
      cases nb
    have md1 : 5 ≤ mdraws dp := by
      cases dp with
      | zero => exact Nat.le_refl _
      | succ d => show 5 ≤ 5 + 3 * mdraws d; omega
    have mw1 : 10 ≤ mwt dp := by
      cases dp with
      | zero => exact Nat.le_refl _
      | succ d => show 10 ≤ 20 + 6 * (mwt d + 1); omega
    refine ⟨_, rfl, _, rfl, _, _, rfl, rfl, _, rfl, ?_⟩
    by_cases c : 0 < dp
    · refine ite_bT (decide_eq_true (by omega)) ?_
      refine ⟨p, 12, nb, rfl, hB, by omega, by decide, by decide, fun way H1 w0 w1 B1 F1 => ?_⟩
      refine ⟨_, rfl, _, _, rfl, rfl, _, rfl, ?_⟩
      by_cases c7 : way < 7
      · refine ite_bT (decide_eq_true c7) ?_
        refine ⟨_, rfl, p, 30, _, rfl, B1, by omega, by decide, by decide, fun t H2 t0 t1 B2 F2 => ⟨_, rfl, rfl, fun l H3 s3 n3 h3 => ?_⟩⟩
        obtain ⟨y, e, ey, ty, we⟩ : ∃ (y : V) (e : PyData), atI ([.int 0, .int t, .bl true, .bl false, .non, .str "takes", .int (-3)] : List V) way = some y ∧ Tg K Av H3 1000 (2 * dp) y e ∧ PyData.weight e ≤ 10 := by
          have cs : way = 0 ∨ way = 1 ∨ way = 2 ∨ way = 3 ∨ way = 4 ∨ way = 5 ∨ way = 6 := by omega
          rcases cs with c | c | c | c | c | c | c <;> subst c
          · exact ⟨.int 0, .int 0, rfl, .int _ _ (Nat.zero_le _), by decide⟩
          · refine ⟨.int t, .int t, rfl, .int _ _ (by omega), ?_⟩
            show (if t == 0 then 0 else t.natAbs.log2 + 1) ≤ 10
            by_cases c : t = 0
            · rw [c]
              decide
            · rw [if_neg (by simpa using c)]
              have := (Nat.log2_lt (show t.natAbs ≠ 0 by omega)).mpr (show t.natAbs < 2 ^ 5 by omega)
              omega
          · exact ⟨.bl true, .bool true, rfl, .bl _ _, by decide⟩
          · exact ⟨.bl false, .bool false, rfl, .bl _ _, by decide⟩
          · exact ⟨.non, .none, rfl, .non _, by decide⟩
          · exact ⟨.str "takes", .str "takes", rfl, .str _ _ 0 (by decide +kernel) (by decide +kernel), by decide +kernel⟩
          · exact ⟨.int (-3), .int (-3), rfl, .int _ _ (by decide), by decide +kernel⟩
        refine ⟨_, rfl, l, _, way, y, rfl, rfl, SqL.of h3, ey, ?_⟩
        exact q y e H3 ((B2.same s3).mono (by omega)) (F1.trans (F2.trans (.of s3))) ty (by omega)
      · refine ite_bF (decide_eq_false c7) ?_
        obtain ⟨d, rfl⟩ : ∃ d, dp = d + 1 := ⟨dp - 1, by omega⟩
        have md : mdraws (d + 1) = 5 + 3 * mdraws d := rfl
        have mw : mwt (d + 1) = 20 + 6 * (mwt d + 1) := rfl
        refine ⟨_, rfl, p, 4, _, rfl, B1, by omega, by decide, by decide, fun c H2 c0 c1 B2 F2 => ⟨c, rfl, by omega, by omega, fun D hD => ?_⟩⟩
        have Dp := B2.new hD
        have F12 : Fr p H H2 := F1.trans F2
        let Av' : Addr → Prop := fun a => Av a ∨ a = D
        have hAp' : Av' p := .inl hAp
        refine lc_range (lo := 0) (n := c.toNat) (fun i H' => ∃ (ys : List V) (es : List PyData), Fr p H2 H' ∧ BoxAt H' p (nb + 2 + i * mdraws d) ∧ H' D = some (.lst ys) ∧ ys.length = i ∧ TgAll K Av' H' 1000 (2 * d) ys es ∧ PyData.weightAll es ≤ i * (mwt d + 1))
          ⟨[], [], .of (same_new hD), (B2.same (same_new hD)).mono (by omega), upd_same, rfl, .nil, Nat.zero_le _⟩ (fun i H3 hi z => ?_) (fun H3 z => ?_)
        · obtain ⟨ys, es, F3, B3, hD3, ly, tg, wy⟩ := z
          have i3 : i + 1 ≤ 3 := by omega
          have im : (i + 1) * mdraws d ≤ 3 * mdraws d := Nat.mul_le_mul_right _ i3
          have ie : (i + 1) * mdraws d = i * mdraws d + mdraws d := Nat.succ_mul _ _
          have iw : (i + 1) * (mwt d + 1) = i * (mwt d + 1) + (mwt d + 1) := Nat.succ_mul _ _
          have hAv' : ∀ a, Av' a → ∃ o, H3 a = some o := fun a z => by
            rcases z with z | z
            · by_cases e : a = p
              · rw [e]
                exact B3.some
              · obtain ⟨o, ho⟩ := hAv a z
                exact ⟨o, F3 _ _ e (F12 _ _ e ho)⟩
            · rw [z]
              exact ⟨_, hD3⟩
          refine ⟨rfl, yesT ?_⟩
          refine ⟨_, rfl, _, rfl, _, _, rfl, rfl, ?_⟩
          refine ⟨p, Av', nb + 2 + i * mdraws d, d, by show [V.ref p, V.int (((d + 1 : Nat) : Int) - 1)] = _; rw [show ((d + 1 : Nat) : Int) - 1 = (d : Int) by omega], hAp', hAv', B3, by omega, by omega, fun v' d' H4 B4 F4 t4 w4 => ?_⟩
          have hD4 := F4 _ _ Dp hD3
          refine ⟨_, hD4, by rw [ly]; exact small' (by omega), ys ++ [v'], es ++ [d'], (F3.trans F4).put' hD, (B4.upd Dp).mono (by omega), upd_same, by rw [List.length_append, ly] <;> rfl, ((TgAll.fr hAp' tg B3 F4).app (.cons t4 .nil)).wr (.inr rfl) hD4, ?_⟩
          rw [wa_app]
          show _ + (PyData.weight d' + 1 + 0) ≤ _
          omega
        · obtain ⟨ys, es, F3, B3, hD3, ly, tg', wy⟩ := z
          have tg : TgAll K Av H3 1000 (2 * d) ys es := tg'.less fun a h => .inl h
          have F13 : Fr p H H3 := F12.trans F3
          have Da : ¬ Av D := avo F12 hD Dp
          have c3 : c.toNat ≤ 3 := by omega
          have cm : c.toNat * mdraws d ≤ 3 * mdraws d := Nat.mul_le_mul_right _ c3
          have cw : c.toNat * (mwt d + 1) ≤ 3 * (mwt d + 1) := Nat.mul_le_mul_right _ c3
          refine ⟨_, rfl, _, rfl, D, ys, rfl, .inl ⟨SqL.of hD3, fun t1 H4 s4 n4 h4 => ?_⟩⟩
          refine ⟨_, rfl, _, rfl, rfl, fun t2 H5 s5 n5 h5 => ?_⟩
          refine ⟨_, rfl, rfl, fun l3 H6 s6 n6 h6 => ?_⟩
          refine ⟨_, rfl, rfl, fun e4 H7 s7 n7 h7 => ⟨_, rfl, rfl, fun t5 H8 s8 n8 h8 => ⟨rfl, fun ll H9 s9 n9 h9 => ?_⟩⟩⟩
          refine ⟨_, rfl, _, _, rfl, rfl, ?_⟩
          have s35 := s4.trans s5
          have s79 := s7.trans (s8.trans s9)
          have s69 := s6.trans s79
          have s39 := s35.trans s69
          have l3a : ¬ Av l3 := avo (F13.trans (.of s35)) n6 ((B3.same s35).new n6)
          have e4a : ¬ Av e4 := avo (F13.trans (.of (s35.trans s6))) n7 ((B3.same (s35.trans s6)).new n7)
          have tD : Tg K Av H9 1000 (2 * d + 1) (.ref D) (.list es) := .lst (s39 _ _ hD3) Da tg.1 (tg.same s39).2
          have B9 := (B3.same s39).mono (m := nb + mdraws (d + 1)) (by omega)
          have F9 : Fr p H H9 := F13.trans (.of s39)
          obtain ⟨y, e, ey, ty, we⟩ : ∃ (y : V) (e : PyData), atI ([.ref D, .ref t1, .ref t2, .ref l3, .ref t5] : List V) (way - 7) = some y ∧ Tg K Av H9 1000 (2 * d + 1 + 1) y e ∧ PyData.weight e ≤ mwt (d + 1) := by
            have cs : way = 7 ∨ way = 8 ∨ way = 9 ∨ way = 10 ∨ way = 11 := by omega
            rcases cs with c | c | c | c | c
            · exact ⟨_, (.list es), (by rw [c] <;> rfl), (tD.up (Nat.le_refl _) (by omega)), (by show PyData.weightAll es ≤ _; omega)⟩
            · exact ⟨_, (.tuple es), (by rw [c] <;> rfl), ((Tg.tup (SqT.of ((s5.trans s69) _ _ h4)) tg.1 (tg.same s39).2).up (Nat.le_refl _) (by omega)), (by show PyData.weightAll es ≤ _; omega)⟩
            · exact ⟨_, (.tuple [.list es, .list es]), (by rw [c] <;> rfl), (Tg.tup (SqT.of (s69 _ _ h5)) rfl (TgAll.cons tD (.cons tD .nil)).2), (by show PyData.weightAll es + 1 + (PyData.weightAll es + 1 + 0) ≤ _; omega)⟩
            · exact ⟨_, (.list [.list es]), (by rw [c] <;> rfl), (Tg.lst (s79 _ _ h6) l3a rfl (TgAll.cons tD .nil).2), (by show PyData.weightAll es + 1 + 0 ≤ _; omega)⟩
            · exact ⟨_, (.tuple [.list es, .list [], .list es]), (by rw [c] <;> rfl), (Tg.tup (SqT.of (s9 _ _ h8)) rfl (TgAll.cons tD (.cons (.lst ((s8.trans s9) _ _ h7) e4a rfl fun i x d hx => by simp at hx) (.cons tD .nil))).2), (by show PyData.weightAll es + 1 + (0 + 1 + (PyData.weightAll es + 1 + 0)) ≤ _; omega)⟩
          refine ⟨ll, _, way - 7, y, rfl, rfl, SqL.of h9, ey, ?_⟩
          exact q y e H9 B9 F9 (ty.up (Nat.le_refl _) (by omega)) we
    · refine ite_bF (decide_eq_false (by omega)) ?_
      refine ⟨p, 7, nb, rfl, hB, by omega, by decide, by decide, fun way H1 w0 w1 B1 F1 => ?_⟩
      refine ⟨_, rfl, _, _, rfl, rfl, _, rfl, ?_⟩
      refine ite_bT (decide_eq_true w1) ?_
      refine ⟨_, rfl, p, 30, _, rfl, B1, by omega, by decide, by decide, fun t H2 t0 t1 B2 F2 => ⟨_, rfl, rfl, fun l H3 s3 n3 h3 => ?_⟩⟩
      obtain ⟨y, e, ey, ty, we⟩ : ∃ (y : V) (e : PyData), atI ([.int 0, .int t, .bl true, .bl false, .non, .str "takes", .int (-3)] : List V) way = some y ∧ Tg K Av H3 1000 (2 * dp) y e ∧ PyData.weight e ≤ 10 := by
        have cs : way = 0 ∨ way = 1 ∨ way = 2 ∨ way = 3 ∨ way = 4 ∨ way = 5 ∨ way = 6 := by omega
        rcases cs with c | c | c | c | c | c | c <;> subst c
        · exact ⟨.int 0, .int 0, rfl, .int _ _ (Nat.zero_le _), by decide⟩
        · refine ⟨.int t, .int t, rfl, .int _ _ (by omega), ?_⟩
          show (if t == 0 then 0 else t.natAbs.log2 + 1) ≤ 10
          by_cases c : t = 0
          · rw [c]
            decide
          · rw [if_neg (by simpa using c)]
            have := (Nat.log2_lt (show t.natAbs ≠ 0 by omega)).mpr (show t.natAbs < 2 ^ 5 by omega)
            omega
        · exact ⟨.bl true, .bool true, rfl, .bl _ _, by decide⟩
        · exact ⟨.bl false, .bool false, rfl, .bl _ _, by decide⟩
        · exact ⟨.non, .none, rfl, .non _, by decide⟩
        · exact ⟨.str "takes", .str "takes", rfl, .str _ _ 0 (by decide +kernel) (by decide +kernel), by decide +kernel⟩
        · exact ⟨.int (-3), .int (-3), rfl, .int _ _ (by decide), by decide +kernel⟩
      refine ⟨_, rfl, l, _, way, y, rfl, rfl, SqL.of h3, ey, ?_⟩
      exact q y e H3 ((B2.same s3).mono (by omega)) (F1.trans (F2.trans (.of s3))) ty (by omega)
theorem ok_l_made (T : All K mg) : FnOk P w K mg base CX0 6 T.f_l_made T.fd_l_made ["_law_box_here", "_law_deep"] (sp_l_made K 6) := by
  have go : ∀ k, FnOk P w K mg base CX0 k T.f_l_made T.fd_l_made ["_law_box_here", "_law_deep"] (sp_l_made K k) := fun k => by
    induction k with
    | zero => exact none_l_made (by omega)
    | succ k ih =>
      by_cases c : k = 0
      · subst c
        exact none_l_made (by omega)
      · exact step_l_made T (by omega) ih
  exact go _

end
end KR
namespace KR
open PySem PySem.Spec PyProof.Rows L2
section
variable {P : Program} {w : World} {K : PySem.W.Frag} {mg : Str → Option Value} {base : Heap}
def sp_l_walked (K : PySem.W.Frag) : Sp := fun vs H Q _ => ∃ (p d : Addr) (x : DyP) (D : Dy) (nb : Nat), vs = [.ref p, .ref d] ∧ BoxAt H p nb ∧ nb ≤ 999000000 ∧ DayAt K H p d x D ∧ x.pc = true ∧ x.pk = true ∧ DyOk D ∧
  ∀ (tt f : Addr) (rs : List Addr) (l : List (Str × Nat × Nat)) (m : Int) (H' : Hp), BoxAt H' p (nb + 500) → Fr p H H' → H f = none → f ≠ p → H' tt = some (.tup [.ref f, .int m]) → H' f = some (.lst (rs.map V.ref)) → PaperAt H' rs l → Chain D D.ks.length D.cs.length l m → l.length ≤ 500 → Q (.ref tt) H'
def WW (K : PySem.W.Frag) (D : Dy) (x : DyP) (H : Hp) (p d pa : Addr) (nb m : Nat) (σ : L2.St) (H' : Hp) : Prop := ∃ (pl t : Nat) (pi ho to : Int) (v9 v10 : Option V) (rs : List Addr) (l : List (Str × Nat × Nat)), σ = [some (.ref p), some (.ref d), some (.ref x.c), some (.ref x.k), some (.ref x.s), some (.int pi), some (.int ho), some (.int to), some (.ref pa), v9, v10] ∧ pi = (pl : Int) ∧ ho = (t : Int) - 1 ∧ Fr p H H' ∧ BoxAt H' p (nb + l.length) ∧ H' pa = some (.lst (rs.map V.ref)) ∧ PaperAt H' rs l ∧ pl ≤ D.ks.length ∧ t ≤ D.cs.length ∧ m = t * 10 + (9 - pl) ∧ l.length + m ≤ 490 ∧ ∀ l' m', Chain D pl t l' m' → Chain D D.ks.length D.cs.length (l ++ l') (m' + to)
theorem ok_l_walked (T : All K mg) : FnOk P w K mg base CX0 2 T.f_l_walked T.fd_l_walked ["_law_box_here", "_law_day_here"] (sp_l_walked K) := by
  refine T.d_l_walked.fn.ok sc_l_walked (fun vs H Q E h => ?_) (fun cdv A outer s H vs Q E hr h => ?_)
  · obtain ⟨p, d, x, D, nb, rfl, _⟩ := h
    rfl
  · obtain ⟨p, d, x, D, nb, rfl, hB, hnb, hD, xc, xk, O, q⟩ := h
    refine ⟨_, (pss_cons (ps_asg (pv 1) (pg_tupK (K := K) rfl rfl (pgs_cons (pg_name (i := 2) sc_l_walked.nd rfl (by first | exact Or.inl rfl | exact Or.inr rfl)) (pgs_cons (pg_name (i := 3) sc_l_walked.nd rfl (by first | exact Or.inl rfl | exact Or.inr rfl)) (pgs_cons (pg_name (i := 4) sc_l_walked.nd rfl (by first | exact Or.inl rfl | exact Or.inr rfl)) pgs_nil)))))
      (pss_cons (ps_asg (pe_tupI (pa_cons (pe_callB (lenQ (K := K) rfl) (by rfl) T.b_len PySem.boot_len (pa_cons (pv 3) pa_nil)) (pa_cons (pe_op op_sub (pe_callB (lenQ (K := K) rfl) (by rfl) T.b_len PySem.boot_len (pa_cons (pv 2) pa_nil)) pe_int) (pa_cons pe_int (pa_cons (pe_lstI pa_nil) pa_nil))))) (pg_tupK (K := K) rfl rfl (pgs_cons (pg_name (i := 5) sc_l_walked.nd rfl (by first | exact Or.inl rfl | exact Or.inr rfl)) (pgs_cons (pg_name (i := 6) sc_l_walked.nd rfl (by first | exact Or.inl rfl | exact Or.inr rfl)) (pgs_cons (pg_name (i := 7) sc_l_walked.nd rfl (by first | exact Or.inl rfl | exact Or.inr rfl)) (pgs_cons (pg_name (i := 8) sc_l_walked.nd rfl (by first | exact Or.inl rfl | exact Or.inr rfl)) pgs_nil))))))
      (pss_cons (ps_while PassesOwn.never (pt_cmpR op_ge (pv 6) pe_int (nomark _)) (pss_cons (ps_set (i := 9) sc_l_walked.nd rfl (by first | exact Or.inl rfl | exact Or.inr rfl) (pe_op op_catI (pe_lstI (pa_cons pe_str (pa_cons pe_str (pa_cons (pe_ix (ixL (K := K) rfl) (pe_lstI (pa_cons pe_str (pa_cons pe_str pa_nil))) (pe_callTy call_int1 (by rfl) T.b_int (by decide +kernel) (pa_cons (pe_cmpR op_eq (pv 5) pe_int (nomark _)) pa_nil)) (fun _ _ => rfl)) pa_nil)))) (pe_op op_rep (pe_lstI (pa_cons pe_str pa_nil)) (pe_callTy call_int1 (by rfl) T.b_int (by decide +kernel) (pa_cons (pe_cmpR op_lt (pv 5) (pe_callB (lenQ (K := K) rfl) (by rfl) T.b_len PySem.boot_len (pa_cons (pv 3) pa_nil)) (nomark _)) pa_nil)))))
      (pss_cons (ps_set (i := 10) sc_l_walked.nd rfl (by first | exact Or.inl rfl | exact Or.inr rfl) (pe_ix (ixL (K := K) rfl) (pv 9) (pe_call (ok_l_take T) hr (by rfl) T.d_l_take.mg T.d_l_take.fn.kp T.d_l_take.b .nil pass0 (pa_cons (pv 0) (pa_cons (pe_callB (lenQ (K := K) rfl) (by rfl) T.b_len PySem.boot_len (pa_cons (pv 9) pa_nil)) pa_nil))) (fun _ _ => rfl)))
      (pss_cons (ps_expr (pe_bm PySem.F.plainAttrs_list PySem.F.slot_list_append PySem.F.type_list_append mt_append (pv 8) (pa_cons (pe_tupI (pa_cons (pv 10) (pa_cons (pv 5) (pa_cons (pv 6) pa_nil)))) pa_nil)))
      (pss_cons (ps_if (pt_cmpR op_eq (pv 10) pe_str (nomark _)) (pss_one (ps_ret (pe_tupI (pa_cons (pv 8) (pa_cons (pe_op op_add (pv 7) (pe_callB (sumBK (K := K) rfl rfl) (by rfl) T.b_sum (by decide +kernel) (pa_cons (pe_slice (slL (K := K) rfl) (pv 2) po_none (po_some (pe_op op_add (pv 6) pe_int))) pa_nil))) pa_nil))))) pss_nil)
      (pss_one (ps_if (pt_cmpR op_eq (pv 10) pe_str (nomark _)) (pss_one (ps_par (i := 7) (j := 5) (by rfl) sc_l_walked.nd rfl rfl (by decide) rfl rfl (pa_cons (pe_op op_add (pv 7) (pe_ix (ixT (K := K) rfl) (pe_ix (ixL (K := K) rfl) (pv 3) (pv 5) (fun _ _ => rfl)) pe_int (fun _ _ => rfl))) (pa_cons (pe_op op_add (pv 5) pe_int) pa_nil)) (by rfl))) (pss_cons (ps_set (i := 7) sc_l_walked.nd rfl (by first | exact Or.inl rfl | exact Or.inr rfl) (pe_op op_add (pv 7) (pe_op op_mulX (pe_callTy call_int1 (by rfl) T.b_int (by decide +kernel) (pa_cons (pe_cmpR op_eq (pv 10) pe_str (nomark _)) pa_nil)) (pe_ix (ixQ (K := K) rfl) (pe_ifExp (pt_cmpR op_eq (pv 5) (pe_callB (lenQ (K := K) rfl) (by rfl) T.b_len PySem.boot_len (pa_cons (pv 3) pa_nil)) (nomark _)) (pv 4) (pe_ix (ixT (K := K) rfl) (pe_ix (ixL (K := K) rfl) (pv 3) (pv 5) (fun _ _ => rfl)) pe_int (fun _ _ => rfl))) (pv 6) (fun _ _ => rfl)))))
      (pss_one (ps_par (i := 5) (j := 6) (by rfl) sc_l_walked.nd rfl rfl (by decide) rfl rfl (pa_cons (pe_op op_sub (pv 5) (pe_callTy call_int1 (by rfl) T.b_int (by decide +kernel) (pa_cons (pe_cmpR op_eq (pv 10) pe_str (nomark _)) pa_nil))) (pa_cons (pe_op op_sub (pv 6) pe_int) pa_nil)) (by rfl)))))))))))
      (pss_one (ps_ret (pe_tupI (pa_cons (pe_op op_catI (pv 8) (pe_lstI (pa_cons (pe_tupI (pa_cons pe_str (pa_cons (pv 5) (pa_cons (pe_un un_neg pe_int) pa_nil)))) pa_nil))) (pa_cons (pv 7) pa_nil)))))))), ?_⟩
    have k1 := O.k1
    have k2 := O.k2
    have h2 := O.h2
    have hk0 : SqL K H x.k (x.as.map V.ref) := by
      have z := hD.ks
      rw [xk] at z
      exact z
    have hc0 : SqL K H x.c (D.cs.map V.int) := by
      have z := hD.cs.1
      rw [xc] at z
      exact z
    refine ⟨_, rfl, d, _, rfl, hD.at_, rfl, _, _, rfl, _, _, rfl, _, _, rfl, rfl, ?_⟩
    refine ⟨_, rfl, x.k, _, rfl, .inl hk0, _, rfl, x.c, _, rfl, .inl hc0, _, _, rfl, rfl, ?_⟩
    refine ⟨rfl, fun pa H1 s1 n1 h1 => ⟨rfl, fun tu H2 s2 n2 h2 => ?_⟩⟩
    rw [List.length_map, List.length_map, hD.len] at h2
    refine ⟨tu, _, rfl, SqT.of h2, rfl, _, _, rfl, _, _, rfl, _, _, rfl, _, _, rfl, rfl, ?_⟩
    have pap_ : pa ≠ p := hB.new n1
    have B2 := (hB.same s1).same s2
    have hpa2 := s2 _ _ h1
    refine ⟨WW K D x H p d pa nb, ⟨D.cs.length * 10 + (9 - D.ks.length), D.ks.length, D.cs.length, _, _, 0, none, none, [], [], rfl, rfl, rfl, .of (s1.trans s2), B2, hpa2, PaperAt.nil _, Nat.le_refl _, Nat.le_refl _, rfl, by show 0 + _ ≤ _; omega, fun l' m' c => by rw [Int.add_zero]; exact c⟩, ?_⟩
    rintro m σ H3 ⟨pl, t, pi, ho, to, v9, v10, rs, l, rfl, rfl, rfl, F3, B3, hpa, pap, hpl, ht, em, lm, cont⟩
    refine ⟨_, rfl, _, _, rfl, rfl, _, rfl, ?_⟩
    cases t with
    | zero =>
      refine ite_bF (decide_eq_false (by omega)) ?_
      refine ⟨_, rfl, _, rfl, _, rfl, rfl, fun tb H4 s4 n4 h4 => ⟨rfl, fun lb H5 s5 n5 h5 => ?_⟩⟩
      have s35 := s4.trans s5
      refine ⟨pa, lb, _, _, rfl, rfl, s35 _ _ hpa, h5, by rw [List.length_map, pap.1, sizeLine_eq]; show _ + 1 ≤ _; omega, fun lc H6 s6 n6 h6 => ?_⟩
      refine ⟨_, rfl, rfl, fun tt H7 s7 n7 h7 => ?_⟩
      have s37 := s35.trans (s6.trans s7)
      have F7 : Fr p H H7 := F3.trans (.of s37)
      have B7 := B3.same s37
      have n6' : H lc = none := fr_new' (F3.trans (.of s35)) n6 ((B3.same s35).new n6)
      have c0 := cont [(("begin" : Str), pl, 0)] 0 (Chain.last (b := ⟨"begin", none, 0⟩) (List.mem_singleton.mpr rfl) rfl)
      rw [Int.zero_add] at c0
      have h4' : H7 tb = some (bdTup ("begin", pl, 0)) := (s5.trans (s6.trans s7)) _ _ h4
      refine q tt lc (rs ++ [tb]) (l ++ [(("begin" : Str), pl, 0)]) to H7 (B7.mono (by omega)) F7 n6' ((B3.same s35).new n6) h7 (by rw [s7 _ _ h6, List.map_append] <;> rfl) ((pap.same s37).snoc h4') c0 (by rw [List.length_append]; show l.length + 1 ≤ _; omega)
    | succ t =>
      refine ite_bT (decide_eq_true (by omega)) ?_
      refine ⟨fun σ' H' => ∃ m', m' < m ∧ WW K D x H p d pa nb m' σ' H', fun _ _ h => h, ?_⟩
      refine ⟨rfl, fun l1 H4 s4 n4 h4 => ?_⟩
      have w1 : atI ([.str "ahead", .str "comes"] : List V) (if decide (V.int (pl : Int) = V.int 0) = true then 1 else 0) = some (.str (firstB D pl t).word) := by
        unfold firstB
        by_cases c : pl = 0
        · rw [if_pos c, if_pos (decide_eq_true (show V.int (pl : Int) = V.int 0 by rw [c] <;> rfl))] <;> rfl
        · rw [if_neg c, if_neg (by rw [decide_eq_false (show ¬ V.int (pl : Int) = V.int 0 from fun e => c (by injection e; omega))]; exact Bool.false_ne_true)] <;> rfl
      refine ⟨_, rfl, rfl, .inr ⟨_, rfl, l1, _, _, _, rfl, rfl, SqL.of h4, w1, rfl, fun l2 H5 s5 n5 h5 => ⟨rfl, fun l3 H6 s6 n6 h6 => ?_⟩⟩⟩
      have s36 := s4.trans (s5.trans s6)
      have F6 : Fr p H H6 := F3.trans (.of s36)
      have hD6 := hD.fr hB F6
      have hk6 : SqL K H6 x.k (x.as.map V.ref) := by
        have z := hD6.ks
        rw [xk] at z
        exact z
      refine ⟨_, rfl, _, rfl, x.k, _, rfl, .inl hk6, _, _, rfl, rfl, .inr ⟨_, rfl, ?_⟩⟩
      rw [List.length_map, hD.len]
      obtain ⟨rp, erp, rp0, rp1, ws, ews, wcs⟩ : ∃ rp : Int, (if decide ((pl : Int) < (D.ks.length : Int)) = true then (1 : Int) else 0) = rp ∧ 0 ≤ rp ∧ rp ≤ 1 ∧ ∃ ws : List V, (List.replicate rp.toNat [V.str "room"]).flatten = ws ∧ ((ws = [] ∧ ¬ pl < D.ks.length) ∨ (ws = [V.str "room"] ∧ pl < D.ks.length)) := by
        by_cases c : pl < D.ks.length
        · exact ⟨1, if_pos (decide_eq_true (by omega)), by decide, by decide, _, rfl, .inr ⟨rfl, c⟩⟩
        · exact ⟨0, if_neg (by rw [decide_eq_false (by omega)]; exact Bool.false_ne_true), by decide, by decide, _, rfl, .inl ⟨rfl, c⟩⟩
      rw [erp]
      refine ⟨l3, rp, _, rfl, rfl, h6, by omega, by omega, by show 1 * _ ≤ _; rw [sizeLine_eq]; omega, fun l4 nl4 => ?_⟩
      rw [ews]
      have s6' : Same H6 (upd H6 l4 (.lst ws)) := same_new nl4
      have h6' : (upd H6 l4 (.lst ws)) l4 = some (.lst ws) := upd_same
      generalize upd H6 l4 (.lst ws) = H7 at s6' h6'
      have ws1 : ws.length ≤ 1 := by
        rcases wcs with ⟨c, _⟩ | ⟨c, _⟩ <;> rw [c] <;> decide
      refine ⟨l2, l4, _, _, rfl, rfl, s6' _ _ (s6 _ _ h5), h6', by rw [sizeLine_eq]; show 3 + _ ≤ _; omega, fun l5 H8 s8 n8 h8 => ?_⟩
      have s38 := s36.trans (s6'.trans s8)
      have B8 := B3.same s38
      have l5p := (B3.same (s36.trans s6')).new n8
      obtain ⟨S, eS⟩ : ∃ S : List V, [V.str "takes", V.str "takes", V.str (firstB D pl t).word] ++ ws = S := ⟨_, rfl⟩
      have lS : S.length = 3 + ws.length := by rw [← eS, List.length_append] <;> rfl
      rw [eS] at h8
      refine ⟨_, rfl, _, rfl, _, rfl, l5, _, rfl, .inl (SqL.of h8), p, _, _, rfl, B8, by omega, by omega, by omega, fun z H9 z0 z1 B9 F9 => ?_⟩
      have h9 := F9 _ _ l5p h8
      have mT : (⟨"takes", some ((pl : Int), (t : Int) - 1), if pl = D.ks.length then D.ss.getD t 0 else (kt D pl).2.getD t 0⟩ : Bd) ∈ bnds D pl (t + 1) := by
        by_cases c : pl = D.ks.length
        · rw [show bnds D pl (t + 1) = [firstB D pl t, ⟨"takes", some ((pl : Int), (t : Int) - 1), D.ss.getD t 0⟩] from if_pos c, if_pos c]
          exact List.mem_cons_of_mem _ List.mem_cons_self
        · rw [show bnds D pl (t + 1) = [firstB D pl t, ⟨"takes", some ((pl : Int), (t : Int) - 1), (kt D pl).2.getD t 0⟩, ⟨"room", some ((pl : Int) + 1, (t : Int)), (kt D pl).1⟩] from if_neg c, if_neg c]
          exact List.mem_cons_of_mem _ List.mem_cons_self
      have mF : firstB D pl t ∈ bnds D pl (t + 1) := by
        by_cases c : pl = D.ks.length
        · rw [show bnds D pl (t + 1) = [firstB D pl t, ⟨"takes", some ((pl : Int), (t : Int) - 1), D.ss.getD t 0⟩] from if_pos c]
          exact List.mem_cons_self
        · rw [show bnds D pl (t + 1) = [firstB D pl t, ⟨"takes", some ((pl : Int), (t : Int) - 1), (kt D pl).2.getD t 0⟩, ⟨"room", some ((pl : Int) + 1, (t : Int)), (kt D pl).1⟩] from if_neg c]
          exact List.mem_cons_self
      have mR : pl < D.ks.length → (⟨"room", some ((pl : Int) + 1, (t : Int)), (kt D pl).1⟩ : Bd) ∈ bnds D pl (t + 1) := fun c => by
        rw [show bnds D pl (t + 1) = [firstB D pl t, ⟨"takes", some ((pl : Int), (t : Int) - 1), (kt D pl).2.getD t 0⟩, ⟨"room", some ((pl : Int) + 1, (t : Int)), (kt D pl).1⟩] from if_neg (by omega)]
        exact List.mem_cons_of_mem _ (List.mem_cons_of_mem _ List.mem_cons_self)
      obtain ⟨b, w, mb, hw, ew, kinds⟩ : ∃ (b : Bd) (w : Str), b ∈ bnds D pl (t + 1) ∧ b.word = w ∧ atI S z = some (.str w) ∧ (b = firstB D pl t ∨ b = ⟨"takes", some ((pl : Int), (t : Int) - 1), if pl = D.ks.length then D.ss.getD t 0 else (kt D pl).2.getD t 0⟩ ∨ (pl < D.ks.length ∧ b = ⟨"room", some ((pl : Int) + 1, (t : Int)), (kt D pl).1⟩)) := by
        have cs : z = 0 ∨ z = 1 ∨ z = 2 ∨ (z = 3 ∧ ws.length = 1) := by omega
        rw [← eS]
        rcases cs with c | c | c | ⟨c, c2⟩
        · subst c
          exact ⟨_, _, mT, rfl, at0, .inr (.inl rfl)⟩
        · subst c
          exact ⟨_, _, mT, rfl, at1, .inr (.inl rfl)⟩
        · subst c
          exact ⟨_, _, mF, rfl, at2, .inl rfl⟩
        · subst c
          rcases wcs with ⟨e, _⟩ | ⟨e, lt⟩
          · rw [e] at c2
            cases c2
          · rw [e]
            exact ⟨_, _, mR lt, rfl, rfl, .inr (.inr ⟨lt, rfl⟩)⟩
      refine ⟨l5, _, z, _, rfl, rfl, SqL.of h9, ew, ?_⟩
      have pa9 := F9 _ _ pap_ (s38 _ _ hpa)
      refine ⟨_, rfl, .inl ⟨rfl, _, SqL.of pa9⟩, _, rfl, _, rfl, _, rfl, rfl, fun r H10 s10 n10 h10 => ?_⟩
      refine ⟨pa, _, _, rfl, rfl, s10 _ _ pa9, by rw [List.length_map, pap.1]; exact small' (by omega), ?_⟩
      have F10 : Fr p H H10 := F3.trans ((Fr.of s38).trans (F9.trans (.of s10)))
      have hr10 : H10 r = some (bdTup (w, pl, t + 1)) := h10
      have pap9 := pap.fr B3 ((Fr.of s38).trans F9)
      have pap10 := (pap9.same s10).snoc hr10
      have pa10 := s10 _ _ pa9
      have papU : PaperAt (upd H10 pa (.lst (rs.map V.ref ++ [.ref r]))) (rs ++ [r]) (l ++ [(w, pl, t + 1)]) := ⟨pap10.1, fun j r' e a c => by
        have h := pap10.2 j r' e a c
        rw [upd_ne (ne_of h pa10 (by intro z; cases z))]
        exact h⟩
      have paU : (upd H10 pa (.lst (rs.map V.ref ++ [.ref r]))) pa = some (.lst ((rs ++ [r]).map V.ref)) := by
        rw [upd_same, List.map_append] <;> rfl
      have FU : Fr p H (upd H10 pa (.lst (rs.map V.ref ++ [.ref r]))) := F10.put' n1
      have BU := (B9.same s10).upd (o := .lst (rs.map V.ref ++ [.ref r])) pap_
      generalize upd H10 pa (.lst (rs.map V.ref ++ [.ref r])) = HU at papU paU FU BU
      have hDU := hD.fr hB FU
      have hkU : SqL K HU x.k (x.as.map V.ref) := by
        have z := hDU.ks
        rw [xk] at z
        exact z
      have hcU : SqL K HU x.c (D.cs.map V.int) := by
        have z := hDU.cs.1
        rw [xc] at z
        exact z
      have lU : (l ++ [(w, pl, t + 1)]).length = l.length + 1 := by rw [List.length_append] <;> rfl
      have contU : ∀ (pl' t' : Nat) (to' : Int), b.lead = some ((pl' : Int), (t' : Int) - 1) → pl' ≤ D.ks.length → t' ≤ t + 1 → to' = to + b.more → ∀ l' m', Chain D pl' t' l' m' → Chain D D.ks.length D.cs.length ((l ++ [(w, pl, t + 1)]) ++ l') (m' + to') := fun pl' t' to' e1 e2 e3 e4 l' m' c => by
        have := cont _ _ (Chain.step mb e1 e2 e3 c)
        rw [List.append_assoc, List.singleton_append, e4, ← hw, show m' + (to + b.more) = m' + b.more + to by omega]
        exact this
      rcases kinds with eb | eb | ⟨lt, eb⟩
      · by_cases c0 : pl = 0
        · -- what comes
          have eb : b = ⟨"comes", none, csum D (t + 1)⟩ := eb.trans (if_pos c0)
          subst eb
          subst c0
          obtain rfl : ("comes" : Str) = w := hw
          refine ⟨_, rfl, rfl, _, rfl, ?_⟩
          rw [decide_eq_true rfl]
          refine iteT ?_
          refine ⟨_, rfl, _, rfl, _, rfl, _, rfl, _, _, rfl, rfl, _, rfl, x.c, _, rfl, hcU, fun c H11 s11 n11 h11 => ?_⟩
          rw [show ((t + 1 : Nat) : Int) - 1 + 1 = ((t + 1 : Nat) : Int) by omega, cut_to' (by rw [List.length_map]; omega), ← List.map_take] at h11
          refine ⟨c, _, true, rfl, SqL.of h11, _, _, rfl, rfl, rfl, fun tt H12 s12 n12 h12 => ?_⟩
          have s1112 := s11.trans s12
          have FF := FU.trans (.of s1112)
          have hpa' : H pa = none := n1
          have c1 := cont _ _ (Chain.last mb rfl)
          refine q tt pa _ _ _ H12 ((BU.same s1112).mono (by omega)) FF hpa' pap_ h12 (s1112 _ _ paU) (papU.same s1112) ?_ (by rw [lU]; omega)
          have c2 : Chain D D.ks.length D.cs.length (l ++ [(("comes" : Str), 0, t + 1)]) (csum D (t + 1) + to) := c1
          rw [Int.add_comm] at c2
          exact c2
        · -- from the place ahead
          have eb : b = ⟨"ahead", some ((pl : Int) - 1, (t : Int) - 1), 0⟩ := eb.trans (if_neg c0)
          subst eb
          obtain rfl : ("ahead" : Str) = w := hw
          refine ⟨_, rfl, rfl, _, rfl, ?_⟩
          rw [show decide (V.str ("ahead" : Str) = V.str ("comes" : Str)) = false by decide +kernel]
          refine iteF ?_
          refine ⟨_, rfl, rfl, _, rfl, ?_⟩
          rw [show decide (V.str ("ahead" : Str) = V.str ("room" : Str)) = false by decide +kernel]
          refine iteF ?_
          refine ⟨_, rfl, _, rfl, rfl, .inr ⟨_, rfl, ?_⟩⟩
          rw [show (if decide (V.str ("ahead" : Str) = V.str ("takes" : Str)) = true then (1 : Int) else 0) = 0 by decide +kernel]
          refine ⟨_, rfl, _, rfl, x.k, _, rfl, .inl hkU, ?_⟩
          rw [List.length_map, hD.len]
          refine ⟨rfl, _, rfl, ?_⟩
          by_cases c : pl = D.ks.length
          · refine ite_bT (decide_eq_true (by rw [c])) ?_
            refine ⟨_, rfl, _, rfl, ix_b (i := t) hDU.ss.1 (by omega) (ints_get (by rw [O.sl]; omega)) ?_⟩
            refine ⟨_, _, rfl, rfl, mulL (by decide), _, _, rfl, rfl, ?_⟩
            refine ⟨_, rfl, _, rfl, rfl, .inr ⟨_, rfl, ?_⟩⟩
            rw [show (if decide (V.str ("ahead" : Str) = V.str ("ahead" : Str)) = true then (1 : Int) else 0) = 1 by decide +kernel]
            refine ⟨_, _, rfl, rfl, _, rfl, _, _, rfl, rfl, _, _, rfl, ?_⟩
            exact ⟨t * 10 + (9 - (pl - 1)), by omega, (pl - 1), t, _, _, _, _, _, _, _, rfl, by omega, by omega, FU, BU.mono (by omega), paU, papU, by omega, by omega, rfl, by rw [lU]; omega, contU (pl - 1) t _ (by rw [show ((pl - 1 : Nat) : Int) = (pl : Int) - 1 by omega]) (by omega) (by omega) (by rw [Int.zero_mul])⟩
          · refine ite_bF (decide_eq_false fun e => c (by injection e with e; omega)) ?_
            obtain ⟨ka, tk', b', gk, hka, hta⟩ := hDU.pot (j := pl) (by omega)
            refine ⟨_, rfl, _, rfl, x.k, _, _, _, rfl, rfl, hkU, at_of rfl gk, ka, _, 1, _, rfl, rfl, hka, at1, _, rfl, ix_b (i := t) hta.1 (by omega) (ints_get (by rw [kt_len O (by omega)]; omega)) ?_⟩
            refine ⟨_, _, rfl, rfl, mulL (by decide), _, _, rfl, rfl, ?_⟩
            refine ⟨_, rfl, _, rfl, rfl, .inr ⟨_, rfl, ?_⟩⟩
            rw [show (if decide (V.str ("ahead" : Str) = V.str ("ahead" : Str)) = true then (1 : Int) else 0) = 1 by decide +kernel]
            refine ⟨_, _, rfl, rfl, _, rfl, _, _, rfl, rfl, _, _, rfl, ?_⟩
            exact ⟨t * 10 + (9 - (pl - 1)), by omega, (pl - 1), t, _, _, _, _, _, _, _, rfl, by omega, by omega, FU, BU.mono (by omega), paU, papU, by omega, by omega, rfl, by rw [lU]; omega, contU (pl - 1) t _ (by rw [show ((pl - 1 : Nat) : Int) = (pl : Int) - 1 by omega]) (by omega) (by omega) (by rw [Int.zero_mul])⟩
      · -- what the place takes
        subst eb
        obtain rfl : ("takes" : Str) = w := hw
        refine ⟨_, rfl, rfl, _, rfl, ?_⟩
        rw [show decide (V.str ("takes" : Str) = V.str ("comes" : Str)) = false by decide +kernel]
        refine iteF ?_
        refine ⟨_, rfl, rfl, _, rfl, ?_⟩
        rw [show decide (V.str ("takes" : Str) = V.str ("room" : Str)) = false by decide +kernel]
        refine iteF ?_
        refine ⟨_, rfl, _, rfl, rfl, .inr ⟨_, rfl, ?_⟩⟩
        rw [show (if decide (V.str ("takes" : Str) = V.str ("takes" : Str)) = true then (1 : Int) else 0) = 1 by decide +kernel]
        refine ⟨_, rfl, _, rfl, x.k, _, rfl, .inl hkU, ?_⟩
        rw [List.length_map, hD.len]
        refine ⟨rfl, _, rfl, ?_⟩
        by_cases c : pl = D.ks.length
        · refine ite_bT (decide_eq_true (by rw [c])) ?_
          refine ⟨_, rfl, _, rfl, ix_b (i := t) hDU.ss.1 (by omega) (ints_get (by rw [O.sl]; omega)) ?_⟩
          refine ⟨_, _, rfl, rfl, mulL (by decide), _, _, rfl, rfl, ?_⟩
          refine ⟨_, rfl, _, rfl, rfl, .inr ⟨_, rfl, ?_⟩⟩
          rw [show (if decide (V.str ("takes" : Str) = V.str ("ahead" : Str)) = true then (1 : Int) else 0) = 0 by decide +kernel]
          refine ⟨_, _, rfl, rfl, _, rfl, _, _, rfl, rfl, _, _, rfl, ?_⟩
          exact ⟨t * 10 + (9 - pl), by omega, pl, t, _, _, _, _, _, _, _, rfl, by omega, by omega, FU, BU.mono (by omega), paU, papU, by omega, by omega, rfl, by rw [lU]; omega, contU pl t _ rfl (by omega) (by omega) (by rw [Int.one_mul, if_pos c])⟩
        · refine ite_bF (decide_eq_false fun e => c (by injection e with e; omega)) ?_
          obtain ⟨ka, tk', b', gk, hka, hta⟩ := hDU.pot (j := pl) (by omega)
          refine ⟨_, rfl, _, rfl, x.k, _, _, _, rfl, rfl, hkU, at_of rfl gk, ka, _, 1, _, rfl, rfl, hka, at1, _, rfl, ix_b (i := t) hta.1 (by omega) (ints_get (by rw [kt_len O (by omega)]; omega)) ?_⟩
          refine ⟨_, _, rfl, rfl, mulL (by decide), _, _, rfl, rfl, ?_⟩
          refine ⟨_, rfl, _, rfl, rfl, .inr ⟨_, rfl, ?_⟩⟩
          rw [show (if decide (V.str ("takes" : Str) = V.str ("ahead" : Str)) = true then (1 : Int) else 0) = 0 by decide +kernel]
          refine ⟨_, _, rfl, rfl, _, rfl, _, _, rfl, rfl, _, _, rfl, ?_⟩
          exact ⟨t * 10 + (9 - pl), by omega, pl, t, _, _, _, _, _, _, _, rfl, by omega, by omega, FU, BU.mono (by omega), paU, papU, by omega, by omega, rfl, by rw [lU]; omega, contU pl t _ rfl (by omega) (by omega) (by rw [Int.one_mul, if_neg c])⟩
      · -- its room
        subst eb
        obtain rfl : ("room" : Str) = w := hw
        refine ⟨_, rfl, rfl, _, rfl, ?_⟩
        rw [show decide (V.str ("room" : Str) = V.str ("comes" : Str)) = false by decide +kernel]
        refine iteF ?_
        refine ⟨_, rfl, rfl, _, rfl, ?_⟩
        rw [decide_eq_true rfl]
        refine iteT ?_
        obtain ⟨ka, tk', b', gk, hka, hta⟩ := hDU.pot (j := pl) lt
        refine ⟨_, rfl, _, rfl, _, rfl, x.k, _, _, _, rfl, rfl, hkU, at_of rfl gk, ka, _, 0, _, rfl, rfl, hka, at0, _, _, rfl, rfl, _, rfl, _, _, rfl, rfl, _, _, rfl, ?_⟩
        exact ⟨(t + 1) * 10 + (9 - (pl + 1)), by omega, pl + 1, t + 1, _, _, _, _, _, _, _, rfl, by omega, rfl, FU, BU.mono (by omega), paU, papU, by omega, by omega, rfl, by rw [lU]; omega, contU (pl + 1) (t + 1) _ (by rw [show ((pl + 1 : Nat) : Int) = (pl : Int) + 1 by omega, show ((t + 1 : Nat) : Int) - 1 = (t : Int) by omega]) (by omega) (by omega) rfl⟩

end
end KR
namespace KR
open PySem PySem.Spec PyProof.Rows L2
section
variable {P : Program} {w : World} {K : PySem.W.Frag} {mg : Str → Option Value} {base : Heap}
def sp_l_otherwise (K : PySem.W.Frag) : Sp := fun vs H Q _ => ∃ (p f : Addr) (nb : Nat) (Av : Addr → Prop) (rs : List Addr) (l : List (Str × Nat × Nat)), vs = [.ref p, .ref f] ∧ Av p ∧ (∀ a, Av a → ∃ o, H a = some o) ∧ BoxAt H p nb ∧ nb ≤ 999000000 ∧ f ≠ p ∧ H f = some (.lst (rs.map V.ref)) ∧ PaperAt H rs l ∧ (∀ e ∈ l, smallE e) ∧ 1 ≤ l.length ∧ l.length ≤ 500 ∧
  ∀ (v' : V) (d' : PyData) (H' : Hp), BoxAt H' p (nb + 3) → Fr p H H' → Tg K Av H' 1000000 2 v' d' → PyData.weight d' ≤ 64 * l.length + 100 → Q v' H'
theorem ok_l_otherwise (T : All K mg) : FnOk P w K mg base CX0 2 T.f_l_otherwise T.fd_l_otherwise ["_law_box_here", "_law_paper"] (sp_l_otherwise K) := by
  refine T.d_l_otherwise.fn.ok sc_l_otherwise (fun vs H Q E h => ?_) (fun cdv A outer s H vs Q E hr h => ?_)
  · obtain ⟨p, f, nb, Av, rs, l, rfl, _⟩ := h
    rfl
  · obtain ⟨p, f, nb, Av, rs, l, rfl, hAp, hAv, hB, hnb, fp, hf, pap, sm, l1, l2, q⟩ := h
    refine ⟨_, (pss_cons (ps_set (i := 2) sc_l_otherwise.nd rfl (by first | exact Or.inl rfl | exact Or.inr rfl) (pe_call (ok_l_take T) hr (by rfl) T.d_l_take.mg T.d_l_take.fn.kp T.d_l_take.b .nil pass0 (pa_cons (pv 0) (pa_cons (pe_callB (lenQ (K := K) rfl) (by rfl) T.b_len PySem.boot_len (pa_cons (pv 1) pa_nil)) pa_nil))))
      (pss_cons (ps_asg (pe_ix (ixL (K := K) rfl) (pv 1) (pv 2) (fun _ _ => rfl)) (pg_tupK (K := K) rfl rfl (pgs_cons (pg_name (i := 3) sc_l_otherwise.nd rfl (by first | exact Or.inl rfl | exact Or.inr rfl)) (pgs_cons (pg_name (i := 4) sc_l_otherwise.nd rfl (by first | exact Or.inl rfl | exact Or.inr rfl)) (pgs_cons (pg_name (i := 5) sc_l_otherwise.nd rfl (by first | exact Or.inl rfl | exact Or.inr rfl)) pgs_nil)))))
      (pss_cons (ps_set (i := 6) sc_l_otherwise.nd rfl (by first | exact Or.inl rfl | exact Or.inr rfl) (pe_lstI (pa_cons pe_str (pa_cons pe_str (pa_cons pe_str (pa_cons pe_str (pa_cons pe_str (pa_cons pe_str (pa_cons pe_str pa_nil)))))))))
      (pss_cons (ps_set (i := 7) sc_l_otherwise.nd rfl (by first | exact Or.inl rfl | exact Or.inr rfl) (pe_lstI (pa_cons (pe_tupI (pa_cons (pe_ix (ixL (K := K) rfl) (pv 6) (pe_call (ok_l_take T) hr (by rfl) T.d_l_take.mg T.d_l_take.fn.kp T.d_l_take.b .nil pass0 (pa_cons (pv 0) (pa_cons pe_int pa_nil))) (fun _ _ => rfl)) (pa_cons (pv 4) (pa_cons (pv 5) pa_nil)))) (pa_cons (pe_tupI (pa_cons (pv 3) (pa_cons (pe_op op_add (pv 4) pe_int) (pa_cons (pv 5) pa_nil)))) (pa_cons (pe_tupI (pa_cons (pv 3) (pa_cons (pe_op op_sub (pv 4) pe_int) (pa_cons (pv 5) pa_nil)))) pa_nil)))))
      (pss_cons (ps_set (i := 7) sc_l_otherwise.nd rfl (by first | exact Or.inl rfl | exact Or.inr rfl) (pe_op op_catI (pv 7) (pe_lstI (pa_cons (pe_tupI (pa_cons (pv 3) (pa_cons (pv 4) (pa_cons (pe_op op_add (pv 5) pe_int) pa_nil)))) (pa_cons (pe_tupI (pa_cons (pv 3) (pa_cons (pv 4) (pa_cons (pe_op op_sub (pv 5) pe_int) pa_nil)))) (pa_cons (pe_tupI (pa_cons (pv 3) (pa_cons (pv 4) pa_nil))) (pa_cons (pe_lstI (pa_cons (pv 3) (pa_cons (pv 4) (pa_cons (pv 5) pa_nil)))) pa_nil)))))))
      (pss_one (ps_ret (pe_op op_catI (pe_op op_catI (pe_slice (slL (K := K) rfl) (pv 1) po_none (po_some (pv 2))) (pe_lstI (pa_cons (pe_ix (ixL (K := K) rfl) (pv 7) (pe_call (ok_l_take T) hr (by rfl) T.d_l_take.mg T.d_l_take.fn.kp T.d_l_take.b .nil pass0 (pa_cons (pv 0) (pa_cons pe_int pa_nil))) (fun _ _ => rfl)) pa_nil))) (pe_slice (slL (K := K) rfl) (pv 1) (po_some (pe_op op_add (pv 2) pe_int)) po_none))))))))), ?_⟩
    have lr : (rs.map V.ref).length = l.length := by rw [List.length_map, pap.1]
    refine ⟨_, rfl, _, rfl, f, _, rfl, .inl (SqL.of hf), p, _, nb, rfl, hB, by omega, by omega, by omega, fun at_ H1 a0 a1 B1 F1 => ?_⟩
    have avo : ∀ {Ha : Hp} {b : Addr}, Fr p H Ha → Ha b = none → b ≠ p → ¬ Av b := fun {Ha b} F nb bp z => by
      obtain ⟨o, ho⟩ := hAv _ z
      rw [F _ _ bp ho] at nb
      cases nb
    obtain ⟨k, rfl⟩ : ∃ k : Nat, at_ = (k : Int) := ⟨at_.toNat, by omega⟩
    have kl : k < l.length := by omega
    obtain ⟨r, er⟩ : ∃ r, rs[k]? = some r := ⟨rs[k]'(by rw [pap.1]; exact kl), List.getElem?_eq_getElem _⟩
    obtain ⟨e, ee⟩ : ∃ e, l[k]? = some e := ⟨l[k], List.getElem?_eq_getElem kl⟩
    have hr := pap.2 k r e er ee
    obtain ⟨w, pl, hn⟩ := e
    have se := sm _ (List.mem_of_getElem? ee)
    have rp : r ≠ p := hB.ne hr
    have hr1 := F1 _ _ rp hr
    have hr1' : H1 r = some (.tup [.str w, .int (pl : Int), .int ((hn : Int) - 1)]) := hr1
    have hf1 := F1 _ _ fp hf
    refine ⟨_, rfl, _, rfl, f, _, (k : Int), _, rfl, rfl, SqL.of hf1, at_of rfl (by rw [List.getElem?_map, er] <;> rfl), r, _, rfl, SqT.of hr1', rfl, _, _, rfl, _, _, rfl, _, _, rfl, rfl, ?_⟩
    refine ⟨rfl, fun lw H2 s2 n2 h2 => ?_⟩
    have B2 := B1.same s2
    have lwp := B1.new n2
    refine ⟨_, rfl, _, rfl, p, 7, _, rfl, B2, by omega, by decide, by decide, fun z H3 z0 z1 B3 F3 => ?_⟩
    have h3 := F3 _ _ lwp h2
    obtain ⟨w', ew, sw⟩ : ∃ w' : Str, atI ([.str "takes", .str "ahead", .str "room", .str "comes", .str "begin", .str "Takes", .str ""] : List V) z = some (.str w') ∧ (w'.length ≤ 10 ∧ (∀ c ∈ TL.tl w', c < 128) ∧ PyData.weight (.str w') ≤ 10) := by
      have cs : z = 0 ∨ z = 1 ∨ z = 2 ∨ z = 3 ∨ z = 4 ∨ z = 5 ∨ z = 6 := by omega
      rcases cs with c | c | c | c | c | c | c <;> subst c <;> exact ⟨_, rfl, by decide +kernel, by decide +kernel, by decide +kernel⟩
    refine ⟨lw, _, z, _, rfl, rfl, SqL.of h3, ew, _, rfl, _, rfl, rfl, fun u1 H4 s4 n4 h4 => ?_⟩
    refine ⟨_, rfl, _, rfl, _, _, rfl, rfl, _, rfl, rfl, fun u2 H5 s5 n5 h5 => ?_⟩
    refine ⟨_, rfl, _, rfl, _, _, rfl, rfl, _, rfl, rfl, fun u3 H6 s6 n6 h6 => ⟨rfl, fun la H7 s7 n7 h7 => ?_⟩⟩
    refine ⟨_, rfl, _, rfl, _, rfl, _, rfl, _, _, rfl, rfl, rfl, fun u4 H8 s8 n8 h8 => ?_⟩
    refine ⟨_, rfl, _, rfl, _, rfl, _, _, rfl, rfl, rfl, fun u5 H9 s9 n9 h9 => ?_⟩
    refine ⟨_, rfl, _, rfl, rfl, fun u6 H10 s10 n10 h10 => ?_⟩
    refine ⟨_, rfl, _, rfl, _, rfl, rfl, fun u7 H11 s11 n11 h11 => ⟨rfl, fun lb H12 s12 n12 h12 => ?_⟩⟩
    have s711 := s8.trans (s9.trans (s10.trans s11))
    have s712 := s711.trans s12
    refine ⟨la, lb, _, _, rfl, rfl, s712 _ _ h7, h12, by rw [sizeLine_eq]; show 3 + 4 ≤ _; decide, fun lc H13 s13 n13 h13 => ?_⟩
    have s313 : Same H3 H13 := s4.trans (s5.trans (s6.trans (s7.trans (s712.trans s13))))
    have s310 : Same H3 H10 := s4.trans (s5.trans (s6.trans (s7.trans (s8.trans (s9.trans s10)))))
    have B13 := B3.same s313
    have F13 : Fr p H H13 := F1.trans ((Fr.of s2).trans (F3.trans (.of s313)))
    have hf13 := F13 _ _ fp hf
    refine ⟨_, rfl, _, rfl, _, rfl, f, _, rfl, SqL.of hf13, fun c1 G1 t1 o1 y1 => ?_⟩
    have s1b := s13.trans t1
    have BG := B13.same t1
    have lcp := (B3.same (s4.trans (s5.trans (s6.trans (s7.trans s712))))).new n13
    have u7p := (B3.same s310).new n11
    have c1p := B13.new o1
    refine ⟨_, rfl, _, rfl, p, 7, _, rfl, BG, by omega, by decide, by decide, fun z2 G2 z20 z21 BG2 FG2 => ?_⟩
    have F2' : Fr p H G2 := F13.trans ((Fr.of t1).trans FG2)
    have tupG : ∀ {u : Addr} {zs : List V}, SqT K H13 u zs → SqT K G2 u zs := fun {u zs} e => sqT_fr (Same.tup t1 e) BG FG2
    have hu7 : G2 u7 = some (.lst [.str w, .int (pl : Int), .int ((hn : Int) - 1)]) := FG2 _ _ u7p ((s12.trans s1b) _ _ h11)
    have u7a : ¬ Av u7 := avo (F1.trans ((Fr.of s2).trans (F3.trans (.of s310)))) n11 u7p
    obtain ⟨⟨a1', a2', a3'⟩, b1, b2⟩ := se
    have a1' : w.length ≤ 10 := a1'
    have a2' : ∀ c ∈ TL.tl w, c < 128 := a2'
    have a3' : PyData.weight (.str w) ≤ 10 := a3'
    have b1 : pl ≤ 100 := b1
    have b2 : hn ≤ 100 := b2
    have tgw : ∀ {n : Nat}, Tg K Av G2 1000000 n (.str w) (.str w) := fun {n} => .str _ _ 0 a1' a2'
    have three_ : ∀ {u : Addr} {w0 : Str} {i j : Int}, SqT K G2 u [.str w0, .int i, .int j] → w0.length ≤ 10 → (∀ c ∈ TL.tl w0, c < 128) → PyData.weight (.str w0) ≤ 10 → i.natAbs < 2 ^ 7 → j.natAbs < 2 ^ 7 → Tg K Av G2 1000000 1 (.ref u) (.tuple [.str w0, .int i, .int j]) ∧ PyData.weight (.tuple [.str w0, .int i, .int j]) ≤ 30 := fun {u w0 i j} sq q1 q2 q3 q4 q5 => by
      refine ⟨.tup sq rfl (TgAll.cons (.str _ _ 0 q1 q2) (.cons (.int _ _ (by omega)) (.cons (.int _ _ (by omega)) .nil))).2, ?_⟩
      have := wt7 q4
      have := wt7 q5
      show PyData.weight (.str w0) + 1 + (PyData.weight (.int i) + 1 + (PyData.weight (.int j) + 1 + 0)) ≤ 30
      omega
    obtain ⟨y, e, ey, ty, we⟩ : ∃ (y : V) (e : PyData), atI ([.ref u1, .ref u2, .ref u3] ++ [.ref u4, .ref u5, .ref u6, .ref u7] : List V) z2 = some y ∧ Tg K Av G2 1000000 1 y e ∧ PyData.weight e ≤ 30 := by
      have cs : z2 = 0 ∨ z2 = 1 ∨ z2 = 2 ∨ z2 = 3 ∨ z2 = 4 ∨ z2 = 5 ∨ z2 = 6 := by omega
      have s47 := s5.trans (s6.trans (s7.trans (s712.trans s13)))
      rcases cs with c | c | c | c | c | c | c <;> subst c
      · obtain ⟨g1, g2⟩ := three_ (tupG (SqT.of (s47 _ _ h4))) sw.1 sw.2.1 sw.2.2 (by omega) (by omega)
        exact ⟨_, _, rfl, g1, g2⟩
      · obtain ⟨g1, g2⟩ := three_ (tupG (SqT.of ((s6.trans (s7.trans (s712.trans s13))) _ _ h5))) a1' a2' a3' (by omega) (by omega)
        exact ⟨_, _, rfl, g1, g2⟩
      · obtain ⟨g1, g2⟩ := three_ (tupG (SqT.of ((s7.trans (s712.trans s13)) _ _ h6))) a1' a2' a3' (by omega) (by omega)
        exact ⟨_, _, rfl, g1, g2⟩
      · obtain ⟨g1, g2⟩ := three_ (tupG (SqT.of ((s9.trans (s10.trans (s11.trans (s12.trans s13)))) _ _ h8))) a1' a2' a3' (by omega) (by omega)
        exact ⟨_, _, rfl, g1, g2⟩
      · obtain ⟨g1, g2⟩ := three_ (tupG (SqT.of ((s10.trans (s11.trans (s12.trans s13))) _ _ h9))) a1' a2' a3' (by omega) (by omega)
        exact ⟨_, _, rfl, g1, g2⟩
      · refine ⟨_, .tuple [.str w, .int (pl : Int)], rfl, .tup (tupG (SqT.of ((s11.trans (s12.trans s13)) _ _ h10))) rfl (TgAll.cons tgw (.cons (.int _ _ (by omega)) .nil)).2, ?_⟩
        have := wt7 (i := (pl : Int)) (by omega)
        show PyData.weight (.str w) + 1 + (PyData.weight (.int (pl : Int)) + 1 + 0) ≤ 30
        omega
      · refine ⟨_, .list [.str w, .int (pl : Int), .int ((hn : Int) - 1)], rfl, .lst hu7 u7a rfl (TgAll.cons tgw (.cons (.int _ _ (by omega)) (.cons (.int _ _ (by omega)) .nil))).2, ?_⟩
        have := wt7 (i := (pl : Int)) (by omega)
        have := wt7 (i := (hn : Int) - 1) (by omega)
        show PyData.weight (.str w) + 1 + (PyData.weight (.int (pl : Int)) + 1 + (PyData.weight (.int ((hn : Int) - 1)) + 1 + 0)) ≤ 30
        omega
    refine ⟨lc, _, z2, y, rfl, rfl, SqL.of (FG2 _ _ lcp (t1 _ _ h13)), ey, rfl, fun ll G3 t3 o3 y3 => ?_⟩
    have hc1 := t3 _ _ (FG2 _ _ c1p y1)
    refine ⟨c1, ll, _, _, rfl, rfl, hc1, y3, ?_, fun l3 G4 t4 o4 y4 => ?_⟩
    · have e1 := cutV_length (rs.map V.ref) none (some (k : Int))
      rw [sizeLine_eq]
      show _ + 1 ≤ _
      omega
    have F4 : Fr p H G4 := F2'.trans (.of (t3.trans t4))
    refine ⟨_, rfl, _, rfl, _, _, rfl, rfl, _, rfl, f, _, rfl, SqL.of (F4 _ _ fp hf), fun c2 G5 t5 o5 y5 => ?_⟩
    refine ⟨l3, c2, _, _, rfl, rfl, t5 _ _ y4, y5, ?_, fun ro G6 t6 o6 y6 => ?_⟩
    · have e1 := cutV_length (rs.map V.ref) none (some (k : Int))
      have e2 := cutV_length (rs.map V.ref) (some ((k : Int) + 1)) none
      rw [sizeLine_eq, List.length_append]
      show (_ + 1) + _ ≤ _
      omega
    have t26 := t3.trans (t4.trans (t5.trans t6))
    have F6 : Fr p H G6 := F2'.trans (.of t26)
    have tg : TgAll K Av G6 1000000 1 (rs.map V.ref) (l.map dpB) := papTg (pap.fr hB F6) sm
    obtain ⟨e1, g1, w1'⟩ := tg.cut none (some (k : Int))
    obtain ⟨e2, g2, w2'⟩ := tg.cut (some ((k : Int) + 1)) none
    have wp := wa_pap sm
    have B6 := BG2.same t26
    have roa : ¬ Av ro := avo (F2'.trans (.of (t3.trans (t4.trans t5)))) o6 ((BG2.same (t3.trans (t4.trans t5))).new o6)
    have tg6 : TgAll K Av G6 1000000 1 ((cutV (rs.map V.ref) none (some (k : Int)) ++ [y]) ++ cutV (rs.map V.ref) (some ((k : Int) + 1)) none) ((e1 ++ [e]) ++ e2) := (g1.app (TgAll.cons (ty.same t26) .nil)).app g2
    refine q (.ref ro) (.list ((e1 ++ [e]) ++ e2)) G6 (B6.mono (by omega)) F6 (.lst y6 roa tg6.1 tg6.2) ?_
    show PyData.weightAll ((e1 ++ [e]) ++ e2) ≤ _
    rw [wa_app, wa_app]
    show _ + (PyData.weight e + 1 + 0) + _ ≤ _
    omega

end
end KR
namespace KR
open PySem PySem.Spec PyProof.Rows L2
section
variable {P : Program} {w : World} {K : PySem.W.Frag} {mg : Str → Option Value} {base : Heap}
def sp_p_places_in (K : PySem.W.Frag) : Sp := fun vs H Q _ => ∃ (p d : Addr) (x : DyP) (D : Dy), vs = [.ref d] ∧ DayAt K H p d x D ∧ Q (.int ((D.ks.length : Int) + 1)) H
theorem ok_p_places_in (T : All K mg) : FnOk P w K mg base CX0 1 T.f_p_places_in T.fd_p_places_in ["day"] (sp_p_places_in K) := by
  refine T.d_p_places_in.fn.ok sc_p_places_in (fun vs H Q E h => ?_) (fun cdv A outer s H vs Q E hr h => ?_)
  · obtain ⟨p, d, x, D, rfl, _⟩ := h
    rfl
  · obtain ⟨p, d, x, D, rfl, hD, q⟩ := h
    refine ⟨_, (pss_one (ps_ret (pe_op op_add (pe_callB (lenA (K := K) rfl) (by rfl) T.b_len PySem.boot_len (pa_cons (pe_ix (ixT (K := K) rfl) (pv 0) pe_int (fun _ _ => rfl)) pa_nil)) pe_int))), ?_⟩
    refine ⟨_, rfl, d, _, 1, _, rfl, rfl, hD.at_, at1, _, _, rfl, lenV_b hD.ks, _, _, rfl, rfl, ?_⟩
    rw [List.length_map, hD.len]
    exact q

end
end KR
namespace KR
open PySem PySem.Spec PyProof.Rows L2
section
variable {P : Program} {w : World} {K : PySem.W.Frag} {mg : Str → Option Value} {base : Heap}
def sp_p_hours_in (K : PySem.W.Frag) : Sp := fun vs H Q _ => ∃ (p d : Addr) (x : DyP) (D : Dy), vs = [.ref d] ∧ DayAt K H p d x D ∧ Q (.int (D.cs.length : Int)) H
theorem ok_p_hours_in (T : All K mg) : FnOk P w K mg base CX0 1 T.f_p_hours_in T.fd_p_hours_in ["day"] (sp_p_hours_in K) := by
  refine T.d_p_hours_in.fn.ok sc_p_hours_in (fun vs H Q E h => ?_) (fun cdv A outer s H vs Q E hr h => ?_)
  · obtain ⟨p, d, x, D, rfl, _⟩ := h
    rfl
  · obtain ⟨p, d, x, D, rfl, hD, q⟩ := h
    refine ⟨_, (pss_one (ps_ret (pe_callB (lenA (K := K) rfl) (by rfl) T.b_len PySem.boot_len (pa_cons (pe_ix (ixT (K := K) rfl) (pv 0) pe_int (fun _ _ => rfl)) pa_nil)))), ?_⟩
    refine ⟨_, rfl, d, _, 0, _, rfl, rfl, hD.at_, at0, _, _, rfl, lenV_b hD.cs.1, ?_⟩
    rw [List.length_map]
    exact q

end
end KR
namespace KR
open PySem PySem.Spec PyProof.Rows L2
section
variable {P : Program} {w : World} {K : PySem.W.Frag} {mg : Str → Option Value} {base : Heap}
def sp_p_end_of (K : PySem.W.Frag) : Sp := fun vs H Q _ => ∃ (p d : Addr) (x : DyP) (D : Dy), vs = [.ref d] ∧ DayAt K H p d x D ∧ ∀ t H', Same H H' → H t = none → H' t = some (.tup [.int (D.ks.length : Int), .int ((D.cs.length : Int) - 1)]) → Q (.ref t) H'
theorem ok_p_end_of (T : All K mg) : FnOk P w K mg base CX0 2 T.f_p_end_of T.fd_p_end_of ["day"] (sp_p_end_of K) := by
  refine T.d_p_end_of.fn.ok sc_p_end_of (fun vs H Q E h => ?_) (fun cdv A outer s H vs Q E hr h => ?_)
  · obtain ⟨p, d, x, D, rfl, _⟩ := h
    rfl
  · obtain ⟨p, d, x, D, rfl, hD, q⟩ := h
    refine ⟨_, (pss_one (ps_ret (pe_tupI (pa_cons (pe_op op_sub (pe_call (ok_p_places_in T) hr (by rfl) T.d_p_places_in.mg T.d_p_places_in.fn.kp T.d_p_places_in.b .nil pass0 (pa_cons (pv 0) pa_nil)) pe_int) (pa_cons (pe_op op_sub (pe_call (ok_p_hours_in T) hr (by rfl) T.d_p_hours_in.mg T.d_p_hours_in.fn.kp T.d_p_hours_in.b .nil pass0 (pa_cons (pv 0) pa_nil)) pe_int) pa_nil))))), ?_⟩
    refine ⟨_, rfl, p, d, x, D, rfl, hD, _, _, rfl, rfl, _, rfl, p, d, x, D, rfl, hD, _, _, rfl, rfl, rfl, fun t H1 s1 n1 h1 => ?_⟩
    have h1 : H1 t = some (.tup [.int ((D.ks.length : Int) + 1 - 1), .int ((D.cs.length : Int) - 1)]) := h1
    rw [show (D.ks.length : Int) + 1 - 1 = (D.ks.length : Int) by omega] at h1
    exact q t H1 s1 n1 h1

end
end KR
namespace KR
open PySem PySem.Spec PyProof.Rows L2
section
variable {P : Program} {w : World} {K : PySem.W.Frag} {mg : Str → Option Value} {base : Heap}
def sp_p_bounds_at (K : PySem.W.Frag) : Sp := fun vs H Q _ => ∃ (p d : Addr) (x : DyP) (D : Dy) (pl t : Nat) (h : Int), vs = [.ref d, .int (pl : Int), .int h] ∧ h = (t : Int) - 1 ∧ DayAt K H p d x D ∧ DyOk D ∧ pl ≤ D.ks.length ∧ t ≤ D.cs.length ∧
  ∀ (b : Addr) (kvs : List (Key × V)) (H' : Hp), Same H H' → H b = none → H' b = some (.dK kvs) → AllBd H' kvs (bnds D pl t) → Q (.ref b) H'
theorem ok_p_bounds_at (T : All K mg) : FnOk P w K mg base CX0 1 T.f_p_bounds_at T.fd_p_bounds_at ["day", "place", "hour"] (sp_p_bounds_at K) := by
  refine T.d_p_bounds_at.fn.ok sc_p_bounds_at (fun vs H Q E h => ?_) (fun cdv A outer s H vs Q E hr h => ?_)
  · obtain ⟨p, d, x, D, pl, t, h, rfl, _⟩ := h
    rfl
  · obtain ⟨p, d, x, D, pl, t, h, rfl, eh, hD, O, lp, lt, q⟩ := h
    refine ⟨_, (pss_cons (ps_if (pt_cmpR op_eq (pv 2) (pe_glob (v := .int (-1)) rfl T.c_AHEAD_OF_ALL ⟨_, rfl⟩) (nomark _)) (pss_one (ps_ret (pe_disp (pps_cons pe_str (pe_tupI (pa_cons pe_non (pa_cons pe_int pa_nil))) pps_nil) rfl rfl (by simp) (by decide)))) pss_nil)
      (pss_cons (ps_asg (pv 0) (pg_tupK (K := K) rfl rfl (pgs_cons (pg_name (i := 3) sc_p_bounds_at.nd rfl (by first | exact Or.inl rfl | exact Or.inr rfl)) (pgs_cons (pg_name (i := 4) sc_p_bounds_at.nd rfl (by first | exact Or.inl rfl | exact Or.inr rfl)) (pgs_cons (pg_name (i := 5) sc_p_bounds_at.nd rfl (by first | exact Or.inl rfl | exact Or.inr rfl)) pgs_nil)))))
      (pss_cons (ps_J (ps_if (pt_cmpR op_eq (pv 1) pe_int (nomark _)) (pss_one (ps_set (i := 6) sc_p_bounds_at.nd rfl (by first | exact Or.inl rfl | exact Or.inr rfl) (pe_disp (pps_cons pe_str (pe_tupI (pa_cons pe_non (pa_cons (pe_callB (sumBK (K := K) rfl rfl) (by rfl) T.b_sum (by decide +kernel) (pa_cons (pe_slice (slBK (K := K) rfl) (pv 3) po_none (po_some (pe_op op_add (pv 2) pe_int))) pa_nil)) pa_nil))) pps_nil) rfl rfl (by simp) (by decide)))) (pss_one (ps_set (i := 6) sc_p_bounds_at.nd rfl (by first | exact Or.inl rfl | exact Or.inr rfl) (pe_disp (pps_cons pe_str (pe_tupI (pa_cons (pe_tupI (pa_cons (pe_op op_sub (pv 1) pe_int) (pa_cons (pe_op op_sub (pv 2) pe_int) pa_nil))) (pa_cons pe_int pa_nil))) pps_nil) rfl rfl (by simp) (by decide))))))
      (pss_cons (ps_if (pt_cmpR op_eq (pv 1) (pe_callB (lenA (K := K) rfl) (by rfl) T.b_len PySem.boot_len (pa_cons (pv 4) pa_nil)) (nomark _)) (pss_one (ps_asg (pe_tupI (pa_cons (pe_tupI (pa_cons (pv 1) (pa_cons (pe_op op_sub (pv 2) pe_int) pa_nil))) (pa_cons (pe_ix (ixQ (K := K) rfl) (pv 5) (pv 2) (fun _ _ => rfl)) pa_nil))) (pg_sub (pv 6) pe_str (set_dict (hu_of hr))))) (pss_cons (ps_asg (pe_ix (ixQ (K := K) rfl) (pv 4) (pv 1) (fun _ _ => rfl)) (pg_tupK (K := K) rfl rfl (pgs_cons (pg_name (i := 7) sc_p_bounds_at.nd rfl (by first | exact Or.inl rfl | exact Or.inr rfl)) (pgs_cons (pg_name (i := 8) sc_p_bounds_at.nd rfl (by first | exact Or.inl rfl | exact Or.inr rfl)) pgs_nil))))
      (pss_cons (ps_asg (pe_tupI (pa_cons (pe_tupI (pa_cons (pv 1) (pa_cons (pe_op op_sub (pv 2) pe_int) pa_nil))) (pa_cons (pe_ix (ixQ (K := K) rfl) (pv 8) (pv 2) (fun _ _ => rfl)) pa_nil))) (pg_sub (pv 6) pe_str (set_dict (hu_of hr))))
      (pss_one (ps_asg (pe_tupI (pa_cons (pe_tupI (pa_cons (pe_op op_add (pv 1) pe_int) (pa_cons (pv 2) pa_nil))) (pa_cons (pv 7) pa_nil))) (pg_sub (pv 6) pe_str (set_dict (hu_of hr))))))))
      (pss_one (ps_ret (pv 6))))))), ?_⟩
    refine ⟨_, rfl, rfl, _, rfl, ?_⟩
    cases t with
    | zero =>
      refine ite_iT (by omega) ?_
      refine fun b nb => ?_
      refine ⟨rfl, fun tu H1 s1 n1 h1 => ?_⟩
      refine ⟨s1 _ _ upd_same, [(.inr "begin", .ref tu)], rfl, by show 1 ≤ 15; decide, ?_⟩
      have tb : tu ≠ b := fun e => by
        rw [e, upd_same] at n1
        cases n1
      exact q b _ _ (Same.put ((same_new nb).trans s1) nb) nb upd_same (.cons ⟨rfl, tu, .non, rfl, by rw [upd_ne tb]; exact h1, rfl⟩ .nil)
    | succ t =>
      obtain rfl : h = (t : Int) := by omega
      refine ite_iF (by omega) ?_
      refine ⟨_, rfl, d, _, rfl, hD.at_, rfl, _, _, rfl, _, _, rfl, _, _, rfl, rfl, ?_⟩
      refine ⟨fun σ' H' => ∃ (b tu : Addr) (l : V), σ' = [some (.ref d), some (.int (pl : Int)), some (.int (t : Int)), some (.ref x.c), some (.ref x.k), some (.ref x.s), some (.ref b), none, none] ∧ Same H H' ∧ H b = none ∧ H' b = some (.dK [(.inr (firstB D pl t).word, .ref tu)]) ∧ H' tu = some (.tup [l, .int (firstB D pl t).more]) ∧ leadV H' l (firstB D pl t).lead ∧ tu ≠ b ∧ (∀ q, l = .ref q → q ≠ b), ?_, ?_⟩
      · rintro σ' H1 ⟨b, tu, l, rfl, s1, nb, hb, htu, hl, tub, lb⟩
        have hD1 := hD.same s1
        have fb : (pl = 0 ∧ (firstB D pl t).word = "comes") ∨ (pl ≠ 0 ∧ (firstB D pl t).word = "ahead") := by
          unfold firstB
          by_cases c : pl = 0
          · rw [if_pos c]
            exact .inl ⟨c, rfl⟩
          · rw [if_neg c]
            exact .inr ⟨c, rfl⟩
        have nt : ∀ w : Str, (w = "takes" ∨ w = "room") → (firstB D pl t).word ≠ w := by
          intro w hw e
          rcases fb with ⟨_, f⟩ | ⟨_, f⟩ <;> rw [f] at e <;> rcases hw with rfl | rfl <;> exact absurd e (by decide)
        have leadK : ∀ {H' : Hp}, Same H1 H' → leadV (upd H' b (.dK [])) l (firstB D pl t).lead → True := fun _ _ => trivial
        have keep : ∀ {H' : Hp} {o : HO}, Same H1 H' → leadV (upd H' b o) l (firstB D pl t).lead := fun {H' o} s => by
          cases e : (firstB D pl t).lead with
          | none =>
            rw [e] at hl
            exact hl
          | some y =>
            rw [e] at hl
            obtain ⟨q0, e0, h0⟩ := hl
            exact ⟨q0, e0, by rw [upd_ne (lb q0 e0)]; exact s _ _ h0⟩
        refine ⟨_, rfl, _, rfl, _, _, rfl, lenV_b hD1.ks, rfl, _, rfl, ?_⟩
        rw [List.length_map, hD.len]
        by_cases c : pl = D.ks.length
        · refine ite_iT (by omega) ?_
          refine ⟨_, rfl, _, rfl, _, _, rfl, rfl, rfl, fun q1 H2 s2 n2 h2 => ?_⟩
          refine ⟨_, rfl, _, rfl, ix_b (i := t) (hD1.ss.1.same s2) rfl (ints_get (by rw [O.sl]; omega)) ?_⟩
          refine ⟨rfl, fun t2 H3 s3 n3 h3 => ?_⟩
          have s13 := s2.trans s3
          have hb3 := s13 _ _ hb
          refine ⟨_, rfl, b, _, rfl, .k (k := .inr "takes") hb3 (by show 1 < sizeLine; rw [sizeLine_eq]; decide), ?_⟩
          have pn : putK [((.inr (firstB D pl t).word : Key), V.ref tu)] (.inr "takes") (.ref t2) = [((.inr (firstB D pl t).word : Key), V.ref tu), (.inr "takes", .ref t2)] := putK_new _ (by rw [valV_neg (fun e => nt "takes" (.inl rfl) (Sum.inr.inj e))] <;> rfl)
          rw [pn]
          have q1b : q1 ≠ b := (ne_of_none hb n2).symm
          have t2b : t2 ≠ b := (ne_of_none (s2 _ _ hb) n3).symm
          refine ⟨_, rfl, q b _ _ (Same.put (s1.trans s13) nb) nb upd_same ?_⟩
          rw [show bnds D pl (t + 1) = [firstB D pl t, ⟨"takes", some ((pl : Int), (t : Int) - 1), D.ss.getD t 0⟩] from if_pos c]
          exact .cons ⟨rfl, tu, l, rfl, by rw [upd_ne tub]; exact s13 _ _ htu, keep s13⟩ (.cons ⟨rfl, t2, .ref q1, rfl, by rw [upd_ne t2b]; exact h3, q1, rfl, by rw [upd_ne q1b]; exact s3 _ _ h2⟩ .nil)
        · refine ite_iF (by omega) ?_
          obtain ⟨ka, ta, bb, gk, hk, ht⟩ := hD1.pot (j := pl) (by omega)
          refine ⟨_, rfl, _, rfl, ix_b (i := pl) hD1.ks rfl gk ?_⟩
          refine ⟨ka, _, rfl, hk, rfl, _, _, rfl, _, _, rfl, rfl, ?_⟩
          refine ⟨_, rfl, _, rfl, _, _, rfl, rfl, rfl, fun q1 H2 s2 n2 h2 => ?_⟩
          refine ⟨_, rfl, _, rfl, ix_b (i := t) (ht.1.same s2) rfl (ints_get (by rw [kt_len O (by omega)]; omega)) ?_⟩
          refine ⟨rfl, fun t2 H3 s3 n3 h3 => ?_⟩
          have s13 := s2.trans s3
          have hb3 := s13 _ _ hb
          refine ⟨_, rfl, b, _, rfl, .k (k := .inr "takes") hb3 (by show 1 < sizeLine; rw [sizeLine_eq]; decide), ?_⟩
          have pn : putK [((.inr (firstB D pl t).word : Key), V.ref tu)] (.inr "takes") (.ref t2) = [((.inr (firstB D pl t).word : Key), V.ref tu), (.inr "takes", .ref t2)] := putK_new _ (by rw [valV_neg (fun e => nt "takes" (.inl rfl) (Sum.inr.inj e))] <;> rfl)
          rw [pn]
          have q1b : q1 ≠ b := (ne_of_none hb n2).symm
          have t2b : t2 ≠ b := (ne_of_none (s2 _ _ hb) n3).symm
          have s4 : Same H (upd H3 b (.dK [((.inr (firstB D pl t).word : Key), V.ref tu), (.inr "takes", .ref t2)])) := Same.put (s1.trans s13) nb
          have hb4 : (upd H3 b (.dK [((.inr (firstB D pl t).word : Key), V.ref tu), (.inr "takes", .ref t2)])) b = some (.dK [((.inr (firstB D pl t).word : Key), V.ref tu), (.inr "takes", .ref t2)]) := upd_same
          have htu4 : (upd H3 b (.dK [((.inr (firstB D pl t).word : Key), V.ref tu), (.inr "takes", .ref t2)])) tu = some (.tup [l, .int (firstB D pl t).more]) := by rw [upd_ne tub]; exact s13 _ _ htu
          have ht24 : (upd H3 b (.dK [((.inr (firstB D pl t).word : Key), V.ref tu), (.inr "takes", .ref t2)])) t2 = some (.tup [.ref q1, .int ((kt D pl).2.getD t 0)]) := by rw [upd_ne t2b]; exact h3
          have hq14 : (upd H3 b (.dK [((.inr (firstB D pl t).word : Key), V.ref tu), (.inr "takes", .ref t2)])) q1 = some (.tup [.int (pl : Int), .int ((t : Int) - 1)]) := by rw [upd_ne q1b]; exact s3 _ _ h2
          have kp4 : leadV (upd H3 b (.dK [((.inr (firstB D pl t).word : Key), V.ref tu), (.inr "takes", .ref t2)])) l (firstB D pl t).lead := keep s13
          generalize upd H3 b (.dK [((.inr (firstB D pl t).word : Key), V.ref tu), (.inr "takes", .ref t2)]) = H4 at s4 hb4 htu4 ht24 hq14 kp4
          refine ⟨_, rfl, _, _, rfl, rfl, _, rfl, rfl, fun q2 H5 s5 n5 h5 => ?_⟩
          refine ⟨_, rfl, rfl, fun t3 H6 s6 n6 h6 => ?_⟩
          have s46 := s5.trans s6
          have hb6 := s46 _ _ hb4
          refine ⟨_, rfl, b, _, rfl, .k (k := .inr "room") hb6 (by show 2 < sizeLine; rw [sizeLine_eq]; decide), ?_⟩
          have pn2 : putK [((.inr (firstB D pl t).word : Key), V.ref tu), (.inr "takes", .ref t2)] (.inr "room") (.ref t3) = [((.inr (firstB D pl t).word : Key), V.ref tu), (.inr "takes", .ref t2), (.inr "room", .ref t3)] := putK_new _ (by rw [valV_neg (fun e => nt "room" (.inr rfl) (Sum.inr.inj e)), valV_neg (fun e => absurd (Sum.inr.inj e) (by decide))] <;> rfl)
          rw [pn2]
          have q2b : q2 ≠ b := (ne_of_none hb4 n5).symm
          have t3b : t3 ≠ b := (ne_of_none (s5 _ _ hb4) n6).symm
          refine ⟨_, rfl, q b _ _ (Same.put (s4.trans s46) nb) nb upd_same ?_⟩
          rw [show bnds D pl (t + 1) = [firstB D pl t, ⟨"takes", some ((pl : Int), (t : Int) - 1), (kt D pl).2.getD t 0⟩, ⟨"room", some ((pl : Int) + 1, (t : Int)), (kt D pl).1⟩] from if_neg c]
          have kp6 : leadV (upd H6 b (.dK [((.inr (firstB D pl t).word : Key), V.ref tu), (.inr "takes", .ref t2), (.inr "room", .ref t3)])) l (firstB D pl t).lead := by
            cases e : (firstB D pl t).lead with
            | none =>
              rw [e] at kp4
              exact kp4
            | some y =>
              rw [e] at kp4
              obtain ⟨q0, e0, h0⟩ := kp4
              exact ⟨q0, e0, by rw [upd_ne (lb q0 e0)]; exact s46 _ _ h0⟩
          exact .cons ⟨rfl, tu, l, rfl, by rw [upd_ne tub]; exact s46 _ _ htu4, kp6⟩ (.cons ⟨rfl, t2, .ref q1, rfl, by rw [upd_ne t2b]; exact s46 _ _ ht24, q1, rfl, by rw [upd_ne q1b]; exact s46 _ _ hq14⟩ (.cons ⟨rfl, t3, .ref q2, rfl, by rw [upd_ne t3b]; exact h6, q2, rfl, by rw [upd_ne q2b]; exact s6 _ _ h5⟩ .nil))
      · refine ⟨_, rfl, rfl, _, rfl, ?_⟩
        by_cases c : pl = 0
        · refine ite_iT (by omega) ?_
          refine fun b nb => ?_
          refine ⟨_, rfl, _, rfl, _, _, rfl, rfl, _, rfl, x.c, _, x.pc, rfl, hD.cs.1.same (same_new nb), fun cu H1 s1 hcu => ?_⟩
          rw [show (t : Int) + 1 = ((t + 1 : Nat) : Int) by omega, cut_to' (by rw [List.length_map]; omega), ← List.map_take] at hcu
          refine ⟨cu, _, x.pc, rfl, hcu, rfl, fun tu H2 s2 n2 h2 => ?_⟩
          have s12 := s1.trans s2
          refine ⟨s12 _ _ upd_same, [(.inr "comes", .ref tu)], rfl, by show 1 ≤ 15; decide, ?_⟩
          have tb : tu ≠ b := (ne_of_none (s1 _ _ upd_same) n2).symm
          have e1 : firstB D pl t = ⟨"comes", none, csum D (t + 1)⟩ := if_pos c
          rw [e1]
          exact ⟨b, tu, .non, rfl, Same.put ((same_new nb).trans s12) nb, nb, upd_same, by rw [upd_ne tb]; exact h2, rfl, tb, fun q e => by cases e⟩
        · refine ite_iF (by omega) ?_
          refine fun b nb => ?_
          refine ⟨_, rfl, _, _, rfl, rfl, _, rfl, _, _, rfl, rfl, rfl, fun q1 H1 s1 n1 h1 => ⟨rfl, fun tu H2 s2 n2 h2 => ?_⟩⟩
          have s12 := s1.trans s2
          refine ⟨s12 _ _ upd_same, [(.inr "ahead", .ref tu)], rfl, by show 1 ≤ 15; decide, ?_⟩
          have tb : tu ≠ b := (ne_of_none (s1 _ _ upd_same) n2).symm
          have qb : q1 ≠ b := fun e => by
            rw [e, upd_same] at n1
            cases n1
          have e1 : firstB D pl t = ⟨"ahead", some ((pl : Int) - 1, (t : Int) - 1), 0⟩ := if_neg c
          rw [e1]
          exact ⟨b, tu, .ref q1, rfl, Same.put ((same_new nb).trans s12) nb, nb, upd_same, by rw [upd_ne tb]; exact h2, ⟨q1, rfl, by rw [upd_ne qb]; exact s2 _ _ h1⟩, tb, fun q e => by cases e; exact qb⟩

end
end KR
namespace KR
open PySem PySem.Spec PyProof.Rows L2
section
variable {P : Program} {w : World} {K : PySem.W.Frag} {mg : Str → Option Value} {base : Heap}
def sp_p_reached (K : PySem.W.Frag) : Sp := fun vs H Q _ => ∃ (ta t : Addr) (l : V) (D : Dy) (b : Bd) (kvs : List (List Key × V)), vs = [.ref ta, .ref t] ∧ H t = some (.tup [l, .int b.more]) ∧ leadV H l b.lead ∧ H ta = some (.dT kvs) ∧ (∀ p h, b.lead = some (p, h) → valV kvs [.inl p, .inl h] = some (.int (tk D (h + 1).toNat p.toNat))) ∧ Q (.int (valB D b)) H
theorem ok_p_reached (T : All K mg) : FnOk P w K mg base CX0 1 T.f_p_reached T.fd_p_reached ["taken", "bound"] (sp_p_reached K) := by
  refine T.d_p_reached.fn.ok sc_p_reached (fun vs H Q E h => ?_) (fun cdv A outer s H vs Q E hr h => ?_)
  · obtain ⟨ta, t, l, D, b, kvs, rfl, _⟩ := h
    rfl
  · obtain ⟨ta, t, l, D, b, kvs, rfl, ht, hl, hta, val, q⟩ := h
    refine ⟨_, (pss_cons (ps_asg (pv 1) (pg_tupK (K := K) rfl rfl (pgs_cons (pg_name (i := 2) sc_p_reached.nd rfl (by first | exact Or.inl rfl | exact Or.inr rfl)) (pgs_cons (pg_name (i := 3) sc_p_reached.nd rfl (by first | exact Or.inl rfl | exact Or.inr rfl)) pgs_nil))))
      (pss_cons (ps_if (pt_cmpR op_isN (pv 2) pe_non (nomark _)) (pss_one (ps_ret (pv 3))) pss_nil)
      (pss_one (ps_ret (pe_op op_add (pe_dget (hu_of hr) (pv 0) (pv 2) (fun _ _ => rfl)) (pv 3)))))), ?_⟩
    obtain ⟨w, le, mo⟩ := b
    refine ⟨_, rfl, t, _, rfl, SqT.of ht, rfl, _, _, rfl, _, _, rfl, rfl, ?_⟩
    cases le with
    | none =>
      obtain rfl : l = .non := hl
      exact ⟨_, rfl, rfl, _, rfl, iteT ⟨_, rfl, q⟩⟩
    | some y =>
      obtain ⟨p, h⟩ := y
      obtain ⟨q0, rfl, hq⟩ := hl
      refine ⟨_, rfl, rfl, _, rfl, iteF ?_⟩
      have g : DGet H ta (.ref q0) (some (.int (tk D (h + 1).toNat p.toNat))) := by
        rw [← val p h rfl]
        exact .t (k := [.inl p, .inl h]) hta hq
      refine ⟨_, rfl, _, rfl, ta, _, rfl, g, ?_⟩
      exact ⟨_, rfl, _, _, rfl, rfl, q⟩

end
end KR
namespace KR
open PySem PySem.Spec PyProof.Rows L2
section
variable {P : Program} {w : World} {K : PySem.W.Frag} {mg : Str → Option Value} {base : Heap}
def sp_p__most_taken (K : PySem.W.Frag) : Sp := fun vs H Q _ => ∃ (p d : Addr) (x : DyP) (D : Dy), vs = [.ref d] ∧ DayAt K H p d x D ∧ DyOk D ∧ ∀ (ta : Addr) (kvs : List (List Key × V)) (H' : Hp), Same H H' → H ta = none → H' ta = some (.dT kvs) → Told D kvs (fun p t => p ≤ D.ks.length ∧ t ≤ D.cs.length) → Q (.ref ta) H'
theorem ok_p__most_taken (T : All K mg) : FnOk P w K mg base CX0 2 T.f_p__most_taken T.fd_p__most_taken ["day"] (sp_p__most_taken K) := by
  refine T.d_p__most_taken.fn.ok sc_p__most_taken (fun vs H Q E h => ?_) (fun cdv A outer s H vs Q E hr h => ?_)
  · obtain ⟨p, d, x, D, rfl, _⟩ := h
    rfl
  · obtain ⟨p, d, x, D, rfl, hD, O, q⟩ := h
    refine ⟨_, (pss_cons (ps_set (i := 1) sc_p__most_taken.nd rfl (by first | exact Or.inl rfl | exact Or.inr rfl) pe_dnewT)
      (pss_cons (ps_for PassesOwn.never rfl (pi_range2 (by rfl) T.b_range (pa_cons (pe_glob (v := .int (-1)) rfl T.c_AHEAD_OF_ALL ⟨_, rfl⟩) (pa_cons (pe_call (ok_p_hours_in T) hr (by rfl) T.d_p_hours_in.mg T.d_p_hours_in.fn.kp T.d_p_hours_in.b .nil pass0 (pa_cons (pv 0) pa_nil)) pa_nil))) (pg_name (i := 2) sc_p__most_taken.nd rfl (by first | exact Or.inl rfl | exact Or.inr rfl)) (pss_one (ps_for PassesOwn.never rfl (pi_revR (by rfl) T.b_reversed (prg_1 (by rfl) T.b_range (pe_call (ok_p_places_in T) hr (by rfl) T.d_p_places_in.mg T.d_p_places_in.fn.kp T.d_p_places_in.b .nil pass0 (pa_cons (pv 0) pa_nil)))) (pg_name (i := 3) sc_p__most_taken.nd rfl (by first | exact Or.inl rfl | exact Or.inr rfl)) (pss_cons (ps_set (i := 4) sc_p__most_taken.nd rfl (by first | exact Or.inl rfl | exact Or.inr rfl) (pe_call (ok_p_bounds_at T) hr (by rfl) T.d_p_bounds_at.mg T.d_p_bounds_at.fn.kp T.d_p_bounds_at.b .nil pass0 (pa_cons (pv 0) (pa_cons (pv 3) (pa_cons (pv 2) pa_nil)))))
      (pss_one (ps_asg (pe_callB (minLK (K := K) rfl rfl) (by rfl) T.b_min (by decide +kernel) (pa_cons (pe_lock (pe_lc (own := [("bound", 5)]) (g := gName 5) (tt := tYes) (by rfl) sc_p__most_taken.nd (pi_values (pv 4)) (blkOk_by (own := [("bound", 5)]) (N := ["day", "taken", "hour", "place", "bounds", "bound"]) (sc := defScope s_p__most_taken) (by decide +kernel)) (fun _ _ _ _ _ => (pg_name (i := 5) sc_p__most_taken.nd rfl (by first | exact Or.inl rfl | exact Or.inr rfl))) (fun _ _ _ _ _ => pts_nil) (fun _ _ _ _ _ => (pe_call (ok_p_reached T) hr (by rfl) T.d_p_reached.mg T.d_p_reached.fn.kp T.d_p_reached.b .nil pass0 (pa_cons (pv 1) (pa_cons (pv 5) pa_nil)))))) pa_nil)) (pg_sub (pv 1) (pe_tupI (pa_cons (pv 3) (pa_cons (pv 2) pa_nil))) (set_dict (hu_of hr)))))))))
      (pss_one (ps_ret (pv 1))))), ?_⟩
    have k1 := O.k1
    have k2 := O.k2
    have h2 := O.h2
    refine fun ta nta => ?_
    refine ⟨_, rfl, p, d, x, D, rfl, hD.same (same_new nta), ?_⟩
    have eN : ((D.cs.length : Int) - -1).toNat = D.cs.length + 1 := by omega
    refine ⟨-1, (D.cs.length : Int), rfl, ⟨by decide, by decide, by omega, by omega⟩, for_range (lo := -1) (n := ((D.cs.length : Int) - -1).toNat) (fun i σ H' => ∃ (kvs : List (List Key × V)) (v2 v3 v4 : Option V), σ = [some (.ref d), some (.ref ta), v2, v3, v4, none] ∧ Same H H' ∧ H' ta = some (.dT kvs) ∧ kvs.length ≤ 9 * i ∧ Told D kvs fun p' t' => p' ≤ D.ks.length ∧ t' < i)
      ⟨[], none, none, none, rfl, same_new nta, upd_same, Nat.zero_le _, fun p' t' h => absurd h.2 (Nat.not_lt_zero _)⟩ ?_ ?_⟩
    · rintro i σ H1 hi ⟨kvs, v2, v3, v4, rfl, s1, hta, kl, told⟩
      have i48 : i ≤ D.cs.length := by omega
      refine ⟨_, rfl, p, d, x, D, rfl, hD.same s1, ?_⟩
      have eM : ((D.ks.length : Int) + 1 - 0).toNat = D.ks.length + 1 := by omega
      refine ⟨(D.ks.length : Int) + 1, rfl, by decide, by decide, by omega, by omega, for_rangeC (lo := 0 + ((((D.ks.length : Int) + 1 - 0).toNat : Nat) : Int) - 1) (c := -1) (n := ((D.ks.length : Int) + 1 - 0).toNat) (fun j σ H' => ∃ (kvs : List (List Key × V)) (v3 v4 : Option V), σ = [some (.ref d), some (.ref ta), some (.int (-1 + (i : Int))), v3, v4, none] ∧ Same H H' ∧ H' ta = some (.dT kvs) ∧ kvs.length ≤ 9 * i + j ∧ Told D kvs fun p' t' => p' ≤ D.ks.length ∧ (t' < i ∨ (t' = i ∧ D.ks.length < p' + j)))
        ⟨kvs, v3, v4, rfl, s1, hta, by omega, fun p' t' h => told p' t' ⟨h.1, by omega⟩⟩ ?_ ?_⟩
      · rintro j σ H1 hj ⟨kvs, v3, v4, rfl, s1, hta, kl, told⟩
        obtain ⟨pl, epl, lpl⟩ : ∃ pl : Nat, 0 + ((((D.ks.length : Int) + 1 - 0).toNat : Nat) : Int) - 1 + (j : Int) * -1 = (pl : Int) ∧ pl + j = D.ks.length := ⟨D.ks.length - j, by omega, by omega⟩
        rw [epl]
        refine ⟨_, rfl, _, rfl, _, rfl, p, d, x, D, pl, i, -1 + (i : Int), rfl, by omega, hD.same s1, O, by omega, i48, fun b kb H2 s2 nb hb ab => ?_⟩
        have hta2 := s2 _ _ hta
        have tab : ta ≠ b := ne_of_none hta nb
        have klen := ab.len
        refine ⟨b, .dK kb, hb, trivial, fun od => ?_⟩
        refine ⟨_, rfl, b, od, kb, rfl, upd_same, fun Dl hDl => ?_⟩
        have Dlb : Dl ≠ b := fun e => by
          rw [e, upd_same] at hDl
          cases hDl
        have hDl' : H2 Dl = none := by
          rw [upd_ne Dlb] at hDl
          exact hDl
        refine lc_it (walk_values (d := b) (o := od) (kvs := kb)) (fun a H' => ∃ zs : List Int, Fr b H2 H' ∧ H' b = some (.frz od (.dK kb)) ∧ H' Dl = some (.lst (zs.map V.int)) ∧ zs = ((bnds D pl i).map (valB D)).take a)
          ⟨[], (Fr.put Fr.refl).new hDl, by rw [upd_ne Dlb.symm]; exact upd_same, upd_same, rfl⟩ (fun a H' _ ⟨_, _, h, _⟩ => h) ?_ ?_
        · rintro a v H4 H5 ha ⟨zs, F, hfb, hD4, ez⟩ ⟨rfl, k, hk⟩
          obtain ⟨bd, ebd, e1, tt, ll, e2, htt, hll⟩ := ab.get hk
          obtain rfl : v = .ref tt := e2
          have ttb : tt ≠ b := ne_of htt hb (by intro z; cases z)
          have len3 := bnds_len3 D pl i
          refine ⟨rfl, yesT ?_⟩
          refine ⟨_, rfl, _, rfl, ta, tt, ll, D, bd, kvs, rfl, F _ _ ttb htt, hll.frb hb F, F _ _ tab hta2, fun p' h' el => ?_, ?_⟩
          · obtain ⟨pn, tn, rfl, rfl, pk, tt'⟩ := bnds_lead (by omega) (List.mem_of_getElem? ebd) el
            have g := told pn tn ⟨pk, by omega⟩
            rw [show ((tn : Int) - 1 + 1).toNat = tn by omega, Int.toNat_natCast]
            exact g
          · have zl : zs.length ≤ 3 := by
              rw [ez, List.length_take, List.length_map]
              omega
            refine ⟨_, hD4, by rw [List.length_map]; exact small' (by omega), zs ++ [valB D bd], F.put' hDl', ?_, by rw [upd_same, List.map_append] <;> rfl, ?_⟩
            · rw [upd_ne Dlb.symm]
              exact hfb
            · rw [ez, take_one (show ((bnds D pl i).map (valB D))[a]? = some (valB D bd) by rw [List.getElem?_map, ebd] <;> rfl)]
        · rintro H4 ⟨zs, F, hfb, hD4, ez⟩
          have ez' : zs = (bnds D pl i).map (valB D) := by
            rw [ez, klen, ← List.length_map (as := bnds D pl i) (valB D), List.take_length]
          obtain ⟨mm, ml⟩ := bnds_min (D := D) (p := pl) (t := i) k1 (by omega)
          refine ⟨hfb, ?_⟩
          refine ⟨Dl, zs, rfl, SqL.of (by rw [upd_ne Dlb]; exact hD4), by rw [ez', List.length_map]; exact bnds_len D pl i, fun m hm hle => ?_⟩
          rw [ez'] at hm hle
          obtain rfl := min_mem hm hle mm ml
          have F6 : Fr b H2 (upd H4 b (.dK kb)) := Fr.put F
          have s16 : Same H1 (upd H4 b (.dK kb)) := same_frb s2 nb F6
          generalize upd H4 b (.dK kb) = H6 at F6 s16
          refine ⟨_, rfl, _, rfl, _, rfl, rfl, fun ky H7 s7 n7 h7 => ?_⟩
          rw [show (-1 + (i : Int)) = (i : Int) - 1 by omega] at h7
          have s17 := s16.trans s7
          have hta7 := s17 _ _ hta
          refine ⟨ta, _, rfl, .t (k := kk pl i) hta7 h7 (small' (by omega)), ?_⟩
          have lp := length_putK kvs (kk pl i) (.int (tk D i pl))
          exact ⟨putK kvs (kk pl i) (.int (tk D i pl)), _, _, rfl, Same.put (s1.trans s17) nta, upd_same, by omega, told.put pl i fun p' t' h => by omega⟩
      · rintro σ H1' ⟨kvs, v3, v4, rfl, s1, hta, kl, told⟩
        rw [eM] at kl told
        exact ⟨kvs, _, _, _, rfl, s1, hta, by omega, fun p' t' h => told p' t' ⟨h.1, by omega⟩⟩
    · rintro σ H1 ⟨kvs, v2, v3, v4, rfl, s1, hta, kl, told⟩
      rw [eN] at told
      exact ⟨_, rfl, q ta kvs H1 s1 nta hta fun p' t' h => told p' t' ⟨h.1, by omega⟩⟩

end
end KR
namespace KR
open PySem PySem.Spec PyProof.Rows L2
section
variable {P : Program} {w : World} {K : PySem.W.Frag} {mg : Str → Option Value} {base : Heap}
def sp_p__tight_bound (K : PySem.W.Frag) : Sp := fun vs H Q _ => ∃ (p d ta le : Addr) (x : DyP) (D : Dy) (kvs : List (List Key × V)) (pl t : Nat), vs = [.ref d, .ref ta, .ref le] ∧ DayAt K H p d x D ∧ DyOk D ∧ H ta = some (.dT kvs) ∧ Told D kvs (fun p t => p ≤ D.ks.length ∧ t ≤ D.cs.length) ∧ H le = some (.tup [.int (pl : Int), .int ((t : Int) - 1)]) ∧ pl ≤ D.ks.length ∧ t ≤ D.cs.length ∧
  ∀ (tt : Addr) (b : Bd) (l : V) (H' : Hp), Same H H' → FirstT D pl t b → b ∈ bnds D pl t → valB D b = tk D t pl → H' tt = some (.tup [.str b.word, l]) → leadV H' l b.lead → Q (.ref tt) H'
theorem ok_p__tight_bound (T : All K mg) : FnOk P w K mg base CX0 2 T.f_p__tight_bound T.fd_p__tight_bound ["day", "taken", "lead"] (sp_p__tight_bound K) := by
  refine T.d_p__tight_bound.fn.ok sc_p__tight_bound (fun vs H Q E h => ?_) (fun cdv A outer s H vs Q E hr h => ?_)
  · obtain ⟨p, d, ta, le, x, D, kvs, pl, t, rfl, _⟩ := h
    rfl
  · obtain ⟨p, d, ta, le, x, D, kvs, pl, t, rfl, hD, O, hta, told, hle, hpl, ht, q⟩ := h
    refine ⟨_, (pss_cons (ps_asg (pv 2) (pg_tupK (K := K) rfl rfl (pgs_cons (pg_name (i := 3) sc_p__tight_bound.nd rfl (by first | exact Or.inl rfl | exact Or.inr rfl)) (pgs_cons (pg_name (i := 4) sc_p__tight_bound.nd rfl (by first | exact Or.inl rfl | exact Or.inr rfl)) pgs_nil))))
      (pss_cons (ps_set (i := 5) sc_p__tight_bound.nd rfl (by first | exact Or.inl rfl | exact Or.inr rfl) (pe_call (ok_p_bounds_at T) hr (by rfl) T.d_p_bounds_at.mg T.d_p_bounds_at.fn.kp T.d_p_bounds_at.b .nil pass0 (pa_cons (pv 0) (pa_cons (pv 3) (pa_cons (pv 4) pa_nil)))))
      (pss_cons (ps_lock (ps_setLc (i := 6) (own := [("word", 7)]) (g := gName 7) (by rfl) sc_p__tight_bound.nd rfl rfl (sw_true rfl rfl rfl (by decide +kernel)) (pi_keys (pv 5)) (blkOk_by (own := [("word", 7)]) (N := ["day", "taken", "lead", "place", "hour", "bounds", "tight", "word"]) (sc := defScope s_p__tight_bound) (by decide +kernel)) (fun _ _ _ _ _ => (pg_name (i := 7) sc_p__tight_bound.nd rfl (by first | exact Or.inl rfl | exact Or.inr rfl))) (fun _ _ _ _ _ => (pts_one (pt_cmpR op_eq (pe_call (ok_p_reached T) hr (by rfl) T.d_p_reached.mg T.d_p_reached.fn.kp T.d_p_reached.b .nil pass0 (pa_cons (pv 1) (pa_cons (pe_dget (hu_of hr) (pv 5) (pv 7) (fun _ _ => rfl)) pa_nil))) (pe_dget (hu_of hr) (pv 1) (pv 2) (fun _ _ => rfl)) (nomark _)))) (fun _ _ _ _ _ => (pv 7))))
      (pss_one (ps_ret (pe_tupI (pa_cons (pe_ix (ixL (K := K) rfl) (pv 6) pe_int (fun _ _ => rfl)) (pa_cons (pe_ix (ixT (K := K) rfl) (pe_dget (hu_of hr) (pv 5) (pe_ix (ixL (K := K) rfl) (pv 6) pe_int (fun _ _ => rfl)) (fun _ _ => rfl)) pe_int (fun _ _ => rfl)) pa_nil)))))))), ?_⟩
    have k1 := O.k1
    have k2 := O.k2
    have h2 := O.h2
    refine ⟨_, rfl, le, _, rfl, SqT.of hle, rfl, _, _, rfl, _, _, rfl, rfl, ?_⟩
    refine ⟨_, rfl, _, rfl, _, rfl, p, d, x, D, pl, t, (t : Int) - 1, rfl, rfl, hD, O, hpl, ht, fun b kb H1 s1 nb hb ab => ?_⟩
    have hta1 := s1 _ _ hta
    have hle1 := s1 _ _ hle
    have klen := ab.len
    have len3 := bnds_len3 D pl t
    have wnd := bnds_words D pl t
    have bta : ta ≠ b := ne_of_none hta nb
    have ble : le ≠ b := ne_of_none hle nb
    refine ⟨b, .dK kb, hb, trivial, fun od => ?_⟩
    refine ⟨_, rfl, b, od, rfl, .inl ⟨kb, upd_same, fun Dl hDl => ?_⟩⟩
    have Dlb : Dl ≠ b := fun e => by
      rw [e, upd_same] at hDl
      cases hDl
    have hDl' : H1 Dl = none := by
      rw [upd_ne Dlb] at hDl
      exact hDl
    refine lc_it (walk_keys (d := b) (o := od) (kvs := kb)) (fun a H' => Fr b H1 H' ∧ H' b = some (.frz od (.dK kb)) ∧ H' Dl = some (.lst (((((bnds D pl t).take a).filter fun b => decide (valB D b = tk D t pl)).map (·.word)).map V.str)))
      ⟨(Fr.put Fr.refl).new hDl, by rw [upd_ne Dlb.symm]; exact upd_same, upd_same⟩ (fun a H' _ ⟨_, h, _⟩ => h) ?_ ?_
    · rintro a v H4 H5 ha ⟨F, hfb, hD4⟩ ⟨rfl, k, vv, hk, rfl⟩
      obtain ⟨bd, ebd, e1, _⟩ := ab.get hk
      obtain rfl : k = .inr bd.word := e1
      have mb := List.mem_of_getElem? ebd
      obtain ⟨v', ev, _, tt, ll, e2, htt, hll⟩ := ab.at_ wnd bd mb
      obtain rfl : v' = .ref tt := e2
      have ttb : tt ≠ b := ne_of htt hb (by intro z; cases z)
      refine ⟨rfl, ?_⟩
      refine ⟨_, rfl, _, rfl, _, rfl, b, .ref tt, rfl, .inl ⟨kb, .inr bd.word, .inr ⟨od, hfb⟩, rfl, ev.symm⟩, ?_⟩
      refine ⟨ta, tt, ll, D, bd, kvs, rfl, F _ _ ttb htt, hll.frb hb F, F _ _ bta hta1, fun p' h' el => ?_, ?_⟩
      · obtain ⟨pn, tn, rfl, rfl, pk, tt'⟩ := bnds_lead hpl mb el
        have g := told pn tn ⟨pk, by omega⟩
        rw [show ((tn : Int) - 1 + 1).toNat = tn by omega, Int.toNat_natCast]
        exact g
      · have g2 : DGet H5 ta (.ref le) (some (.int (tk D t pl))) := by
          rw [← told pl t ⟨hpl, ht⟩]
          exact .t (k := kk pl t) (F _ _ bta hta1) (F _ _ ble hle1)
        refine ⟨_, rfl, _, rfl, ta, _, rfl, g2, rfl, _, rfl, ?_⟩
        have fl : ((((bnds D pl t).take a).filter fun b => decide (valB D b = tk D t pl)).map (·.word)).length ≤ 3 := by
          rw [List.length_map]
          have h1 := List.length_filter_le (fun b => decide (valB D b = tk D t pl)) ((bnds D pl t).take a)
          rw [List.length_take] at h1
          omega
        by_cases c : valB D bd = tk D t pl
        · refine ite_bT (decide_eq_true (congrArg V.int c)) ?_
          refine ⟨_, rfl, _, hD4, by rw [List.length_map]; exact small' (by omega), F.put' hDl', by rw [upd_ne Dlb.symm]; exact hfb, ?_⟩
          rw [upd_same, take_one ebd, List.filter_append, List.filter_cons, if_pos (decide_eq_true c), List.map_append, List.map_append] <;> rfl
        · refine ite_bF (decide_eq_false fun e => c (by injection e)) ?_
          refine ⟨F, hfb, ?_⟩
          rw [hD4, take_one ebd, List.filter_append, List.filter_cons, if_neg (by rw [decide_eq_false c]; exact Bool.false_ne_true), List.filter_nil, List.append_nil]
    · rintro H4 ⟨F, hfb, hD4⟩
      refine ⟨hfb, ?_⟩
      have F6 : Fr b H1 (upd H4 b (.dK kb)) := Fr.put F
      have s16 : Same H (upd H4 b (.dK kb)) := same_frb s1 nb F6
      have hb6 : (upd H4 b (.dK kb)) b = some (.dK kb) := upd_same
      have hD6 : (upd H4 b (.dK kb)) Dl = _ := (upd_ne Dlb).trans hD4
      generalize upd H4 b (.dK kb) = H6 at F6 s16 hb6 hD6
      obtain ⟨b0, rest, eF⟩ : ∃ b0 rest, (bnds D pl t).filter (fun b => decide (valB D b = tk D t pl)) = b0 :: rest := by
        obtain ⟨mm, _⟩ := bnds_min (D := D) (p := pl) (t := t) k1 hpl
        obtain ⟨b0, m0, e0⟩ := List.mem_map.mp mm
        have m1 := (List.mem_filter (p := fun b => decide (valB D b = tk D t pl))).mpr ⟨m0, decide_eq_true e0⟩
        cases h : (bnds D pl t).filter (fun b => decide (valB D b = tk D t pl)) with
        | nil => rw [h] at m1; exact absurd m1 List.not_mem_nil
        | cons b1 r => exact ⟨b1, r, rfl⟩
      have mb0 := List.mem_filter.mp (show b0 ∈ (bnds D pl t).filter (fun b => decide (valB D b = tk D t pl)) by rw [eF]; exact List.mem_cons_self)
      have vb0 := of_decide_eq_true mb0.2
      rw [klen, List.take_of_length_le (Nat.le_refl _), eF] at hD6
      obtain ⟨v', ev, _, tt, ll, e2, htt, hll⟩ := ab.at_ wnd b0 mb0.1
      obtain rfl : v' = .ref tt := e2
      have htt6 := F6 _ _ (ne_of htt hb (by intro z; cases z)) htt
      refine ⟨_, rfl, Dl, _, 0, _, rfl, rfl, SqL.of hD6, at0, _, rfl, _, rfl, Dl, _, 0, _, rfl, rfl, SqL.of hD6, at0, b, .ref tt, rfl, .inl ⟨kb, .inr b0.word, .inl hb6, rfl, ev.symm⟩, tt, _, 0, _, rfl, rfl, SqT.of htt6, at0, rfl, fun t1 H7 s7 n7 h7 => ?_⟩
      exact q t1 b0 ll H7 (s16.trans s7) ⟨rest, eF⟩ mb0.1 vb0 h7 ((hll.frb hb F6).same s7)

end
end KR
namespace KR
open PySem PySem.Spec PyProof.Rows L2
section
variable {P : Program} {w : World} {K : PySem.W.Frag} {mg : Str → Option Value} {base : Heap}
def WS (K : PySem.W.Frag) (D : Dy) (H1 : Hp) (d ta pa : Addr) (m : Nat) (σ : L2.St) (H' : Hp) : Prop := ∃ (lv : V) (v4 v5 : Option V) (rs : List Addr) (l : List (Str × Nat × Nat)), σ = [some (.ref d), some (.ref ta), some (.ref pa), some lv, v4, v5] ∧ Same H1 H' ∧ H' pa = some (.lst (rs.map V.ref)) ∧ PaperAt H' rs l ∧
  ((∃ (le : Addr) (pl t : Nat), lv = .ref le ∧ H' le = some (.tup [.int (pl : Int), .int ((t : Int) - 1)]) ∧ pl ≤ D.ks.length ∧ t ≤ D.cs.length ∧ m = t * 10 + (9 - pl) + 1 ∧ l.length + m ≤ 500 ∧ ∀ l', Chain D pl t l' (tk D t pl) → TChain D pl t l' → Chain D D.ks.length D.cs.length (l ++ l') (mostD D) ∧ TChain D D.ks.length D.cs.length (l ++ l')) ∨
  (lv = .non ∧ m = 0 ∧ l.length ≤ 500 ∧ Chain D D.ks.length D.cs.length l (mostD D) ∧ TChain D D.ks.length D.cs.length l))
def sp_p_most_struck (K : PySem.W.Frag) : Sp := fun vs H Q _ => ∃ (p d : Addr) (x : DyP) (D : Dy), vs = [.ref d] ∧ DayAt K H p d x D ∧ DyOk D ∧ ∀ (tt f : Addr) (rs : List Addr) (l : List (Str × Nat × Nat)) (H' : Hp), Same H H' → H f = none → H' tt = some (.tup [.int (mostD D), .ref f]) → H' f = some (.lst (rs.map V.ref)) → PaperAt H' rs l → Chain D D.ks.length D.cs.length l (mostD D) → TChain D D.ks.length D.cs.length l → l.length ≤ 500 → Q (.ref tt) H'
theorem ok_p_most_struck (T : All K mg) : FnOk P w K mg base CX0 3 T.f_p_most_struck T.fd_p_most_struck ["day"] (sp_p_most_struck K) := by
  refine T.d_p_most_struck.fn.ok sc_p_most_struck (fun vs H Q E h => ?_) (fun cdv A outer s H vs Q E hr h => ?_)
  · obtain ⟨p, d, x, D, rfl, _⟩ := h
    rfl
  · obtain ⟨p, d, x, D, rfl, hD, O, q⟩ := h
    refine ⟨_, (pss_cons (ps_set (i := 1) sc_p_most_struck.nd rfl (by first | exact Or.inl rfl | exact Or.inr rfl) (pe_call (ok_p__most_taken T) hr (by rfl) T.d_p__most_taken.mg T.d_p__most_taken.fn.kp T.d_p__most_taken.b .nil pass0 (pa_cons (pv 0) pa_nil)))
      (pss_cons (ps_set (i := 2) sc_p_most_struck.nd rfl (by first | exact Or.inl rfl | exact Or.inr rfl) (pe_lstI pa_nil))
      (pss_cons (ps_set (i := 3) sc_p_most_struck.nd rfl (by first | exact Or.inl rfl | exact Or.inr rfl) (pe_call (ok_p_end_of T) hr (by rfl) T.d_p_end_of.mg T.d_p_end_of.fn.kp T.d_p_end_of.b .nil pass0 (pa_cons (pv 0) pa_nil)))
      (pss_cons (ps_while PassesOwn.never (pt_cmpR op_notN (pv 3) pe_non (nomark _)) (pss_cons (ps_asg (pe_call (ok_p__tight_bound T) hr (by rfl) T.d_p__tight_bound.mg T.d_p__tight_bound.fn.kp T.d_p__tight_bound.b .nil pass0 (pa_cons (pv 0) (pa_cons (pv 1) (pa_cons (pv 3) pa_nil)))) (pg_tupK (K := K) rfl rfl (pgs_cons (pg_name (i := 4) sc_p_most_struck.nd rfl (by first | exact Or.inl rfl | exact Or.inr rfl)) (pgs_cons (pg_name (i := 5) sc_p_most_struck.nd rfl (by first | exact Or.inl rfl | exact Or.inr rfl)) pgs_nil))))
      (pss_cons (ps_expr (pe_bm PySem.F.plainAttrs_list PySem.F.slot_list_append PySem.F.type_list_append mt_append (pv 2) (pa_cons (pe_op (op_catTP (K := K) rfl) (pe_tupI (pa_cons (pv 4) pa_nil)) (pv 3)) pa_nil)))
      (pss_one (ps_set (i := 3) sc_p_most_struck.nd rfl (by first | exact Or.inl rfl | exact Or.inr rfl) (pv 5))))))
      (pss_one (ps_ret (pe_tupI (pa_cons (pe_dget (hu_of hr) (pv 1) (pe_call (ok_p_end_of T) hr (by rfl) T.d_p_end_of.mg T.d_p_end_of.fn.kp T.d_p_end_of.b .nil pass0 (pa_cons (pv 0) pa_nil)) (fun _ _ => rfl)) (pa_cons (pv 2) pa_nil))))))))), ?_⟩
    have k1 := O.k1
    have k2 := O.k2
    have h2 := O.h2
    refine ⟨_, rfl, p, d, x, D, rfl, hD, O, fun ta kvs H1 s1 n1 hta told => ?_⟩
    refine ⟨rfl, fun pa H2 s2 n2 hpa => ?_⟩
    refine ⟨_, rfl, p, d, x, D, rfl, (hD.same s1).same s2, fun le0 H3 s3 n3 hle0 => ?_⟩
    refine ⟨WS K D H1 d ta pa, ⟨D.cs.length * 10 + (9 - D.ks.length) + 1, .ref le0, none, none, [], [], rfl, s2.trans s3, s3 _ _ hpa, PaperAt.nil _, .inl ⟨le0, D.ks.length, D.cs.length, rfl, hle0, Nat.le_refl _, Nat.le_refl _, rfl, by show 0 + _ ≤ _; omega, fun l' h h' => ⟨h, h'⟩⟩⟩, ?_⟩
    rintro m σ H4 ⟨lv, v4, v5, rs, l, rfl, s4, hpa4, pap, alt⟩
    refine ⟨_, rfl, rfl, _, rfl, ?_⟩
    rcases alt with ⟨le, pl, t, rfl, hle, hpl, ht, em, lm, cont⟩ | ⟨rfl, em, ll, ch, tch⟩
    · refine iteT ?_
      refine ⟨fun σ' H' => ∃ m', m' < m ∧ WS K D H1 d ta pa m' σ' H', fun _ _ h => h, ?_⟩
      refine ⟨_, rfl, _, rfl, _, rfl, p, d, ta, le, x, D, kvs, pl, t, rfl, (hD.same s1).same s4, O, s4 _ _ hta, told, hle, hpl, ht, fun tt b lw H5 s5 fb mb vb htt hlw => ?_⟩
      refine ⟨tt, _, rfl, SqT.of htt, rfl, _, _, rfl, _, _, rfl, rfl, ?_⟩
      have hpa5 := s5 _ _ hpa4
      refine ⟨_, rfl, .inl ⟨rfl, _, SqL.of hpa5⟩, _, rfl, rfl, fun t1 H6 s6 n6 h6 => ?_⟩
      refine ⟨_, rfl, t1, le, _, _, rfl, rfl, SqT.of h6, SqT.of ((s5.trans s6) _ _ hle), by simp, by simp, by rw [sizeLine_eq]; show 1 + 2 ≤ 16777216; decide, fun r H7 s7 n7 h7 => ?_⟩
      have hpa7 := (s6.trans s7) _ _ hpa5
      refine ⟨pa, _, _, rfl, rfl, hpa7, by rw [List.length_map, pap.1]; exact small' (by omega), ?_⟩
      refine ⟨_, rfl, ?_⟩
      have s47 := s5.trans (s6.trans s7)
      have npa : H1 pa = none := n2
      have hr7 : H7 r = some (bdTup (b.word, pl, t)) := h7
      have pap7 := (pap.same s47).snoc hr7
      have pap8 : PaperAt (upd H7 pa (.lst (rs.map V.ref ++ [.ref r]))) (rs ++ [r]) (l ++ [(b.word, pl, t)]) := ⟨pap7.1, fun j r' e a c => by
        have h := pap7.2 j r' e a c
        rw [upd_ne (ne_of h hpa7 (by intro z; cases z))]
        exact h⟩
      have e8 : (upd H7 pa (.lst (rs.map V.ref ++ [.ref r]))) pa = some (.lst ((rs ++ [r]).map V.ref)) := by
        rw [upd_same, List.map_append] <;> rfl
      have s8 : Same H1 (upd H7 pa (.lst (rs.map V.ref ++ [.ref r]))) := Same.put (s4.trans s47) npa
      have lw7 := (hlw.same s6).same s7
      cases el : b.lead with
      | none =>
        rw [el] at lw7
        obtain rfl : lw = .non := lw7
        have ev : b.more = tk D t pl := by
          rw [← vb]
          unfold valB
          rw [el]
        refine ⟨0, by omega, .non, _, _, rs ++ [r], l ++ [(b.word, pl, t)], rfl, s8, e8, pap8, .inr ⟨rfl, rfl, by rw [List.length_append]; show l.length + 1 ≤ _; omega, cont _ ?_ (.last fb el)⟩⟩
        have c := Chain.last (D := D) mb el
        rw [ev] at c
        exact c
      | some y =>
        obtain ⟨p', h'⟩ := y
        obtain ⟨pn, tn, rfl, rfl, pk, tl⟩ := bnds_lead hpl mb el
        rw [el] at lw7
        obtain ⟨le', rfl, hle'⟩ := lw7
        have ev : tk D tn pn + b.more = tk D t pl := by
          rw [← vb]
          unfold valB
          rw [el]
          show _ = tk D ((tn : Int) - 1 + 1).toNat ((pn : Int)).toNat + b.more
          rw [show ((tn : Int) - 1 + 1).toNat = tn by omega, Int.toNat_natCast]
        refine ⟨tn * 10 + (9 - pn) + 1, by omega, .ref le', _, _, rs ++ [r], l ++ [(b.word, pl, t)], rfl, s8, e8, pap8, .inl ⟨le', pn, tn, rfl, by rw [upd_ne (ne_of hle' hpa7 (by intro z; cases z))]; exact hle', pk, by omega, rfl, by rw [List.length_append]; show l.length + 1 + _ ≤ _; omega, fun l' c ct => ?_⟩⟩
        have c1 := Chain.step mb el pk (by omega) c
        rw [ev] at c1
        have c2 := cont _ c1 (.step fb el ct)
        rw [List.append_assoc, List.singleton_append]
        exact c2
    · refine iteF ?_
      refine ⟨_, rfl, _, rfl, p, d, x, D, rfl, (hD.same s1).same s4, fun te H5 s5 n5 h5 => ?_⟩
      have g : DGet H5 ta (.ref te) (some (.int (mostD D))) := by
        unfold mostD
        rw [← told D.ks.length D.cs.length ⟨Nat.le_refl _, Nat.le_refl _⟩]
        exact .t (k := kk D.ks.length D.cs.length) ((s4.trans s5) _ _ hta) h5
      refine ⟨ta, _, rfl, g, _, rfl, rfl, fun tt H6 s6 n6 h6 => ?_⟩
      have s56 := s5.trans s6
      exact q tt pa rs l H6 (s1.trans (s4.trans s56)) (same_none' s1 n2) h6 (s56 _ _ hpa4) (pap.same s56) ch tch ll

end
end KR
namespace KR
open PySem PySem.Spec PyProof.Rows L2
section
variable {P : Program} {w : World} {K : PySem.W.Frag} {mg : Str → Option Value} {base : Heap}
def sp_p_is_number (K : PySem.W.Frag) : Sp := fun vs H Q _ => ∃ (Av : Addr → Prop) (B n : Nat) (v : V) (d : PyData), vs = [v] ∧ Tg K Av H B n v d ∧ Q (.bl (isI d)) H
theorem ok_p_is_number (T : All K mg) : FnOk P w K mg base CX0 1 T.f_p_is_number T.fd_p_is_number ["thing"] (sp_p_is_number K) := by
  refine T.d_p_is_number.fn.ok sc_p_is_number (fun vs H Q E h => ?_) (fun cdv A outer s H vs Q E hr h => ?_)
  · obtain ⟨Av, B, n, v, d, rfl, _⟩ := h
    rfl
  · obtain ⟨Av, B, n, v, d, rfl, h, q⟩ := h
    refine ⟨_, (pss_one (ps_ret (pe_and (pe_callB (isiK (K := K) rfl) (by rfl) T.b_isinstance (by decide +kernel) (pa_cons (pv 0) (pa_cons (pe_bltn (v := .ty "int") (by rfl) T.b_int (by decide +kernel) rfl) pa_nil))) (pe_one (pe_not (pe_callB (isiK (K := K) rfl) (by rfl) T.b_isinstance (by decide +kernel) (pa_cons (pv 0) (pa_cons (pe_bltn (v := .ty "bool") (by rfl) T.b_bool (by decide +kernel) rfl) pa_nil)))))))), ?_⟩
    obtain ⟨t, ty, _, _, ki, kb, _⟩ := h.ty
    cases e : isBo d with
    | true =>
      rw [boI e] at q
      rw [e, Bool.or_true] at ki
      rw [e] at kb
      refine ⟨_, rfl, _, _, _, _, _, rfl, .ty _, ty, kit_ty ki, _, rfl, ?_⟩
      refine iteT ?_
      refine ⟨_, rfl, _, _, _, _, _, rfl, .ty _, ty, kit_ty kb, _, rfl, ?_⟩
      exact q
    | false =>
      rw [e, Bool.or_false] at ki
      rw [e] at kb
      refine ⟨_, rfl, _, _, _, _, _, rfl, .ty _, ty, kit_ty ki, _, rfl, ?_⟩
      cases e2 : isI d with
      | true =>
        rw [e2] at q
        refine iteT ?_
        refine ⟨_, rfl, _, _, _, _, _, rfl, .ty _, ty, kit_ty kb, _, rfl, ?_⟩
        exact q
      | false =>
        rw [e2] at q
        refine iteF ?_
        exact q

end
end KR
namespace KR
open PySem PySem.Spec PyProof.Rows L2
section
variable {P : Program} {w : World} {K : PySem.W.Frag} {mg : Str → Option Value} {base : Heap}
def sp_p__is_bound_of (K : PySem.W.Frag) : Sp := fun vs H Q _ => ∃ (Av : Addr → Prop) (B n : Nat) (v : V) (d : PyData) (le : Addr) (pl t : Int), vs = [v, .ref le] ∧ Tg K Av H B n v d ∧ H le = some (.tup [.int pl, .int t]) ∧ ∀ H', Same H H' → Q (.bl (bdW pl t d).isSome) H'
theorem ok_p__is_bound_of (T : All K mg) : FnOk P w K mg base CX0 2 T.f_p__is_bound_of T.fd_p__is_bound_of ["thing", "lead"] (sp_p__is_bound_of K) := by
  refine T.d_p__is_bound_of.fn.ok sc_p__is_bound_of (fun vs H Q E h => ?_) (fun cdv A outer s H vs Q E hr h => ?_)
  · obtain ⟨Av, B, n, v, d, le, pl, t, rfl, _⟩ := h
    rfl
  · obtain ⟨Av, B, n, v, d, le, pl, t, rfl, h, hle, q⟩ := h
    refine ⟨_, (pss_cons (ps_if (PW.pt (pw_or (pt_not (pt_val (pe_callB (isiK (K := K) rfl) (by rfl) T.b_isinstance (by decide +kernel) (pa_cons (pv 0) (pa_cons (pe_bltn (v := .ty "tuple") (by rfl) T.b_tuple (by decide +kernel) rfl) pa_nil))))) (pw_or1 (pt_cmpR op_ne (pe_callB (lenQ (K := K) rfl) (by rfl) T.b_len PySem.boot_len (pa_cons (pv 0) pa_nil)) pe_int (nomark _))))) (pss_one (ps_ret pe_bl)) pss_nil)
      (pss_cons (ps_asg (pv 0) (pg_tupK (K := K) rfl rfl (pgs_cons (pg_name (i := 2) sc_p__is_bound_of.nd rfl (by first | exact Or.inl rfl | exact Or.inr rfl)) (pgs_cons (pg_name (i := 3) sc_p__is_bound_of.nd rfl (by first | exact Or.inl rfl | exact Or.inr rfl)) (pgs_cons (pg_name (i := 4) sc_p__is_bound_of.nd rfl (by first | exact Or.inl rfl | exact Or.inr rfl)) pgs_nil)))))
      (pss_one (ps_ret (pe_and (pe_callB (isiK (K := K) rfl) (by rfl) T.b_isinstance (by decide +kernel) (pa_cons (pv 2) (pa_cons (pe_bltn (v := .ty "str") (by rfl) T.b_str (by decide +kernel) rfl) pa_nil))) (pe_and (pe_call (ok_p_is_number T) hr (by rfl) T.d_p_is_number.mg T.d_p_is_number.fn.kp T.d_p_is_number.b .nil pass0 (pa_cons (pv 3) pa_nil)) (pe_and (pe_call (ok_p_is_number T) hr (by rfl) T.d_p_is_number.mg T.d_p_is_number.fn.kp T.d_p_is_number.b .nil pass0 (pa_cons (pv 4) pa_nil)) (pe_one (pe_cmpR (eqDK (K := K) rfl hr.units) (pe_tupI (pa_cons (pv 3) (pa_cons (pv 4) pa_nil))) (pv 1) (nomark _)))))))))), ?_⟩
    obtain ⟨ty, hty, _, kt, _, _, _⟩ := h.ty
    refine ⟨_, rfl, _, _, _, _, _, rfl, .ty _, hty, kit_ty kt, ?_⟩
    cases e : isT d with
    | false =>
      rw [bdW_T e] at q
      exact ⟨_, rfl, iteT (q _ (.refl _))⟩
    | true =>
      obtain ⟨a, xs, ds, m, rfl, rfl, rfl, sq, tg⟩ := h.tupI e
      refine ⟨_, rfl, iteF ?_⟩
      refine ⟨_, rfl, a, _, rfl, .inr sq, rfl, _, rfl, ?_⟩
      by_cases c : xs.length = 3
      · rw [decide_eq_true (show V.int (xs.length : Int) = V.int 3 by rw [c] <;> rfl)]
        refine iteF ?_
        obtain ⟨x1, x2, x3, d1, d2, d3, rfl, rfl, t1, t2, t3⟩ := three tg c
        refine ⟨_, rfl, a, _, rfl, sq, rfl, _, _, rfl, _, _, rfl, _, _, rfl, rfl, ?_⟩
        obtain ⟨ty1, hty1, _, _, _, _, ks⟩ := t1.ty
        refine ⟨_, rfl, _, _, _, _, _, rfl, .ty _, hty1, kit_ty ks, _, rfl, ?_⟩
        cases e1 : isS d1 with
        | false =>
          rw [bdW_no (.inl e1)] at q
          exact iteF (q _ (.refl _))
        | true =>
          refine iteT ?_
          refine ⟨_, rfl, Av, B, m, x2, d2, rfl, t2, _, rfl, ?_⟩
          cases e2 : isI d2 with
          | false =>
            rw [bdW_no (.inr (.inl e2))] at q
            exact iteF (q _ (.refl _))
          | true =>
            refine iteT ?_
            refine ⟨_, rfl, Av, B, m, x3, d3, rfl, t3, _, rfl, ?_⟩
            cases e3 : isI d3 with
            | false =>
              rw [bdW_no (.inr (.inr e3))] at q
              exact iteF (q _ (.refl _))
            | true =>
              refine iteT ?_
              obtain ⟨w1, rfl, rfl⟩ := t1.strI e1
              obtain ⟨i2, rfl, rfl, _⟩ := t2.intI e2
              obtain ⟨i3, rfl, rfl, _⟩ := t3.intI e3
              refine ⟨_, rfl, _, rfl, rfl, fun u1 H1 s1 n1 h1 => ⟨_, rfl, .tuple [.int i2, .int i3], .tuple [.int pl, .int t], dp_pair h1, dp_pair (s1 _ _ hle), rfl, rfl, ?_⟩⟩
              rw [eqv_pair]
              have z := q H1 s1
              have ez : (bdW pl t (.tuple [.str w1, .int i2, .int i3])).isSome = decide (i2 = pl ∧ i3 = t) := by
                show (if i2 = pl ∧ i3 = t then some w1 else none).isSome = _
                split
                · rename_i y
                  rw [decide_eq_true y] <;> rfl
                · rename_i y
                  rw [decide_eq_false y] <;> rfl
              rw [ez] at z
              exact z
      · rw [decide_eq_false (show ¬ V.int (xs.length : Int) = V.int 3 from fun z => c (by injection z with z; omega))]
        rw [bdW_len (by rw [← tg.1]; exact c)] at q
        exact iteT (q _ (.refl _))

end
end KR
namespace KR
open PySem PySem.Spec PyProof.Rows L2
section
variable {P : Program} {w : World} {K : PySem.W.Frag} {mg : Str → Option Value} {base : Heap}
def sp_p_shows_most (K : PySem.W.Frag) : Sp := fun vs H Q _ => ∃ (p d : Addr) (x : DyP) (D : Dy) (m : Int) (Av : Addr → Prop) (B n : Nat) (v : V) (e : PyData), vs = [.ref d, .int m, v] ∧ DayAt K H p d x D ∧ DyOk D ∧ Tg K Av H B n v e ∧ ∀ H', Same H H' → Q (.bl (isPap D m e)) H'
def LeadW (D : Dy) (m : Int) (r : Bool) (ds : List PyData) (lv : V) (told : Int) (H' : Hp) : Prop :=
  (∃ (le : Addr) (pl t : Nat), lv = .ref le ∧ H' le = some (.tup [.int (pl : Int), .int ((t : Int) - 1)]) ∧ pl ≤ D.ks.length ∧ t ≤ D.cs.length ∧ walkP D m (some ((pl : Int), (t : Int) - 1)) told ds = r) ∨ (lv = .non ∧ walkP D m none told ds = r)
theorem ok_p_shows_most (T : All K mg) : FnOk P w K mg base CX0 3 T.f_p_shows_most T.fd_p_shows_most ["day", "many", "thing"] (sp_p_shows_most K) := by
  refine T.d_p_shows_most.fn.ok sc_p_shows_most (fun vs H Q E h => ?_) (fun cdv A outer s H vs Q E hr h => ?_)
  · obtain ⟨p, d, x, D, m, Av, B, n, v, e, rfl, _⟩ := h
    rfl
  · obtain ⟨p, d, x, D, m, Av, B, n, v, e, rfl, hD, O, hv, q⟩ := h
    refine ⟨_, (pss_cons (ps_if (pt_not (pt_val (pe_callB (isiK (K := K) rfl) (by rfl) T.b_isinstance (by decide +kernel) (pa_cons (pv 2) (pa_cons (pe_bltn (v := .ty "list") (by rfl) T.b_list (by decide +kernel) rfl) pa_nil))))) (pss_one (ps_ret pe_bl)) pss_nil)
      (pss_cons (ps_set (i := 3) sc_p_shows_most.nd rfl (by first | exact Or.inl rfl | exact Or.inr rfl) (pe_call (ok_p_end_of T) hr (by rfl) T.d_p_end_of.mg T.d_p_end_of.fn.kp T.d_p_end_of.b .nil pass0 (pa_cons (pv 0) pa_nil)))
      (pss_cons (ps_set (i := 4) sc_p_shows_most.nd rfl (by first | exact Or.inl rfl | exact Or.inr rfl) pe_int)
      (pss_cons (ps_for PassesOwn.never rfl (pi_listK (K := K) rfl (pv 2)) (pg_name (i := 5) sc_p_shows_most.nd rfl (by first | exact Or.inl rfl | exact Or.inr rfl)) (pss_cons (ps_if (PW.pt (pw_or (pt_cmpR op_isN (pv 3) pe_non (nomark _)) (pw_or1 (pt_not (pt_val (pe_call (ok_p__is_bound_of T) hr (by rfl) T.d_p__is_bound_of.mg T.d_p__is_bound_of.fn.kp T.d_p__is_bound_of.b .nil pass0 (pa_cons (pv 5) (pa_cons (pv 3) pa_nil)))))))) (pss_one (ps_ret pe_bl)) pss_nil)
      (pss_cons (ps_set (i := 6) sc_p_shows_most.nd rfl (by first | exact Or.inl rfl | exact Or.inr rfl) (pe_call (ok_p_bounds_at T) (hr.mono (by decide)) (by rfl) T.d_p_bounds_at.mg T.d_p_bounds_at.fn.kp T.d_p_bounds_at.b .nil pass0 (pa_cons (pv 0) (pa_cons (pe_ix (ixT (K := K) rfl) (pv 3) pe_int (fun _ _ => rfl)) (pa_cons (pe_ix (ixT (K := K) rfl) (pv 3) pe_int (fun _ _ => rfl)) pa_nil)))))
      (pss_cons (ps_if (pt_cmp (pc_dnotin (hu_of hr) (pe_ix (ixT (K := K) rfl) (pv 5) pe_int (fun _ _ => rfl)) (pv 6)) (by with_unfolding_all rfl)) (pss_one (ps_ret pe_bl)) pss_nil)
      (pss_cons (ps_asg (pe_dget (hu_of hr) (pv 6) (pe_ix (ixT (K := K) rfl) (pv 5) pe_int (fun _ _ => rfl)) (fun _ _ => rfl)) (pg_tupK (K := K) rfl rfl (pgs_cons (pg_name (i := 3) sc_p_shows_most.nd rfl (by first | exact Or.inl rfl | exact Or.inr rfl)) (pgs_cons (pg_name (i := 7) sc_p_shows_most.nd rfl (by first | exact Or.inl rfl | exact Or.inr rfl)) pgs_nil))))
      (pss_one (ps_aug (i := 4) sc_p_shows_most.nd rfl (by first | exact Or.inl rfl | exact Or.inr rfl) (pv 7) ip_add)))))))
      (pss_one (ps_ret (pe_and (pe_cmpR op_isN (pv 3) pe_non (nomark _)) (pe_one (pe_cmpR op_eq (pv 4) (pv 1) (nomark _)))))))))), ?_⟩
    obtain ⟨ty, hty, kl, _, _, _, _⟩ := hv.ty
    refine ⟨_, rfl, _, _, _, _, _, rfl, .ty _, hty, kit_ty kl, ?_⟩
    cases el : isL e with
    | false =>
      have z : isPap D m e = false := by cases e <;> first | rfl | exact nomatch el
      rw [z] at q
      exact ⟨_, rfl, iteT (q _ (.refl _))⟩
    | true =>
      obtain ⟨f, xs, ds, n', rfl, rfl, rfl, hf, tg⟩ := hv.lstI el
      refine ⟨_, rfl, iteF ?_⟩
      refine ⟨_, rfl, p, d, x, D, rfl, hD, fun le0 H1 s1 n1 h1 => ?_⟩
      generalize er : isPap D m (.list ds) = r at q
      have er' : walkP D m (some ((D.ks.length : Int), (D.cs.length : Int) - 1)) 0 ds = r := er
      refine ⟨_, rfl, f, rfl, ⟨_, SqL.of (s1 _ _ hf)⟩, for_it (walk_list (K := K) (a := f) (xs := xs)) (fun j σ H' => ∃ (lv : V) (td : Int) (v5 v6 v7 : Option V), σ = [some (.ref d), some (.int m), some (.ref f), some lv, some (.int td), v5, v6, v7] ∧ Same H H' ∧ LeadW D m r (ds.drop j) lv td H')
        ⟨.ref le0, 0, none, none, none, rfl, s1, .inl ⟨le0, D.ks.length, D.cs.length, rfl, h1, Nat.le_refl _, Nat.le_refl _, er'⟩⟩ (fun j σ H' _ ⟨_, _, _, _, _, _, s, _⟩ => SqL.of (s _ _ hf)) ?_ ?_⟩
      · rintro j v σ H2 H3 hj ⟨lv, td, v5, v6, v7, rfl, s2, ld⟩ ⟨rfl, hv'⟩
        have hj2 : j < ds.length := by rw [← tg.1]; exact hj
        obtain ⟨x0, e, ex, ee, tx⟩ := (tg.same s2).at_ hj
        obtain rfl : v = x0 := Option.some.inj (hv'.symm.trans ex)
        have dj : ds.drop j = e :: ds.drop (j + 1) := by
          rw [List.drop_eq_getElem_cons hj2]
          rw [List.getElem?_eq_getElem hj2] at ee
          rw [Option.some.inj ee]
        rw [dj] at ld
        rcases ld with ⟨le, pl, t, rfl, hle, hpl, ht, wk⟩ | ⟨rfl, wk⟩
        · refine ⟨_, rfl, rfl, _, rfl, iteF ?_⟩
          refine ⟨_, rfl, _, rfl, Av, B, n', v, e, le, (pl : Int), (t : Int) - 1, rfl, tx, hle, fun H4 s4 => ?_⟩
          rw [walkP_cons] at wk
          cases eb : bdW (pl : Int) ((t : Int) - 1) e with
          | none =>
            simp only [eb] at wk
            subst wk
            exact ⟨_, rfl, iteT (q _ (s2.trans s4))⟩
          | some w =>
            simp only [eb] at wk
            refine ⟨_, rfl, iteF ?_⟩
            obtain ⟨r0, ew, hr3⟩ : ∃ r0, v = .ref r0 ∧ SqT K H3 r0 [.str w, .int (pl : Int), .int ((t : Int) - 1)] := by
              cases et : isT e with
              | false => rw [bdW_T et] at eb; cases eb
              | true =>
                obtain ⟨a, ys, es, m', rfl, rfl, rfl, sq, tg'⟩ := tx.tupI et
                by_cases c : ys.length = 3
                · obtain ⟨x1, x2, x3, d1, d2, d3, rfl, rfl, t1, t2, t3⟩ := three tg' c
                  cases e1 : isS d1 with
                  | false => rw [bdW_no (.inl e1)] at eb; cases eb
                  | true =>
                    cases e2 : isI d2 with
                    | false => rw [bdW_no (.inr (.inl e2))] at eb; cases eb
                    | true =>
                      cases e3 : isI d3 with
                      | false => rw [bdW_no (.inr (.inr e3))] at eb; cases eb
                      | true =>
                        obtain ⟨w1, rfl, rfl⟩ := t1.strI e1
                        obtain ⟨i2, rfl, rfl, _⟩ := t2.intI e2
                        obtain ⟨i3, rfl, rfl, _⟩ := t3.intI e3
                        have eb : (if i2 = (pl : Int) ∧ i3 = (t : Int) - 1 then some w1 else none) = some w := eb
                        split at eb
                        · rename_i y
                          cases eb
                          rw [y.1, y.2] at sq
                          exact ⟨a, rfl, sq⟩
                        · cases eb
                · rw [bdW_len (by rw [← tg'.1]; exact c)] at eb
                  cases eb
            subst ew
            have hle4 := s4 _ _ hle
            have hr4 := Same.tup s4 hr3
            refine ⟨_, rfl, _, rfl, le, _, 0, _, rfl, rfl, SqT.of hle4, at0, _, rfl, le, _, 1, _, rfl, rfl, SqT.of hle4, at1, ?_⟩
            refine ⟨p, d, x, D, pl, t, (t : Int) - 1, rfl, rfl, (hD.same s2).same s4, O, hpl, ht, fun bx kb H5 s5 nb hb ab => ?_⟩
            have hr5 := Same.tup s5 hr4
            have s05 := s2.trans (s4.trans s5)
            rw [Int.toNat_natCast, show ((t : Int) - 1 + 1).toNat = t by omega] at wk
            cases es : stepP D pl t w with
            | none =>
              simp only [es] at wk
              subst wk
              have g : DGet H5 bx (.str w) none := .inl ⟨kb, .inr w, .inl hb, rfl, (ab.no (stepP_none es)).symm⟩
              refine ⟨_, rfl, r0, _, 0, _, rfl, rfl, hr5, at0, _, rfl, bx, _, rfl, g, _, rfl, iteT ?_⟩
              exact q _ s05
            | some b =>
              simp only [es] at wk
              obtain ⟨mb, rfl⟩ := stepP_some es
              obtain ⟨v', ev, _, tt, ll', e2, htt, hll⟩ := ab.at_ (bnds_words D pl t) b mb
              obtain rfl : v' = .ref tt := e2
              have g : DGet H5 bx (.str b.word) (some (.ref tt)) := .inl ⟨kb, .inr b.word, .inl hb, rfl, ev.symm⟩
              refine ⟨_, rfl, r0, _, 0, _, rfl, rfl, hr5, at0, _, rfl, bx, _, rfl, g, _, rfl, iteF ?_⟩
              refine ⟨_, rfl, _, rfl, r0, _, 0, _, rfl, rfl, hr5, at0, bx, _, rfl, g, ?_⟩
              refine ⟨tt, _, rfl, SqT.of htt, rfl, _, _, rfl, _, _, rfl, rfl, ?_⟩
              refine ⟨_, rfl, _, rfl, _, _, rfl, rfl, ?_⟩
              refine ⟨_, _, _, _, _, rfl, s05, ?_⟩
              cases el : b.lead with
              | none =>
                rw [el] at wk hll
                exact .inr ⟨hll, wk⟩
              | some y =>
                obtain ⟨p', t', rfl, hp', ht'⟩ := lead_in hpl mb el
                rw [el] at wk hll
                obtain ⟨le', rfl, hle'⟩ := hll
                exact .inl ⟨le', p', t', rfl, hle', hp', by omega, wk⟩
        · subst wk
          refine ⟨_, rfl, rfl, _, rfl, iteT ?_⟩
          exact q _ s2
      · rintro σ H2 ⟨lv, td, v5, v6, v7, rfl, s2, ld⟩
        rw [tg.1, List.drop_length] at ld
        rcases ld with ⟨le, pl, t, rfl, hle, hpl, ht, wk⟩ | ⟨rfl, wk⟩
        · refine ⟨_, rfl, rfl, _, rfl, iteF ?_⟩
          have wk : false = r := wk
          subst wk
          exact q _ s2
        · refine ⟨_, rfl, rfl, _, rfl, iteT ?_⟩
          refine ⟨_, rfl, _, rfl, rfl, ?_⟩
          have wk : (true && decide (td = m)) = r := wk
          subst wk
          have z := q _ s2
          by_cases c : td = m
          · rw [decide_eq_true c] at z
            rw [decide_eq_true (show V.int td = V.int m by rw [c])]
            exact z
          · rw [decide_eq_false c] at z
            rw [decide_eq_false (show ¬ V.int td = V.int m from fun e => c (by injection e))]
            exact z

end
end KR
namespace KR
open PySem PySem.Spec PyProof.Rows L2
section
variable {P : Program} {w : World} {K : PySem.W.Frag} {mg : Str → Option Value} {base : Heap}
/-- a paper with its number -/
def PapOf (D : Dy) (p : Addr) (H : Hp) (tt : Addr) : Prop := ∃ (f : Addr) (rs : List Addr) (l : List (Str × Nat × Nat)) (m : Int), H tt = some (.tup [.ref f, .int m]) ∧ H f = some (.lst (rs.map V.ref)) ∧ f ≠ p ∧ PaperAt H rs l ∧ Chain D D.ks.length D.cs.length l m ∧ l.length ≤ 500
theorem PapOf.same {D : Dy} {p tt : Addr} {H H' : Hp} (h : PapOf D p H tt) (s : Same H H') : PapOf D p H' tt := by
  obtain ⟨f, rs, l, m, h1, h2, h3, h4, h5, h6⟩ := h
  exact ⟨f, rs, l, m, s _ _ h1, s _ _ h2, h3, h4.same s, h5, h6⟩
theorem PapOf.fr {D : Dy} {p tt : Addr} {n : Nat} {H H' : Hp} (h : PapOf D p H tt) (B : BoxAt H p n) (F : Fr p H H') : PapOf D p H' tt := by
  obtain ⟨f, rs, l, m, h1, h2, h3, h4, h5, h6⟩ := h
  exact ⟨f, rs, l, m, F _ _ (B.ne h1) h1, F _ _ h3 h2, h3, h4.fr B F, h5, h6⟩
/-- a thing that is asked about -/
def ThingOf (K : PySem.W.Frag) (p : Addr) (H : Hp) (v : V) (e : PyData) : Prop := Tg K (fun a => a = p) H 2000001 7 v e ∧ PyData.weight e ≤ 100000
def sp_p_law (K : PySem.W.Frag) : Sp := fun vs H Q _ => ∃ (a : Addr) (ns : List Int), vs = [.ref a] ∧ SqL K H a (ns.map V.int) ∧ ns.length ≤ 63 ∧ ∀ H', Q (.bl true) H'
theorem ok_p_law (T : All K mg) : FnG P w K mg base 7 T.f_p_law T.fd_p_law ["_law_script"] (sp_p_law K) := by
  refine okG T.d_p_law.fn sc_p_law (fun vs H Q E h => ?_) (fun cdv A outer s H vs Q E hr hg h => ?_)
  · obtain ⟨a, ns, rfl, _⟩ := h
    rfl
  · obtain ⟨a, ns, rfl, hS, hlen, q⟩ := h
    refine ⟨_, (pss_cons (ps_for PassesOwn.never rfl (pi_range1 (by rfl) T.b_range (pa_cons (pe_callB (call_max2 rfl) (by rfl) T.b_max (by decide +kernel) (pa_cons pe_int (pa_cons (pe_callB (call_min2 rfl) (by rfl) T.b_min (by decide +kernel) (pa_cons (pe_callB (lenQ (K := K) rfl) (by rfl) T.b_len PySem.boot_len (pa_cons (pv 0) pa_nil)) (pa_cons pe_int pa_nil))) pa_nil))) pa_nil)) (pg_name (i := 1) sc_p_law.nd rfl (by first | exact Or.inl rfl | exact Or.inr rfl)) (pss_cons (ps_set (i := 2) sc_p_law.nd rfl (by first | exact Or.inl rfl | exact Or.inr rfl) (pe_call (ok_l_box T) (hr.mono (by decide)) (by rfl) T.d_l_box.mg T.d_l_box.fn.kp T.d_l_box.b .nil pass0 (pa_cons (pv 0) (pa_cons (pv 1) pa_nil))))
      (pss_cons (ps_set (i := 3) sc_p_law.nd rfl (by first | exact Or.inl rfl | exact Or.inr rfl) (pe_call (ok_l_some_day T) (hr.mono (by decide)) (by rfl) T.d_l_some_day.mg T.d_l_some_day.fn.kp T.d_l_some_day.b .nil pass0 (pa_cons (pv 2) pa_nil)))
      (pss_cons (ps_set (i := 4) sc_p_law.nd rfl (by first | exact Or.inl rfl | exact Or.inr rfl) (pe_tupI (pa_cons (pe_callTy (tupJ (K := K) rfl) (by rfl) T.b_tuple (by decide +kernel) (pa_cons (pe_ix (ixT (K := K) rfl) (pv 3) pe_int (fun _ _ => rfl)) pa_nil)) (pa_cons (pe_callTy (tupJ (K := K) rfl) (by rfl) T.b_tuple (by decide +kernel) (pa_cons (pe_lc (own := [("_law_room", 5), ("_law_takes", 6)]) (g := gTup K 2 (gCons (gName 5) (gCons (gName 6) gNil))) (tt := tYes) (by rfl) sc_p_law.nd (pi_listK (K := K) rfl (pe_ix (ixT (K := K) rfl) (pv 3) pe_int (fun _ _ => rfl))) (blkOk_by (own := [("_law_room", 5), ("_law_takes", 6)]) (N := ["_law_script", "_law_k", "_law_box_here", "_law_day_here", "_law_loose", "_law_room", "_law_takes", "_law_many", "_law_paper", "_law_papers", "_law_turn", "_law_thing", "_law_seen", "_law_number", "_law_told"]) (sc := defScope s_p_law) (by decide +kernel)) (fun _ _ _ _ _ => (pg_tupK (K := K) rfl rfl (pgs_cons (pg_name (i := 5) sc_p_law.nd rfl (by first | exact Or.inl rfl | exact Or.inr rfl)) (pgs_cons (pg_name (i := 6) sc_p_law.nd rfl (by first | exact Or.inl rfl | exact Or.inr rfl)) pgs_nil)))) (fun _ _ _ _ _ => pts_nil) (fun _ _ _ _ _ => (pe_tupI (pa_cons (pv 5) (pa_cons (pe_callTy (tupJ (K := K) rfl) (by rfl) T.b_tuple (by decide +kernel) (pa_cons (pv 6) pa_nil)) pa_nil))))) pa_nil)) (pa_cons (pe_callTy (tupJ (K := K) rfl) (by rfl) T.b_tuple (by decide +kernel) (pa_cons (pe_ix (ixT (K := K) rfl) (pv 3) pe_int (fun _ _ => rfl)) pa_nil)) pa_nil)))))
      (pss_cons (ps_asg (pe_call (ok_p_most_struck T) (hr.mono (by decide)) (by rfl) T.d_p_most_struck.mg T.d_p_most_struck.fn.kp T.d_p_most_struck.b .nil pass0 (pa_cons (pv 3) pa_nil)) (pg_tupK (K := K) rfl rfl (pgs_cons (pg_name (i := 7) sc_p_law.nd rfl (by first | exact Or.inl rfl | exact Or.inr rfl)) (pgs_cons (pg_name (i := 8) sc_p_law.nd rfl (by first | exact Or.inl rfl | exact Or.inr rfl)) pgs_nil))))
      (pss_cons (ps_set (i := 9) sc_p_law.nd rfl (by first | exact Or.inl rfl | exact Or.inr rfl) (pe_lstI (pa_cons (pe_tupI (pa_cons (pv 8) (pa_cons (pv 7) pa_nil))) (pa_cons (pe_call (ok_l_walked T) (hr.mono (by decide)) (by rfl) T.d_l_walked.mg T.d_l_walked.fn.kp T.d_l_walked.b .nil pass0 (pa_cons (pv 2) (pa_cons (pv 3) pa_nil))) (pa_cons (pe_call (ok_l_walked T) (hr.mono (by decide)) (by rfl) T.d_l_walked.mg T.d_l_walked.fn.kp T.d_l_walked.b .nil pass0 (pa_cons (pv 2) (pa_cons (pv 3) pa_nil))) pa_nil)))))
      (pss_one (ps_for PassesOwn.never rfl (pi_range1 (by rfl) T.b_range (pa_cons pe_int pa_nil)) (pg_name (i := 10) sc_p_law.nd rfl (by first | exact Or.inl rfl | exact Or.inr rfl)) (pss_cons (ps_asg (pe_ix (ixL (K := K) rfl) (pv 9) (pe_op op_mod (pv 10) pe_int) (fun _ _ => rfl)) (pg_tupK (K := K) rfl rfl (pgs_cons (pg_name (i := 8) sc_p_law.nd rfl (by first | exact Or.inl rfl | exact Or.inr rfl)) (pgs_cons (pg_name (i := 7) sc_p_law.nd rfl (by first | exact Or.inl rfl | exact Or.inr rfl)) pgs_nil))))
      (pss_cons (ps_set (i := 11) sc_p_law.nd rfl (by first | exact Or.inl rfl | exact Or.inr rfl) (pv 8))
      (pss_cons (ps_J (ps_if (pt_cmpR op_gt (pv 10) pe_int (nomark _)) (pss_one (ps_set (i := 11) sc_p_law.nd rfl (by first | exact Or.inl rfl | exact Or.inr rfl) (pe_ifExp (pt_cmpR op_lt (pv 10) pe_int (nomark _)) (pe_call (ok_l_otherwise T) (hr.mono (by decide)) (by rfl) T.d_l_otherwise.mg T.d_l_otherwise.fn.kp T.d_l_otherwise.b .nil pass0 (pa_cons (pv 2) (pa_cons (pv 8) pa_nil))) (pe_call (ok_l_bent T) hr (by rfl) T.d_l_bent.mg T.d_l_bent.fn.kp T.d_l_bent.b .nil pass0 (pa_cons (pv 2) (pa_cons (pv 8) (pa_cons pe_int pa_nil))))))) pss_nil))
      (pss_cons (ps_J (ps_if (pt_cmpR op_gt (pv 10) pe_int (nomark _)) (pss_one (ps_set (i := 11) sc_p_law.nd rfl (by first | exact Or.inl rfl | exact Or.inr rfl) (pe_call (ok_l_made T) hr (by rfl) T.d_l_made.mg T.d_l_made.fn.kp T.d_l_made.b .nil pass0 (pa_cons (pv 2) (pa_cons pe_int pa_nil))))) pss_nil))
      (pss_cons (ps_set (i := 12) sc_p_law.nd rfl (by first | exact Or.inl rfl | exact Or.inr rfl) (pe_callB (cr_reprV (K := K) rfl hg hr.units) (by rfl) T.b_repr (by decide +kernel) (pa_cons (pv 11) pa_nil)))
      (pss_cons (ps_for PassesOwn.never rfl (pi_tupK (K := K) rfl (pe_tupI (pa_cons (pv 7) (pa_cons (pe_op op_add (pv 7) pe_int) (pa_cons (pe_op op_sub (pv 7) pe_int) (pa_cons pe_int (pa_cons (pe_un un_neg pe_int) (pa_cons (pe_op op_sub (pe_un un_neg pe_int) (pv 7)) pa_nil)))))))) (pg_name (i := 13) sc_p_law.nd rfl (by first | exact Or.inl rfl | exact Or.inr rfl)) (pss_cons (ps_set (i := 14) sc_p_law.nd rfl (by first | exact Or.inl rfl | exact Or.inr rfl) (pe_call (ok_p_shows_most T) (hr.mono (by decide)) (by rfl) T.d_p_shows_most.mg T.d_p_shows_most.fn.kp T.d_p_shows_most.b .nil pass0 (pa_cons (pe_ix (ixL (K := K) rfl) (pe_lstI (pa_cons (pv 3) (pa_cons (pv 4) pa_nil))) (pe_op op_mod (pv 10) pe_int) (fun _ _ => rfl)) (pa_cons (pv 13) (pa_cons (pv 11) pa_nil)))))
      (pss_one (ps_if (PW.pt (pw_or (pt_not (pt_val (pe_callB (isiK (K := K) rfl) (by rfl) T.b_isinstance (by decide +kernel) (pa_cons (pv 14) (pa_cons (pe_bltn (v := .ty "bool") (by rfl) T.b_bool (by decide +kernel) rfl) pa_nil))))) (pw_or (pt_cmpR op_ne (pv 14) (pe_call (ok_l_is_paper T) (hr.mono (by decide)) (by rfl) T.d_l_is_paper.mg T.d_l_is_paper.fn.kp T.d_l_is_paper.b .nil pass0 (pa_cons (pv 3) (pa_cons (pv 13) (pa_cons (pv 11) pa_nil)))) (nomark _)) (pw_or1 (pt_cmpR op_ne (pe_callB (cr_reprV (K := K) rfl hg hr.units) (by rfl) T.b_repr (by decide +kernel) (pa_cons (pv 11) pa_nil)) (pv 12) (nomark _)))))) (pss_one (ps_ret pe_bl)) pss_nil))))
      (pss_one (ps_if (PW.pt (pw_and (pt_cmpR op_lt (pv 10) pe_int (nomark _)) (pw_and1 (pt_cmpR op_notBl (pe_call (ok_p_shows_most T) (hr.mono (by decide)) (by rfl) T.d_p_shows_most.mg T.d_p_shows_most.fn.kp T.d_p_shows_most.b .nil pass0 (pa_cons (pv 3) (pa_cons (pv 7) (pa_cons (pv 11) pa_nil)))) pe_bl (nomark _))))) (pss_one (ps_ret pe_bl)) pss_nil))))))))))))))))
      (pss_one (ps_ret pe_bl))), ?_⟩
    refine ⟨_, rfl, a, _, rfl, .inl hS, _, _, rfl, _, _, rfl, ?_⟩
    rw [List.length_map]
    obtain ⟨m, em, m1⟩ : ∃ m : Nat, (if (if (4 : Int) < (ns.length : Int) then (4 : Int) else (ns.length : Int)) > 2 then (if (4 : Int) < (ns.length : Int) then (4 : Int) else (ns.length : Int)) else 2) = (m : Int) ∧ m ≤ 4 := by
      refine ⟨(if (if (4 : Int) < (ns.length : Int) then (4 : Int) else (ns.length : Int)) > 2 then (if (4 : Int) < (ns.length : Int) then (4 : Int) else (ns.length : Int)) else 2).toNat, ?_, ?_⟩ <;> split <;> split <;> omega
    refine ⟨_, rfl, ?_⟩
    rw [em]
    refine ⟨by omega, by omega, for_range (lo := 0) (n := m) (fun i σ H' => ∃ v1 v2 v3 v4 v5 v6 v7 v8 v9 v10 v11 v12 v13 v14 : Option V, σ = [some (.ref a), v1, v2, v3, v4, v5, v6, v7, v8, v9, v10, v11, v12, v13, v14] ∧ Same H H')
      ⟨none, none, none, none, none, none, none, none, none, none, none, none, none, none, rfl, .refl _⟩ ?_ ?_⟩
    · rintro i σ H0 hi ⟨v1, v2, v3, v4, v5, v6, v7, v8, v9, v10, v11, v12, v13, v14, rfl, s0⟩
      rw [Int.zero_add]
      refine ⟨_, rfl, _, rfl, a, ns, (i : Int), rfl, s0.seq hS, by omega, by omega, fun p H1 s1 n1 B1 => ?_⟩
      refine ⟨_, rfl, p, 0, rfl, B1, by decide, fun d x D H4 hD4 O N xc xk xs B4 F4 => ?_⟩
      have hh1 := O.h1
      have hh2 := O.h2
      have hk1' := O.k1
      have hk2' := O.k2
      -- the day as tuples
      have hc4 : SqL K H4 x.c (D.cs.map V.int) := by
        have z := hD4.cs.1
        rw [xc] at z
        exact z
      refine ⟨_, rfl, ?_⟩
      refine ⟨d, _, 0, _, rfl, rfl, hD4.at_, at0, x.c, _, rfl, .inl ⟨hc4, fun lc H5 s5 n5 h5 => ?_⟩⟩
      have hD5 := hD4.same s5
      have hk5 : SqL K H5 x.k (x.as.map V.ref) := by
        have z := hD5.ks
        rw [xk] at z
        exact z
      refine ⟨_, rfl, d, _, 1, _, rfl, rfl, hD5.at_, at1, x.k, rfl, ⟨_, hk5⟩, fun g hg => ?_⟩
      refine lc_it (walk_list (K := K) (a := x.k) (xs := x.as.map V.ref)) (fun j H' => ∃ bs : List Addr, Same H5 H' ∧ H' g = some (.lst (bs.map V.ref)) ∧ bs.length = j ∧ ∀ (i : Nat) (b : Addr) (k : Int × List Int), bs[i]? = some b → D.ks[i]? = some k → ∃ t, SqT K H' b [.int k.1, .ref t] ∧ SqT K H' t (k.2.map V.int) ∧ t ≠ p)
        ⟨[], same_new hg, upd_same, rfl, fun i b k e => by simp at e⟩ (fun j H' _ ⟨_, s, _⟩ => s.seq hk5) ?_ ?_
      · rintro j v H6 H7 hj ⟨bs, s6, hg6, lb, all⟩ ⟨rfl, hv⟩
        rw [List.length_map] at hj
        obtain ⟨ka, t, b, gk, hk, ht⟩ := (hD5.same s6).pot (j := j) (by rw [← hD5.len]; exact hj)
        rw [gk] at hv
        obtain rfl := Option.some.inj hv
        refine ⟨ka, _, rfl, hk, rfl, _, _, rfl, _, _, rfl, rfl, rfl, yesT ?_⟩
        have ek : D.ks[j]? = some (kt D j) := by
          unfold kt
          rw [List.getD_eq_getElem?_getD, List.getElem?_eq_getElem (by rw [← hD5.len]; exact hj)] <;> rfl
        have fin : ∀ (t' : Addr) (H8 : Hp), Same H7 H8 → SqT K H8 t' ((kt D j).2.map V.int) → t' ≠ p → ∀ (u : Addr) (H9 : Hp), Same H8 H9 → H8 u = none → H9 u = some (.tup [.int (kt D j).1, .ref t']) → ∃ acc, H9 g = some (.lst acc) ∧ acc.length < sizeLine ∧ ∃ bs : List Addr, Same H5 (upd H9 g (.lst (acc ++ [.ref u]))) ∧ (upd H9 g (.lst (acc ++ [.ref u]))) g = some (.lst (bs.map V.ref)) ∧ bs.length = j + 1 ∧ ∀ (i : Nat) (b : Addr) (k : Int × List Int), bs[i]? = some b → D.ks[i]? = some k → ∃ t, SqT K (upd H9 g (.lst (acc ++ [.ref u]))) b [.int k.1, .ref t] ∧ SqT K (upd H9 g (.lst (acc ++ [.ref u]))) t (k.2.map V.int) ∧ t ≠ p := fun t' H8 s8 ht' tp u H9 s9 n9 h9 => by
          have s79 := s8.trans s9
          have hg9 := s79 _ _ hg6
          refine ⟨_, hg9, by rw [List.length_map]; exact small' (by have := hD5.len; omega), bs ++ [u], Same.put (s6.trans s79) hg, by rw [upd_same, List.map_append] <;> rfl, by rw [List.length_append, lb] <;> rfl, fun i b k e1 e2 => ?_⟩
          have tn : ∀ {y : Addr} {ys : List V}, SqT K H9 y ys → SqT K (upd H9 g (.lst (bs.map V.ref ++ [.ref u]))) y ys := fun {y ys} e => sqT_frL e hg9 fr_upd
          by_cases c : i < bs.length
          · rw [List.getElem?_append_left c] at e1
            obtain ⟨t0, a1, a2, a3⟩ := all i b k e1 e2
            exact ⟨t0, tn (Same.tup s79 a1), tn (Same.tup s79 a2), a3⟩
          · have il : i = bs.length := by
              have := (List.getElem?_eq_some_iff.mp e1).1
              rw [List.length_append, List.length_singleton] at this
              omega
            subst il
            rw [List.getElem?_append_right (Nat.le_refl _), Nat.sub_self] at e1
            cases e1
            rw [lb, ek] at e2
            cases e2
            exact ⟨t', tn (SqT.of h9), tn (Same.tup s9 ht'), tp⟩
        have B7 := (B4.same s5).same s6
        cases b with
        | true =>
          refine ⟨_, rfl, _, rfl, t, _, rfl, .inl ⟨ht.1, fun t' H8 s8 n8 h8 => ?_⟩⟩
          exact ⟨rfl, fun u H9 s9 n9 h9 => fin t' H8 s8 (SqT.of h8) (B7.new n8) u H9 s9 n9 h9⟩
        | false =>
          refine ⟨_, rfl, _, rfl, t, _, rfl, .inr ⟨ht.1, ?_⟩⟩
          exact ⟨rfl, fun u H9 s9 n9 h9 => fin t H7 (.refl _) ht.1 ht.2 u H9 s9 n9 h9⟩
      · rintro H6 ⟨bs, s6, hg6, lb, all⟩
        rw [List.length_map] at lb
        refine ⟨g, _, rfl, .inl ⟨SqL.of hg6, fun lk H7 s7 n7 h7 => ?_⟩⟩
        have s57 := s6.trans s7
        have hD7 := hD5.same s57
        have hs7 : SqL K H7 x.s (D.ss.map V.int) := by
          have z := hD7.ss.1
          rw [xs] at z
          exact z
        refine ⟨_, rfl, d, _, 2, _, rfl, rfl, hD7.at_, at2, x.s, _, rfl, .inl ⟨hs7, fun ls H8 s8 n8 h8 => ⟨rfl, fun lo H9 s9 n9 h9 => ?_⟩⟩⟩
        have s79 := s8.trans s9
        have B7 := (B4.same s5).same s57
        have hD9 := hD7.same s79
        have hL9 : DayAt K H9 p lo ⟨lc, lk, ls, false, false, false, bs⟩ D := ⟨SqT.of h9, ⟨SqT.of ((s57.trans s79) _ _ h5), B4.new n5⟩, SqT.of (s79 _ _ h7), ((B4.same s5).same s6).new n7, ⟨SqT.of (s9 _ _ h8), B7.new n8⟩, lb.trans hD5.len, fun j b k e1 e2 => by
          obtain ⟨t, a1, a2, a3⟩ := all j b k e1 e2
          exact ⟨t, false, Same.tup (s7.trans s79) a1, Same.tup (s7.trans s79) a2, a3⟩⟩
        have s49 := s5.trans (s57.trans s79)
        have B9 := B4.same s49
        refine ⟨_, rfl, p, d, x, D, rfl, hD9, O, fun tt1 f1 rs1 l1 Ha sa na htt hf1 pap1 ch1 tc1 ll1 => ?_⟩
        refine ⟨tt1, _, rfl, SqT.of htt, rfl, _, _, rfl, _, _, rfl, rfl, ?_⟩
        have hDa := hD9.same sa
        have hLa := hL9.same sa
        have Ba := B9.same sa
        have f1p : f1 ≠ p := B9.new na
        refine ⟨_, rfl, _, rfl, rfl, fun tA Hb sb nb hb => ?_⟩
        have Bb := Ba.same sb
        have hDb := hDa.same sb
        have P1b : PapOf D p Hb tA := ⟨f1, rs1, l1, _, hb, sb _ _ hf1, f1p, pap1.same sb, ch1, ll1⟩
        refine ⟨_, rfl, _, rfl, p, d, x, D, _, rfl, Bb, by omega, hDb, xc, xk, O, fun tB f2 rs2 l2 m2 Hc Bc Fc nf2 f2p htB hf2 pap2 ch2 ll2 => ?_⟩
        have P1c := P1b.fr Bb Fc
        have P2c : PapOf D p Hc tB := ⟨f2, rs2, l2, m2, htB, hf2, f2p, pap2, ch2, ll2⟩
        have hDc := hDb.fr Bb Fc
        have hLc := (hLa.same sb).fr Bb Fc
        refine ⟨_, rfl, _, rfl, p, d, x, D, _, rfl, Bc, by omega, hDc, xc, xk, O, fun tC f3 rs3 l3 m3 Hd Bd Fd nf3 f3p htC hf3 pap3 ch3 ll3 => ?_⟩
        have P3d : PapOf D p Hd tC := ⟨f3, rs3, l3, m3, htC, hf3, f3p, pap3, ch3, ll3⟩
        have P1d := P1c.fr Bc Fd
        have P2d := P2c.fr Bc Fd
        have hDd := hDc.fr Bc Fd
        have hLd := hLc.fr Bc Fd
        refine ⟨rfl, fun lp He se ne he => ?_⟩
        have lpp : lp ≠ p := Bd.new ne
        have Be := Bd.same se
        have FH : Fr p H1 He := F4.trans ((Fr.of s49).trans ((Fr.of sa).trans ((Fr.of sb).trans (Fc.trans (Fd.trans (.of se))))))
        have P1e := P1d.same se
        have P2e := P2d.same se
        have P3e := P3d.same se
        have hDe := hDd.same se
        have hLe := hLd.same se
        refine ⟨_, rfl, by decide, by decide, for_range (lo := 0) (n := 18) (fun k σ H' => ∃ v7 v8 v10 v11 v12 v13 v14 : Option V, σ = [some (.ref a), some (.int (i : Int)), some (.ref p), some (.ref d), some (.ref lo), v5, v6, v7, v8, some (.ref lp), v10, v11, v12, v13, v14] ∧ Fr p He H' ∧ BoxAt H' p (4000 + 300 * k))
          ⟨_, _, _, _, _, _, _, rfl, Fr.refl, Be.mono (by omega)⟩ ?_ ?_⟩
        · rintro k σ Hf hk ⟨u7, u8, u10, u11, u12, u13, u14, rfl, Ff, Bf⟩
          rw [Int.zero_add]
          obtain ⟨tt, ett, f, rs, l, m', htt', hf', fp, pap, ch, ll⟩ : ∃ tt, atI ([.ref tA, .ref tB, .ref tC] : List V) ((k : Int) % 3) = some (.ref tt) ∧ PapOf D p Hf tt := by
            have cs : (k : Int) % 3 = 0 ∨ (k : Int) % 3 = 1 ∨ (k : Int) % 3 = 2 := by omega
            rcases cs with c | c | c <;> rw [c]
            · exact ⟨tA, rfl, P1e.fr Be Ff⟩
            · exact ⟨tB, rfl, P2e.fr Be Ff⟩
            · exact ⟨tC, rfl, P3e.fr Be Ff⟩
          have sm := ch.small (by omega) (by omega) (by omega)
          have hAv : ∀ {Hx : Hp} {n : Nat}, BoxAt Hx p n → ∀ a, a = p → ∃ o, Hx a = some o := fun {Hx n} B a e => e ▸ B.some
          refine ⟨_, rfl, _, rfl, _, _, rfl, rfl, (by show (0 : Int) < 3; decide), lp, _, _, _, rfl, rfl, SqL.of (Ff _ _ lpp he), ett, tt, _, rfl, SqT.of htt', rfl, _, _, rfl, _, _, rfl, rfl, ?_⟩
          refine ⟨_, rfl, ?_⟩
          have PT : TgAll K (fun a => a = p) Hf 1000000 1 (rs.map V.ref) (l.map dpB) := papTg pap sm
          have T0 : Tg K (fun a => a = p) Hf 1000000 2 (.ref f) (dpP l) := .lst hf' fp PT.1 PT.2
          have W0 : PyData.weight (dpP l) ≤ 16000 := by
            have := wa_pap sm
            show PyData.weightAll (l.map dpB) ≤ _
            omega
          refine ⟨fun σ' H' => ∃ (v : V) (e : PyData), σ' = [some (.ref a), some (.int (i : Int)), some (.ref p), some (.ref d), some (.ref lo), v5, v6, some (.int m'), some (.ref f), some (.ref lp), some (.int (k : Int)), some v, u12, u13, u14] ∧ Fr p Hf H' ∧ BoxAt H' p (4000 + 300 * k + 20) ∧ ThingOf K p H' v e ∧ (k < 3 → v = .ref f ∧ e = dpP l), ?_, ?_⟩
          rotate_left
          · refine ⟨_, rfl, _, _, rfl, rfl, _, rfl, ?_⟩
            by_cases c2 : 2 < k
            · refine ite_bT (decide_eq_true (by omega)) ?_
              refine ⟨_, rfl, _, _, rfl, rfl, _, rfl, ?_⟩
              by_cases c10 : k < 10
              · refine ite_bT (decide_eq_true (by omega)) ?_
                refine ⟨_, rfl, _, rfl, p, f, _, (fun a => a = p), rs, l, rfl, rfl, hAv Bf, Bf, by omega, fp, hf', pap, sm, ch.pos, ll, fun v' d' Hg Bg Fg tg wg => ?_⟩
                exact ⟨v', d', rfl, Fg, Bg.mono (by omega), ⟨tg.up (by decide) (by decide), by omega⟩, fun z => absurd z (by omega)⟩
              · refine ite_bF (decide_eq_false (by omega)) ?_
                refine ⟨_, rfl, _, rfl, p, (fun a => a = p), _, 2, 2, 2000000, 16000, _, _, rfl, rfl, hAv Bf, Bf, by omega, T0.up (by decide) (Nat.le_refl _), by decide, by decide, W0, by decide, by decide, by decide, fun v' d' Hg Bg Fg tg wg => ?_⟩
                exact ⟨v', d', rfl, Fg, Bg.mono (by omega), ⟨tg.up (by decide) (by decide), by omega⟩, fun z => absurd z (by omega)⟩
            · refine ite_bF (decide_eq_false (by omega)) ?_
              exact ⟨_, _, rfl, Fr.refl, Bf.mono (by omega), ⟨T0.up (by decide) (by decide), by omega⟩, fun _ => ⟨rfl, rfl⟩⟩
          rintro σ Hg ⟨v0, e0, rfl, Fg, Bg, th0, eq0⟩
          refine ⟨fun σ' H' => ∃ (v : V) (e : PyData), σ' = [some (.ref a), some (.int (i : Int)), some (.ref p), some (.ref d), some (.ref lo), v5, v6, some (.int m'), some (.ref f), some (.ref lp), some (.int (k : Int)), some v, u12, u13, u14] ∧ Fr p Hf H' ∧ BoxAt H' p (4000 + 300 * k + 300) ∧ ThingOf K p H' v e ∧ (k < 3 → v = .ref f ∧ e = dpP l), ?_, ?_⟩
          rotate_left
          · refine ⟨_, rfl, _, _, rfl, rfl, _, rfl, ?_⟩
            by_cases c15 : 15 < k
            · refine ite_bT (decide_eq_true (by omega)) ?_
              refine ⟨_, rfl, p, (fun a => a = p), _, 3, rfl, rfl, hAv Bg, Bg, by show 4000 + 300 * k + 20 + 200 ≤ _; omega, by decide, fun v' d' Hh Bh Fh tg wg => ?_⟩
              have wg : PyData.weight d' ≤ 100000 := Nat.le_trans wg (by decide)
              have Bh : BoxAt Hh p (4000 + 300 * k + 20 + 200) := Bh
              exact ⟨v', d', rfl, Fg.trans Fh, Bh.mono (by omega), ⟨tg.up (by decide) (by decide), wg⟩, fun z => absurd z (by omega)⟩
            · refine ite_bF (decide_eq_false (by omega)) ?_
              exact ⟨v0, e0, rfl, Fg, Bg.mono (by omega), th0, eq0⟩
          rintro σ Hh ⟨v1', e, rfl, Fh, Bh, th, eqv⟩
          have hDh := hDe.fr Be (Ff.trans Fh)
          have hLh := hLe.fr Be (Ff.trans Fh)
          have fin : Fine 7 100000 e := th.1.show_ (by decide) th.2
          refine ⟨_, rfl, v1', e, 7, 100000, rfl, th.1.dp, fin, by decide, by decide, ?_⟩
          refine ⟨_, rfl, _, rfl, _, _, rfl, rfl, _, rfl, _, _, rfl, rfl, _, rfl, _, rfl, _, rfl, _, _, rfl, rfl, rfl, fun tn Hi si ni hi' => ?_⟩
          have s_i := si
          have tn' : SqT K Hi tn [.int m', .int (m' + 1), .int (m' - 1), .int 0, .int (-1), .int (-1 - m')] := SqT.of hi'
          refine ⟨tn, rfl, ⟨_, tn'⟩, for_it (walk_tup (K := K) (a := tn) (xs := [.int m', .int (m' + 1), .int (m' - 1), .int 0, .int (-1), .int (-1 - m')])) (fun _ σ H' => ∃ w13 w14 : Option V, σ = [some (.ref a), some (.int (i : Int)), some (.ref p), some (.ref d), some (.ref lo), v5, v6, some (.int m'), some (.ref f), some (.ref lp), some (.int (k : Int)), some v1', some (.str e.shown), w13, w14] ∧ Same Hi H')
            ⟨_, _, rfl, .refl _⟩ (fun j σ H' _ ⟨_, _, _, s⟩ => Same.tup s tn') ?_ ?_⟩
          · rintro j v σ Hj Hk hj ⟨w13, w14, rfl, sj⟩ ⟨rfl, hv⟩
            obtain ⟨num, rfl⟩ : ∃ num : Int, v = .int num := by
              have hj : j < 6 := hj
              have cs : j = 0 ∨ j = 1 ∨ j = 2 ∨ j = 3 ∨ j = 4 ∨ j = 5 := by omega
              rcases cs with c | c | c | c | c | c <;> subst c <;> cases hv <;> exact ⟨_, rfl⟩
            have shk := si.trans sj
            have hDk := hDh.same shk
            have hLk := hLh.same shk
            have thk := th.1.same shk
            refine ⟨_, rfl, _, rfl, rfl, fun ld Hl sl nl hl => ?_⟩
            have hDl := hDk.same sl
            have hLl := hLk.same sl
            have thl := thk.same sl
            obtain ⟨dd, xx, edd, hDD⟩ : ∃ (dd : Addr) (xx : DyP), atI ([.ref d, .ref lo] : List V) ((k : Int) % 2) = some (.ref dd) ∧ DayAt K Hl p dd xx D := by
              have cs : (k : Int) % 2 = 0 ∨ (k : Int) % 2 = 1 := by omega
              rcases cs with c | c <;> rw [c]
              · exact ⟨d, x, rfl, hDl⟩
              · exact ⟨lo, _, rfl, hLl⟩
            refine ⟨_, rfl, _, _, rfl, rfl, (by show (0 : Int) < 2; decide), ld, _, _, _, rfl, rfl, SqL.of hl, edd, ?_⟩
            refine ⟨_, rfl, _, rfl, p, dd, xx, D, num, (fun a => a = p), 2000001, 7, v1', e, rfl, hDD, O, thl, fun Hm s_m => ?_⟩
            have hDm := hDl.same s_m
            have thm := thl.same s_m
            refine ⟨_, rfl, _, _, _, _, _, rfl, .ty _, .base (.bl _), kit_ty (show kitB "bool" "bool" = some true by decide +kernel), _, rfl, iteF ?_⟩
            refine ⟨_, rfl, _, rfl, _, rfl, _, rfl, p, d, x, D, num, (fun a => a = p), 2000001, 7, v1', e, rfl, hDm, xc, xk, O, thm, fun Hn s_n => ?_⟩
            refine ⟨rfl, _, rfl, ?_⟩
            rw [decide_eq_true rfl]
            refine iteF ?_
            refine ⟨_, rfl, v1', e, 7, 100000, rfl, (thm.same s_n).dp, fin, by decide, by decide, _, rfl, rfl, _, rfl, ?_⟩
            rw [decide_eq_true rfl]
            refine iteF ?_
            exact ⟨_, _, rfl, sj.trans (sl.trans (s_m.trans s_n))⟩
          · rintro σ Hj ⟨w13, w14, rfl, sj⟩
            have shj := si.trans sj
            have FF : Fr p He Hj := Ff.trans (Fh.trans (.of shj))
            have BB : BoxAt Hj p (4000 + 300 * (k + 1)) := (Bh.same shj).mono (by omega)
            refine ⟨_, rfl, _, _, rfl, rfl, _, rfl, ?_⟩
            by_cases c3 : k < 3
            · refine ite_bT (decide_eq_true (by omega)) ?_
              obtain ⟨rfl, rfl⟩ := eqv c3
              refine ⟨_, rfl, _, rfl, _, rfl, p, d, x, D, m', (fun a => a = p), 2000001, 7, _, _, rfl, hDh.same shj, O, th.1.same shj, fun Hn s_n => ?_⟩
              rw [ch.pap]
              refine ⟨_, _, rfl, rfl, _, rfl, iteF ?_⟩
              exact ⟨_, _, _, _, _, _, _, rfl, FF.trans (.of s_n), BB.same s_n⟩
            · refine ite_bF (decide_eq_false (by omega)) ?_
              exact ⟨_, _, _, _, _, _, _, rfl, FF, BB⟩
        · rintro σ Hf ⟨u7, u8, u10, u11, u12, u13, u14, rfl, Ff, Bf⟩
          exact ⟨_, _, _, _, _, _, _, _, _, _, _, _, _, _, rfl, s0.trans (same_new_fr s1 n1 (FH.trans Ff))⟩
    · rintro σ H0 ⟨v1, v2, v3, v4, v5, v6, v7, v8, v9, v10, v11, v12, v13, v14, rfl, s0⟩
      exact q H0

end
end KR
namespace KR
open PySem PySem.Spec PyProof.Rows L2
theorem all_mk {l : PySem.W.OpenLaw} {w : World} {K : PySem.W.Frag} {h : Heap} {mg : Str → Option Value} {fa : Addr} (X : K.In h) (G : h.Ns mainGlobals mg) (hfa : mg "law" = some (.ref fa))
    {od0 an0 : Option Addr} {sl0 : Array (Option Value)} {oc0 kV0 dc0 pm0 cd0 ct0 : Value} {f0 : Addr}
    (a0 : PySem.W.nsIn K mainGlobals "places_in" = some (some (.ref f0))) (l0 : K.lookup f0 = some ⟨oc0, od0, .func (PySem.W.fnOf "places_in" "places_in" (defArgs s_p_places_in) (defBody s_p_places_in) (defScope s_p_places_in) .none kV0 dc0 pm0 an0 cd0 ct0), sl0⟩) (c0 : PySem.W.codeIn K cd0 "places_in" = true) (k0 : PySem.W.keepIn K (.ref f0) = true)
    {od1 an1 : Option Addr} {sl1 : Array (Option Value)} {oc1 kV1 dc1 pm1 cd1 ct1 : Value} {f1 : Addr}
    (a1 : PySem.W.nsIn K mainGlobals "hours_in" = some (some (.ref f1))) (l1 : K.lookup f1 = some ⟨oc1, od1, .func (PySem.W.fnOf "hours_in" "hours_in" (defArgs s_p_hours_in) (defBody s_p_hours_in) (defScope s_p_hours_in) .none kV1 dc1 pm1 an1 cd1 ct1), sl1⟩) (c1 : PySem.W.codeIn K cd1 "hours_in" = true) (k1 : PySem.W.keepIn K (.ref f1) = true)
    {od2 an2 : Option Addr} {sl2 : Array (Option Value)} {oc2 kV2 dc2 pm2 cd2 ct2 : Value} {f2 : Addr}
    (a2 : PySem.W.nsIn K mainGlobals "end_of" = some (some (.ref f2))) (l2 : K.lookup f2 = some ⟨oc2, od2, .func (PySem.W.fnOf "end_of" "end_of" (defArgs s_p_end_of) (defBody s_p_end_of) (defScope s_p_end_of) .none kV2 dc2 pm2 an2 cd2 ct2), sl2⟩) (c2 : PySem.W.codeIn K cd2 "end_of" = true) (k2 : PySem.W.keepIn K (.ref f2) = true)
    {od3 an3 : Option Addr} {sl3 : Array (Option Value)} {oc3 kV3 dc3 pm3 cd3 ct3 : Value} {f3 : Addr}
    (a3 : PySem.W.nsIn K mainGlobals "bounds_at" = some (some (.ref f3))) (l3 : K.lookup f3 = some ⟨oc3, od3, .func (PySem.W.fnOf "bounds_at" "bounds_at" (defArgs s_p_bounds_at) (defBody s_p_bounds_at) (defScope s_p_bounds_at) .none kV3 dc3 pm3 an3 cd3 ct3), sl3⟩) (c3 : PySem.W.codeIn K cd3 "bounds_at" = true) (k3 : PySem.W.keepIn K (.ref f3) = true)
    {od4 an4 : Option Addr} {sl4 : Array (Option Value)} {oc4 kV4 dc4 pm4 cd4 ct4 : Value} {f4 : Addr}
    (a4 : PySem.W.nsIn K mainGlobals "reached" = some (some (.ref f4))) (l4 : K.lookup f4 = some ⟨oc4, od4, .func (PySem.W.fnOf "reached" "reached" (defArgs s_p_reached) (defBody s_p_reached) (defScope s_p_reached) .none kV4 dc4 pm4 an4 cd4 ct4), sl4⟩) (c4 : PySem.W.codeIn K cd4 "reached" = true) (k4 : PySem.W.keepIn K (.ref f4) = true)
    {od5 an5 : Option Addr} {sl5 : Array (Option Value)} {oc5 kV5 dc5 pm5 cd5 ct5 : Value} {f5 : Addr}
    (a5 : PySem.W.nsIn K mainGlobals "is_number" = some (some (.ref f5))) (l5 : K.lookup f5 = some ⟨oc5, od5, .func (PySem.W.fnOf "is_number" "is_number" (defArgs s_p_is_number) (defBody s_p_is_number) (defScope s_p_is_number) .none kV5 dc5 pm5 an5 cd5 ct5), sl5⟩) (c5 : PySem.W.codeIn K cd5 "is_number" = true) (k5 : PySem.W.keepIn K (.ref f5) = true)
    {od6 an6 : Option Addr} {sl6 : Array (Option Value)} {oc6 kV6 dc6 pm6 cd6 ct6 : Value} {f6 : Addr}
    (a6 : PySem.W.nsIn K mainGlobals "shows_most" = some (some (.ref f6))) (l6 : K.lookup f6 = some ⟨oc6, od6, .func (PySem.W.fnOf "shows_most" "shows_most" (defArgs s_p_shows_most) (defBody s_p_shows_most) (defScope s_p_shows_most) .none kV6 dc6 pm6 an6 cd6 ct6), sl6⟩) (c6 : PySem.W.codeIn K cd6 "shows_most" = true) (k6 : PySem.W.keepIn K (.ref f6) = true)
    {od7 an7 : Option Addr} {sl7 : Array (Option Value)} {oc7 kV7 dc7 pm7 cd7 ct7 : Value} {f7 : Addr}
    (a7 : PySem.W.nsIn K mainGlobals "_is_bound_of" = some (some (.ref f7))) (l7 : K.lookup f7 = some ⟨oc7, od7, .func (PySem.W.fnOf "_is_bound_of" "_is_bound_of" (defArgs s_p__is_bound_of) (defBody s_p__is_bound_of) (defScope s_p__is_bound_of) .none kV7 dc7 pm7 an7 cd7 ct7), sl7⟩) (c7 : PySem.W.codeIn K cd7 "_is_bound_of" = true) (k7 : PySem.W.keepIn K (.ref f7) = true)
    {od8 an8 : Option Addr} {sl8 : Array (Option Value)} {oc8 kV8 dc8 pm8 cd8 ct8 : Value} {f8 : Addr}
    (a8 : PySem.W.nsIn K mainGlobals "most_struck" = some (some (.ref f8))) (l8 : K.lookup f8 = some ⟨oc8, od8, .func (PySem.W.fnOf "most_struck" "most_struck" (defArgs s_p_most_struck) (defBody s_p_most_struck) (defScope s_p_most_struck) .none kV8 dc8 pm8 an8 cd8 ct8), sl8⟩) (c8 : PySem.W.codeIn K cd8 "most_struck" = true) (k8 : PySem.W.keepIn K (.ref f8) = true)
    {od9 an9 : Option Addr} {sl9 : Array (Option Value)} {oc9 kV9 dc9 pm9 cd9 ct9 : Value} {f9 : Addr}
    (a9 : PySem.W.nsIn K mainGlobals "_most_taken" = some (some (.ref f9))) (l9 : K.lookup f9 = some ⟨oc9, od9, .func (PySem.W.fnOf "_most_taken" "_most_taken" (defArgs s_p__most_taken) (defBody s_p__most_taken) (defScope s_p__most_taken) .none kV9 dc9 pm9 an9 cd9 ct9), sl9⟩) (c9 : PySem.W.codeIn K cd9 "_most_taken" = true) (k9 : PySem.W.keepIn K (.ref f9) = true)
    {od10 an10 : Option Addr} {sl10 : Array (Option Value)} {oc10 kV10 dc10 pm10 cd10 ct10 : Value} {f10 : Addr}
    (a10 : PySem.W.nsIn K mainGlobals "_tight_bound" = some (some (.ref f10))) (l10 : K.lookup f10 = some ⟨oc10, od10, .func (PySem.W.fnOf "_tight_bound" "_tight_bound" (defArgs s_p__tight_bound) (defBody s_p__tight_bound) (defScope s_p__tight_bound) .none kV10 dc10 pm10 an10 cd10 ct10), sl10⟩) (c10 : PySem.W.codeIn K cd10 "_tight_bound" = true) (k10 : PySem.W.keepIn K (.ref f10) = true)
    {od11 an11 : Option Addr} {sl11 : Array (Option Value)} {oc11 kV11 dc11 pm11 cd11 ct11 : Value} {f11 : Addr}
    (a11 : PySem.W.nsIn K mainGlobals "_law_cell_at" = some (some (.ref f11))) (l11 : K.lookup f11 = some ⟨oc11, od11, .func (PySem.W.fnOf "_law_cell_at" "_law_cell_at" (defArgs s_l_cell_at) (defBody s_l_cell_at) (defScope s_l_cell_at) .none kV11 dc11 pm11 an11 cd11 ct11), sl11⟩) (c11 : PySem.W.codeIn K cd11 "_law_cell_at" = true) (k11 : PySem.W.keepIn K (.ref f11) = true)
    {od12 an12 : Option Addr} {sl12 : Array (Option Value)} {oc12 kV12 dc12 pm12 cd12 ct12 : Value} {f12 : Addr}
    (a12 : PySem.W.nsIn K mainGlobals "_law_box" = some (some (.ref f12))) (l12 : K.lookup f12 = some ⟨oc12, od12, .func (PySem.W.fnOf "_law_box" "_law_box" (defArgs s_l_box) (defBody s_l_box) (defScope s_l_box) .none kV12 dc12 pm12 an12 cd12 ct12), sl12⟩) (c12 : PySem.W.codeIn K cd12 "_law_box" = true) (k12 : PySem.W.keepIn K (.ref f12) = true)
    {od13 an13 : Option Addr} {sl13 : Array (Option Value)} {oc13 kV13 dc13 pm13 cd13 ct13 : Value} {f13 : Addr}
    (a13 : PySem.W.nsIn K mainGlobals "_law_take" = some (some (.ref f13))) (l13 : K.lookup f13 = some ⟨oc13, od13, .func (PySem.W.fnOf "_law_take" "_law_take" (defArgs s_l_take) (defBody s_l_take) (defScope s_l_take) .none kV13 dc13 pm13 an13 cd13 ct13), sl13⟩) (c13 : PySem.W.codeIn K cd13 "_law_take" = true) (k13 : PySem.W.keepIn K (.ref f13) = true)
    {od14 an14 : Option Addr} {sl14 : Array (Option Value)} {oc14 kV14 dc14 pm14 cd14 ct14 : Value} {f14 : Addr}
    (a14 : PySem.W.nsIn K mainGlobals "_law_ladles" = some (some (.ref f14))) (l14 : K.lookup f14 = some ⟨oc14, od14, .func (PySem.W.fnOf "_law_ladles" "_law_ladles" (defArgs s_l_ladles) (defBody s_l_ladles) (defScope s_l_ladles) .none kV14 dc14 pm14 an14 cd14 ct14), sl14⟩) (c14 : PySem.W.codeIn K cd14 "_law_ladles" = true) (k14 : PySem.W.keepIn K (.ref f14) = true)
    {od15 an15 : Option Addr} {sl15 : Array (Option Value)} {oc15 kV15 dc15 pm15 cd15 ct15 : Value} {f15 : Addr}
    (a15 : PySem.W.nsIn K mainGlobals "_law_day" = some (some (.ref f15))) (l15 : K.lookup f15 = some ⟨oc15, od15, .func (PySem.W.fnOf "_law_day" "_law_day" (defArgs s_l_day) (defBody s_l_day) (defScope s_l_day) .none kV15 dc15 pm15 an15 cd15 ct15), sl15⟩) (c15 : PySem.W.codeIn K cd15 "_law_day" = true) (k15 : PySem.W.keepIn K (.ref f15) = true)
    {od16 an16 : Option Addr} {sl16 : Array (Option Value)} {oc16 kV16 dc16 pm16 cd16 ct16 : Value} {f16 : Addr}
    (a16 : PySem.W.nsIn K mainGlobals "_law_some_day" = some (some (.ref f16))) (l16 : K.lookup f16 = some ⟨oc16, od16, .func (PySem.W.fnOf "_law_some_day" "_law_some_day" (defArgs s_l_some_day) (defBody s_l_some_day) (defScope s_l_some_day) .none kV16 dc16 pm16 an16 cd16 ct16), sl16⟩) (c16 : PySem.W.codeIn K cd16 "_law_some_day" = true) (k16 : PySem.W.keepIn K (.ref f16) = true)
    {od17 an17 : Option Addr} {sl17 : Array (Option Value)} {oc17 kV17 dc17 pm17 cd17 ct17 : Value} {f17 : Addr}
    (a17 : PySem.W.nsIn K mainGlobals "_law_is_number" = some (some (.ref f17))) (l17 : K.lookup f17 = some ⟨oc17, od17, .func (PySem.W.fnOf "_law_is_number" "_law_is_number" (defArgs s_l_is_number) (defBody s_l_is_number) (defScope s_l_is_number) .none kV17 dc17 pm17 an17 cd17 ct17), sl17⟩) (c17 : PySem.W.codeIn K cd17 "_law_is_number" = true) (k17 : PySem.W.keepIn K (.ref f17) = true)
    {od18 an18 : Option Addr} {sl18 : Array (Option Value)} {oc18 kV18 dc18 pm18 cd18 ct18 : Value} {f18 : Addr}
    (a18 : PySem.W.nsIn K mainGlobals "_law_is_paper" = some (some (.ref f18))) (l18 : K.lookup f18 = some ⟨oc18, od18, .func (PySem.W.fnOf "_law_is_paper" "_law_is_paper" (defArgs s_l_is_paper) (defBody s_l_is_paper) (defScope s_l_is_paper) .none kV18 dc18 pm18 an18 cd18 ct18), sl18⟩) (c18 : PySem.W.codeIn K cd18 "_law_is_paper" = true) (k18 : PySem.W.keepIn K (.ref f18) = true)
    {od19 an19 : Option Addr} {sl19 : Array (Option Value)} {oc19 kV19 dc19 pm19 cd19 ct19 : Value} {f19 : Addr}
    (a19 : PySem.W.nsIn K mainGlobals "_law_bent" = some (some (.ref f19))) (l19 : K.lookup f19 = some ⟨oc19, od19, .func (PySem.W.fnOf "_law_bent" "_law_bent" (defArgs s_l_bent) (defBody s_l_bent) (defScope s_l_bent) .none kV19 dc19 pm19 an19 cd19 ct19), sl19⟩) (c19 : PySem.W.codeIn K cd19 "_law_bent" = true) (k19 : PySem.W.keepIn K (.ref f19) = true)
    {od20 an20 : Option Addr} {sl20 : Array (Option Value)} {oc20 kV20 dc20 pm20 cd20 ct20 : Value} {f20 : Addr}
    (a20 : PySem.W.nsIn K mainGlobals "_law_made" = some (some (.ref f20))) (l20 : K.lookup f20 = some ⟨oc20, od20, .func (PySem.W.fnOf "_law_made" "_law_made" (defArgs s_l_made) (defBody s_l_made) (defScope s_l_made) .none kV20 dc20 pm20 an20 cd20 ct20), sl20⟩) (c20 : PySem.W.codeIn K cd20 "_law_made" = true) (k20 : PySem.W.keepIn K (.ref f20) = true)
    {od21 an21 : Option Addr} {sl21 : Array (Option Value)} {oc21 kV21 dc21 pm21 cd21 ct21 : Value} {f21 : Addr}
    (a21 : PySem.W.nsIn K mainGlobals "_law_walked" = some (some (.ref f21))) (l21 : K.lookup f21 = some ⟨oc21, od21, .func (PySem.W.fnOf "_law_walked" "_law_walked" (defArgs s_l_walked) (defBody s_l_walked) (defScope s_l_walked) .none kV21 dc21 pm21 an21 cd21 ct21), sl21⟩) (c21 : PySem.W.codeIn K cd21 "_law_walked" = true) (k21 : PySem.W.keepIn K (.ref f21) = true)
    {od22 an22 : Option Addr} {sl22 : Array (Option Value)} {oc22 kV22 dc22 pm22 cd22 ct22 : Value} {f22 : Addr}
    (a22 : PySem.W.nsIn K mainGlobals "_law_otherwise" = some (some (.ref f22))) (l22 : K.lookup f22 = some ⟨oc22, od22, .func (PySem.W.fnOf "_law_otherwise" "_law_otherwise" (defArgs s_l_otherwise) (defBody s_l_otherwise) (defScope s_l_otherwise) .none kV22 dc22 pm22 an22 cd22 ct22), sl22⟩) (c22 : PySem.W.codeIn K cd22 "_law_otherwise" = true) (k22 : PySem.W.keepIn K (.ref f22) = true)
    {od23 an23 : Option Addr} {sl23 : Array (Option Value)} {oc23 kV23 dc23 pm23 cd23 ct23 : Value} {f23 : Addr}
    (a23 : PySem.W.nsIn K mainGlobals "law" = some (some (.ref f23))) (l23 : K.lookup f23 = some ⟨oc23, od23, .func (PySem.W.fnOf "law" "law" (defArgs s_p_law) (defBody s_p_law) (defScope s_p_law) .none kV23 dc23 pm23 an23 cd23 ct23), sl23⟩) (c23 : PySem.W.codeIn K cd23 "law" = true) (k23 : PySem.W.keepIn K (.ref f23) = true)
    (z_abs : PySem.W.nsIn K mainGlobals "abs" = some none)
    (z_bool : PySem.W.nsIn K mainGlobals "bool" = some none)
    (z_int : PySem.W.nsIn K mainGlobals "int" = some none)
    (z_isinstance : PySem.W.nsIn K mainGlobals "isinstance" = some none)
    (z_len : PySem.W.nsIn K mainGlobals "len" = some none)
    (z_list : PySem.W.nsIn K mainGlobals "list" = some none)
    (z_max : PySem.W.nsIn K mainGlobals "max" = some none)
    (z_min : PySem.W.nsIn K mainGlobals "min" = some none)
    (z_range : PySem.W.nsIn K mainGlobals "range" = some none)
    (z_repr : PySem.W.nsIn K mainGlobals "repr" = some none)
    (z_reversed : PySem.W.nsIn K mainGlobals "reversed" = some none)
    (z_str : PySem.W.nsIn K mainGlobals "str" = some none)
    (z_sum : PySem.W.nsIn K mainGlobals "sum" = some none)
    (z_tuple : PySem.W.nsIn K mainGlobals "tuple" = some none)
    {t_AHEAD_OF_ALL : Tok} (z_AHEAD_OF_ALL : PySem.W.nsIn K mainGlobals "AHEAD_OF_ALL" = some (some (.int (-1) t_AHEAD_OF_ALL)))
    : ∃ fd : FuncData, (∀ (s : Shared) (v : Value), BindsTo s fd ⟨[v], []⟩ [("_law_script", v)]) ∧ ∀ base : Heap, K.In base → base.Ns mainGlobals mg → FnG l.prog w K mg base 7 fa fd ["_law_script"] (sp_p_law K) := by
  have e := hfa.symm.trans (PySem.W.mg_of X G a23)
  cases e
  have F0 := fun_mk (st := s_p_places_in) l0 c0 k0
  have F1 := fun_mk (st := s_p_hours_in) l1 c1 k1
  have F2 := fun_mk (st := s_p_end_of) l2 c2 k2
  have F3 := fun_mk (st := s_p_bounds_at) l3 c3 k3
  have F4 := fun_mk (st := s_p_reached) l4 c4 k4
  have F5 := fun_mk (st := s_p_is_number) l5 c5 k5
  have F6 := fun_mk (st := s_p_shows_most) l6 c6 k6
  have F7 := fun_mk (st := s_p__is_bound_of) l7 c7 k7
  have F8 := fun_mk (st := s_p_most_struck) l8 c8 k8
  have F9 := fun_mk (st := s_p__most_taken) l9 c9 k9
  have F10 := fun_mk (st := s_p__tight_bound) l10 c10 k10
  have F11 := fun_mk (st := s_l_cell_at) l11 c11 k11
  have F12 := fun_mk (st := s_l_box) l12 c12 k12
  have F13 := fun_mk (st := s_l_take) l13 c13 k13
  have F14 := fun_mk (st := s_l_ladles) l14 c14 k14
  have F15 := fun_mk (st := s_l_day) l15 c15 k15
  have F16 := fun_mk (st := s_l_some_day) l16 c16 k16
  have F17 := fun_mk (st := s_l_is_number) l17 c17 k17
  have F18 := fun_mk (st := s_l_is_paper) l18 c18 k18
  have F19 := fun_mk (st := s_l_bent) l19 c19 k19
  have F20 := fun_mk (st := s_l_made) l20 c20 k20
  have F21 := fun_mk (st := s_l_walked) l21 c21 k21
  have F22 := fun_mk (st := s_l_otherwise) l22 c22 k22
  have F23 := fun_mk (st := s_p_law) l23 c23 k23
  let T : All K mg := ⟨_, _, ⟨F0, PySem.W.mg_of X G a0, F0.binds (ps := ["day"]) fun _ _ _ _ _ _ us hl => match us, hl with | [_], _ => rfl⟩, _, _, ⟨F1, PySem.W.mg_of X G a1, F1.binds (ps := ["day"]) fun _ _ _ _ _ _ us hl => match us, hl with | [_], _ => rfl⟩, _, _, ⟨F2, PySem.W.mg_of X G a2, F2.binds (ps := ["day"]) fun _ _ _ _ _ _ us hl => match us, hl with | [_], _ => rfl⟩, _, _, ⟨F3, PySem.W.mg_of X G a3, F3.binds (ps := ["day", "place", "hour"]) fun _ _ _ _ _ _ us hl => match us, hl with | [_, _, _], _ => rfl⟩, _, _, ⟨F4, PySem.W.mg_of X G a4, F4.binds (ps := ["taken", "bound"]) fun _ _ _ _ _ _ us hl => match us, hl with | [_, _], _ => rfl⟩, _, _, ⟨F5, PySem.W.mg_of X G a5, F5.binds (ps := ["thing"]) fun _ _ _ _ _ _ us hl => match us, hl with | [_], _ => rfl⟩, _, _, ⟨F6, PySem.W.mg_of X G a6, F6.binds (ps := ["day", "many", "thing"]) fun _ _ _ _ _ _ us hl => match us, hl with | [_, _, _], _ => rfl⟩, _, _, ⟨F7, PySem.W.mg_of X G a7, F7.binds (ps := ["thing", "lead"]) fun _ _ _ _ _ _ us hl => match us, hl with | [_, _], _ => rfl⟩, _, _, ⟨F8, PySem.W.mg_of X G a8, F8.binds (ps := ["day"]) fun _ _ _ _ _ _ us hl => match us, hl with | [_], _ => rfl⟩, _, _, ⟨F9, PySem.W.mg_of X G a9, F9.binds (ps := ["day"]) fun _ _ _ _ _ _ us hl => match us, hl with | [_], _ => rfl⟩, _, _, ⟨F10, PySem.W.mg_of X G a10, F10.binds (ps := ["day", "taken", "lead"]) fun _ _ _ _ _ _ us hl => match us, hl with | [_, _, _], _ => rfl⟩, _, _, ⟨F11, PySem.W.mg_of X G a11, F11.binds (ps := ["_law_script", "_law_k"]) fun _ _ _ _ _ _ us hl => match us, hl with | [_, _], _ => rfl⟩, _, _, ⟨F12, PySem.W.mg_of X G a12, F12.binds (ps := ["_law_script", "_law_k"]) fun _ _ _ _ _ _ us hl => match us, hl with | [_, _], _ => rfl⟩, _, _, ⟨F13, PySem.W.mg_of X G a13, F13.binds (ps := ["_law_box_here", "_law_many"]) fun _ _ _ _ _ _ us hl => match us, hl with | [_, _], _ => rfl⟩, _, _, ⟨F14, PySem.W.mg_of X G a14, F14.binds (ps := ["_law_box_here", "_law_hours", "_law_wide"]) fun _ _ _ _ _ _ us hl => match us, hl with | [_, _, _], _ => rfl⟩, _, _, ⟨F15, PySem.W.mg_of X G a15, F15.binds (ps := ["_law_box_here", "_law_hours", "_law_pots", "_law_wide"]) fun _ _ _ _ _ _ us hl => match us, hl with | [_, _, _, _], _ => rfl⟩, _, _, ⟨F16, PySem.W.mg_of X G a16, F16.binds (ps := ["_law_box_here"]) fun _ _ _ _ _ _ us hl => match us, hl with | [_], _ => rfl⟩, _, _, ⟨F17, PySem.W.mg_of X G a17, F17.binds (ps := ["_law_thing"]) fun _ _ _ _ _ _ us hl => match us, hl with | [_], _ => rfl⟩, _, _, ⟨F18, PySem.W.mg_of X G a18, F18.binds (ps := ["_law_day_here", "_law_many", "_law_thing"]) fun _ _ _ _ _ _ us hl => match us, hl with | [_, _, _], _ => rfl⟩, _, _, ⟨F19, PySem.W.mg_of X G a19, F19.binds (ps := ["_law_box_here", "_law_thing", "_law_deep"]) fun _ _ _ _ _ _ us hl => match us, hl with | [_, _, _], _ => rfl⟩, _, _, ⟨F20, PySem.W.mg_of X G a20, F20.binds (ps := ["_law_box_here", "_law_deep"]) fun _ _ _ _ _ _ us hl => match us, hl with | [_, _], _ => rfl⟩, _, _, ⟨F21, PySem.W.mg_of X G a21, F21.binds (ps := ["_law_box_here", "_law_day_here"]) fun _ _ _ _ _ _ us hl => match us, hl with | [_, _], _ => rfl⟩, _, _, ⟨F22, PySem.W.mg_of X G a22, F22.binds (ps := ["_law_box_here", "_law_paper"]) fun _ _ _ _ _ _ us hl => match us, hl with | [_, _], _ => rfl⟩, _, _, ⟨F23, PySem.W.mg_of X G a23, F23.binds (ps := ["_law_script"]) fun _ _ _ _ _ _ us hl => match us, hl with | [_], _ => rfl⟩, PySem.W.mg_none_of X G z_abs, PySem.W.mg_none_of X G z_bool, PySem.W.mg_none_of X G z_int, PySem.W.mg_none_of X G z_isinstance, PySem.W.mg_none_of X G z_len, PySem.W.mg_none_of X G z_list, PySem.W.mg_none_of X G z_max, PySem.W.mg_none_of X G z_min, PySem.W.mg_none_of X G z_range, PySem.W.mg_none_of X G z_repr, PySem.W.mg_none_of X G z_reversed, PySem.W.mg_none_of X G z_str, PySem.W.mg_none_of X G z_sum, PySem.W.mg_none_of X G z_tuple, _, PySem.W.mg_of X G z_AHEAD_OF_ALL⟩
  exact ⟨T.fd_p_law, fun s v => .of_eq rfl, fun base _ _ => ok_p_law T⟩
end KR
open PySem PySem.W PyProof.Rows
set_option maxRecDepth 100000 in
set_option maxHeartbeats 0 in
theorem PySem.Challenge.cw_kettlerow_k66_papers_spoilt_anywhere_holds : PySem.Challenge.rw_kettlerow_k66_papers_spoilt_anywhere.Holds := by
  w_on; o_law; k_head; (case hw => w_witness2)
  k_fill
  refine KR.walk_ofG (l := PySem.Challenge.rw_kettlerow_k66_papers_spoilt_anywhere) (n := 63) (k := 7) (x := "_law_script") (sp := fun w => KR.sp_p_law _) rfl (by decide) rfl ⟨rfl, by decide, by decide⟩ (fun w h Y => PySem.W.kIn_of Y) ?F (fun _ _ a ns hl _ hS => ⟨a, ns, rfl, hS, hl, fun _ => rfl⟩)
  case F =>
    intro w mg fa h KX G hmg
    refine' KR.all_mk KX G hmg ?a0 ?l0 ?c0 ?k0 ?a1 ?l1 ?c1 ?k1 ?a2 ?l2 ?c2 ?k2 ?a3 ?l3 ?c3 ?k3 ?a4 ?l4 ?c4 ?k4 ?a5 ?l5 ?c5 ?k5 ?a6 ?l6 ?c6 ?k6 ?a7 ?l7 ?c7 ?k7 ?a8 ?l8 ?c8 ?k8 ?a9 ?l9 ?c9 ?k9 ?a10 ?l10 ?c10 ?k10 ?a11 ?l11 ?c11 ?k11 ?a12 ?l12 ?c12 ?k12 ?a13 ?l13 ?c13 ?k13 ?a14 ?l14 ?c14 ?k14 ?a15 ?l15 ?c15 ?k15 ?a16 ?l16 ?c16 ?k16 ?a17 ?l17 ?c17 ?k17 ?a18 ?l18 ?c18 ?k18 ?a19 ?l19 ?c19 ?k19 ?a20 ?l20 ?c20 ?k20 ?a21 ?l21 ?c21 ?k21 ?a22 ?l22 ?c22 ?k22 ?a23 ?l23 ?c23 ?k23 ?z_abs ?z_bool ?z_int ?z_isinstance ?z_len ?z_list ?z_max ?z_min ?z_range ?z_repr ?z_reversed ?z_str ?z_sum ?z_tuple ?z_AHEAD_OF_ALL
    (case a0 => k_is)
    (case l0 => k_is)
    (case c0 => k_is)
    (case k0 => k_is)
    (case a1 => k_is)
    (case l1 => k_is)
    (case c1 => k_is)
    (case k1 => k_is)
    (case a2 => k_is)
    (case l2 => k_is)
    (case c2 => k_is)
    (case k2 => k_is)
    (case a3 => k_is)
    (case l3 => k_is)
    (case c3 => k_is)
    (case k3 => k_is)
    (case a4 => k_is)
    (case l4 => k_is)
    (case c4 => k_is)
    (case k4 => k_is)
    (case a5 => k_is)
    (case l5 => k_is)
    (case c5 => k_is)
    (case k5 => k_is)
    (case a6 => k_is)
    (case l6 => k_is)
    (case c6 => k_is)
    (case k6 => k_is)
    (case a7 => k_is)
    (case l7 => k_is)
    (case c7 => k_is)
    (case k7 => k_is)
    (case a8 => k_is)
    (case l8 => k_is)
    (case c8 => k_is)
    (case k8 => k_is)
    (case a9 => k_is)
    (case l9 => k_is)
    (case c9 => k_is)
    (case k9 => k_is)
    (case a10 => k_is)
    (case l10 => k_is)
    (case c10 => k_is)
    (case k10 => k_is)
    (case a11 => k_is)
    (case l11 => k_is)
    (case c11 => k_is)
    (case k11 => k_is)
    (case a12 => k_is)
    (case l12 => k_is)
    (case c12 => k_is)
    (case k12 => k_is)
    (case a13 => k_is)
    (case l13 => k_is)
    (case c13 => k_is)
    (case k13 => k_is)
    (case a14 => k_is)
    (case l14 => k_is)
    (case c14 => k_is)
    (case k14 => k_is)
    (case a15 => k_is)
    (case l15 => k_is)
    (case c15 => k_is)
    (case k15 => k_is)
    (case a16 => k_is)
    (case l16 => k_is)
    (case c16 => k_is)
    (case k16 => k_is)
    (case a17 => k_is)
    (case l17 => k_is)
    (case c17 => k_is)
    (case k17 => k_is)
    (case a18 => k_is)
    (case l18 => k_is)
    (case c18 => k_is)
    (case k18 => k_is)
    (case a19 => k_is)
    (case l19 => k_is)
    (case c19 => k_is)
    (case k19 => k_is)
    (case a20 => k_is)
    (case l20 => k_is)
    (case c20 => k_is)
    (case k20 => k_is)
    (case a21 => k_is)
    (case l21 => k_is)
    (case c21 => k_is)
    (case k21 => k_is)
    (case a22 => k_is)
    (case l22 => k_is)
    (case c22 => k_is)
    (case k22 => k_is)
    (case a23 => k_is)
    (case l23 => k_is)
    (case c23 => k_is)
    (case k23 => k_is)
    (case z_abs => k_is)
    (case z_bool => k_is)
    (case z_int => k_is)
    (case z_isinstance => k_is)
    (case z_len => k_is)
    (case z_list => k_is)
    (case z_max => k_is)
    (case z_min => k_is)
    (case z_range => k_is)
    (case z_repr => k_is)
    (case z_reversed => k_is)
    (case z_str => k_is)
    (case z_sum => k_is)
    (case z_tuple => k_is)
    (case z_AHEAD_OF_ALL => k_is)
#print axioms PySem.Challenge.cw_kettlerow_k66_papers_spoilt_anywhere_holds
