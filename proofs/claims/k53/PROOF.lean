import PyProof.Rows.All
import Wide.All
import OpenK.AllK
import Wide.FinOn
import HandS.ForMost
import HandS.Gcd
import HandS.Wide
import HandS.IsInst
import HandS.Zip
import HandS.More
import HandS.Style
import HandS.Rev
import HandS.MapJoin
import HandS.StrMore
import KE.GoesEnum
import KE.GoesMore
import KE.GoesZip
import HandS.Zip
import HandS.Walk
import PySem.Challenge.RW_kettlerow_k53_many_rounds
set_option Elab.async false
set_option linter.all false
set_option maxRecDepth 100000
set_option maxHeartbeats 4000000
/-! ### own rules and words, of no law -/
namespace KR
open PySem PySem.Spec PyProof.Rows L2

/-- * of any two ints whose product is told to fit -/
theorem op_mulX {X : Cx} : OpR X (binaryOp .Mult) (rI IntMulOk fun i j => .int (i * j)) := opI fun _ _ _ _ _ _ _ hc q => mul_int q hc
/-- // by any divisor but 0, to some three thousand figures -/
def DivOk (_ j : Int) : Prop := j ≠ 0 ∧ j.natAbs.log2 < 9000
theorem op_fdivX {X : Cx} : OpR X (binaryOp .FloorDiv) (rI DivOk fun i j => .int (i.fdiv j)) := opI fun _ _ _ _ _ _ _ hc q => floordiv_int hc.1 q (.inl (PyProof.noPylong_of_log2 hc.2))
theorem mulL {i j : Int} (h : i.natAbs < 2 ^ 64) : IntMulOk i j := CMul.ok (.inl ⟨by omega, by omega⟩)
theorem mulR {i j : Int} (h : j.natAbs < 2 ^ 64) : IntMulOk i j := CMul.ok (.inr ⟨by omega, by omega⟩)
theorem mulW {i j : Int} {a b : Nat} (ha : i.natAbs < 2 ^ a) (hb : j.natAbs < 2 ^ b) (h0 : 0 < a) (h1 : 0 < b) (h : a + b ≤ 1000000) : IntMulOk i j := (wide_mul ha hb h0 h1 h).ok
theorem divOk {i j : Int} {b : Nat} (h : j ≠ 0) (hb : j.natAbs < 2 ^ b) (h0 : 0 < b) (h9 : b ≤ 9000) : DivOk i j := ⟨h, Nat.lt_of_lt_of_le (PySem.Flt.log2_lt_of h0 hb) h9⟩
theorem add_lt {i j : Int} {a : Nat} (ha : i.natAbs < 2 ^ a) (hb : j.natAbs < 2 ^ a) : (i + j).natAbs < 2 ^ (a + 1) := by
  rw [Nat.pow_succ]
  omega
theorem sub_lt {i j : Int} {a : Nat} (ha : i.natAbs < 2 ^ a) (hb : j.natAbs < 2 ^ a) : (i - j).natAbs < 2 ^ (a + 1) := by
  rw [Nat.pow_succ]
  omega
theorem lt_up {i : Int} {a b : Nat} (ha : i.natAbs < 2 ^ a) (h : a ≤ b) : i.natAbs < 2 ^ b := Nat.lt_of_lt_of_le ha (Nat.pow_le_pow_right (by decide) h)
theorem b40 {n : Nat} (h : n < 10 ^ 40) : n < 2 ^ 200 := Nat.lt_trans h (by decide)
theorem b41 {n : Nat} (h : n ≤ 10 ^ 41) : n < 2 ^ 200 := Nat.lt_of_le_of_lt h (by decide)
theorem bit_lt {c : Prop} [Decidable c] : (if c then (1 : Int) else 0).natAbs < 2 ^ 64 := by split <;> decide
theorem bit_nn {c : Prop} [Decidable c] : (0 : Int) ≤ (if c then (1 : Int) else 0) := by split <;> decide
theorem bit_or {c : Prop} [Decidable c] : (if c then (1 : Int) else 0) = 0 ∨ (if c then (1 : Int) else 0) = 1 := by split <;> simp
theorem small {n : Nat} (h : n ≤ 100000) : n ≤ sizeLine := Nat.le_trans h (by decide)
theorem small' {n : Nat} (h : n < 100000) : n < sizeLine := Nat.lt_of_lt_of_le h (by decide)

/-! the heap but for one object that is written -/
/-- all that was tracked but p is as it was -/
def Fr (p : Addr) (H H' : Hp) : Prop := ∀ b o, b ≠ p → H b = some o → H' b = some o
theorem Fr.refl {p : Addr} {H : Hp} : Fr p H H := fun _ _ _ h => h
theorem Fr.trans {p : Addr} {H H1 H2 : Hp} (a : Fr p H H1) (b : Fr p H1 H2) : Fr p H H2 := fun c o n h => b c o n (a c o n h)
theorem Fr.of {p : Addr} {H H1 : Hp} (a : Same H H1) : Fr p H H1 := fun c o _ h => a c o h
theorem same_new {H : Hp} {p : Addr} {o : HO} (h : H p = none) : Same H (upd H p o) := fun b x e => by
  rw [upd_ne (ne_of_none e h)]
  exact e
theorem Fr.new {p q : Addr} {H H1 : Hp} {o : HO} (a : Fr p H H1) (h : H1 q = none) : Fr p H (upd H1 q o) := a.trans (.of (same_new h))
theorem Fr.put {p : Addr} {H H1 : Hp} {o : HO} (a : Fr p H H1) : Fr p H (upd H1 p o) := fun c x n h => by
  rw [upd_ne n]
  exact a c x n h
theorem Fr.put' {p q : Addr} {H H1 : Hp} {o : HO} (a : Fr p H H1) (h : H q = none) : Fr p H (upd H1 q o) := fun c x n e => by
  rw [upd_ne (ne_of_none e h)]
  exact a c x n e
/-- what is new there was new ahead of it, if the written one stands -/
theorem Fr.free {p q : Addr} {H H1 : Hp} {o : HO} (a : Fr p H H1) (hp : H1 p = some o) (h : H1 q = none) : H q = none := by
  cases e : H q with
  | none => rfl
  | some u =>
    have n : q ≠ p := fun z => by
      rw [z, hp] at h
      cases h
    rw [a q u n e] at h
    cases h

/-! a reading may be asked for more than is wanted; displays whose new heap is a letter -/
def clA (t : TA) : TA := fun σ H Q => ∃ Q0 : List V → Hp → Prop, (∀ xs H1, Q0 xs H1 → Q xs H1) ∧ t σ H Q0
theorem pa_cl {X : Cx} {es : List Expr} {t : TA} (h : PA X es t) : PA X es (clA t) := ⟨fun pos pins s σ H Q I ⟨Q0, m, q⟩ =>
  thn (h.run pos pins s σ H Q0 I q) fun us s1 ⟨xs, H1, I1, r, z⟩ => ⟨xs, H1, I1, r, m _ _ z⟩⟩
def tTupI (t : TA) : TE := fun σ H Q => t σ H fun xs H1 => Nat.ble xs.length 100000 = true ∧ ∀ p H', Same H1 H' → H1 p = none → H' p = some (.tup xs) → Q (.ref p) H'
def tLstI (t : TA) : TE := fun σ H Q => t σ H fun xs H1 => Nat.ble xs.length 100000 = true ∧ ∀ p H', Same H1 H' → H1 p = none → H' p = some (.lst xs) → Q (.ref p) H'
theorem pe_tupI {X : Cx} {es : List Expr} {k : Nat} {pos : Pos} {t : TA} (h : PA X es t) : PE X (.Tuple es k pos) (tTupI t) := ⟨fun pins s σ H Q I q =>
  (pe_tup (pa_cl h)).run pins s σ H Q I ⟨_, fun _ _ ⟨z, w⟩ => ⟨small (Nat.le_of_ble_eq_true z), fun p hp => w p _ (same_new hp) hp upd_same⟩, q⟩⟩
theorem pe_lstI {X : Cx} {es : List Expr} {pos : Pos} {t : TA} (h : PA X es t) : PE X (.List es pos) (tLstI t) := ⟨fun pins s σ H Q I q =>
  (pe_lst (pa_cl h)).run pins s σ H Q I ⟨_, fun _ _ ⟨z, w⟩ => ⟨small (Nat.le_of_ble_eq_true z), fun p hp => w p _ (same_new hp) hp upd_same⟩, q⟩⟩
/-- ways that join behind a statement: R is what they come to -/
def tJ (t : TS) : TS := fun D σ H => ∃ R : L2.St → Hp → Prop, (∀ σ' H', R σ' H' → D.nx σ' H') ∧ t { D with nx := R } σ H
theorem ps_J {X : Cx} {st : Stmt} {t : TS} (h : PS X st t) : PS X st (tJ t) := ⟨fun pins s σ H D I ⟨R, m, q⟩ => thn (h.run pins s σ H { D with nx := R } I q) fun f s1 z =>
  match f, z with
  | .next, ⟨σ', H', J, r⟩ => ⟨σ', H', J, m _ _ r⟩
  | .ret _, z => z
  | .brk, z => z
  | .cont, z => z⟩
theorem ite_bT {b : Bool} {A B : Prop} (h : b = true) (q : A) : if b = true then A else B := by
  rw [if_pos h]
  exact q
theorem ite_bF {b : Bool} {A B : Prop} (h : b = false) (q : B) : if b = true then A else B := by
  rw [if_neg (by rw [h]; exact Bool.false_ne_true)]
  exact q
theorem ite_iT {i j : Int} {A B : Prop} (h : i = j) (q : A) : if decide (V.int i = V.int j) = true then A else B := by
  rw [if_pos (decide_eq_true (congrArg V.int h))]
  exact q
theorem ite_iF {i j : Int} {A B : Prop} (h : i ≠ j) (q : B) : if decide (V.int i = V.int j) = true then A else B := by
  rw [if_neg (by rw [decide_eq_false fun z => h (V.int.inj z)]; exact Bool.false_ne_true)]
  exact q
theorem ite_nT {i j : Int} {A B : Prop} (h : i ≠ j) (q : A) : if (!decide (V.int i = V.int j)) = true then A else B := by
  rw [if_pos (by rw [decide_eq_false fun z => h (V.int.inj z)] <;> rfl)]
  exact q
theorem ite_nF {i j : Int} {A B : Prop} (h : i = j) (q : B) : if (!decide (V.int i = V.int j)) = true then A else B := by
  rw [if_neg (by rw [decide_eq_true (congrArg V.int h)]; exact Bool.false_ne_true)]
  exact q
/-- the law's box of draws: n is more than have been mixed -/
def BoxAt (H : Hp) (p : Addr) (n : Nat) : Prop := ∃ a b c : Int, H p = some (.lst [.int a, .int b, .int c]) ∧ 0 ≤ a ∧ 0 ≤ b ∧ b < 2 ^ 62 ∧ 0 ≤ c ∧ c ≤ (n : Int)
theorem BoxAt.mono {H : Hp} {p : Addr} {n m : Nat} (h : BoxAt H p n) (le : n ≤ m) : BoxAt H p m := by
  obtain ⟨a, b, c, h1, h2, h3, h4, h5, h6⟩ := h
  exact ⟨a, b, c, h1, h2, h3, h4, h5, by omega⟩
theorem BoxAt.same {H H' : Hp} {p : Addr} {n : Nat} (h : BoxAt H p n) (s : Same H H') : BoxAt H' p n := by
  obtain ⟨a, b, c, h1, h2⟩ := h
  exact ⟨a, b, c, s _ _ h1, h2⟩
theorem BoxAt.ne {H : Hp} {p q : Addr} {n : Nat} {xs : List V} (h : BoxAt H p n) (t : H q = some (.tup xs)) : q ≠ p := by
  obtain ⟨a, b, c, h1, _⟩ := h
  exact ne_of t h1 (by intro z; cases z)
theorem BoxAt.some {H : Hp} {p : Addr} {n : Nat} (h : BoxAt H p n) : ∃ o, H p = some o := by
  obtain ⟨a, b, c, h1, _⟩ := h
  exact ⟨_, h1⟩
/-- a tuple stays -/
theorem Fr.tup {p q : Addr} {H H1 : Hp} {n : Nat} {xs : List V} (a : Fr p H H1) (hb : BoxAt H p n) (t : H q = some (.tup xs)) : H1 q = some (.tup xs) := a q _ (hb.ne t) t
/-- a pair of ints -/
def PrAt (H : Hp) (q : Addr) (t b : Int) : Prop := H q = some (.tup [.int t, .int b])
theorem at0 {x : V} {xs : List V} : atI (x :: xs) 0 = some x := atI_nat (j := 0) rfl
theorem at1 {x y : V} {xs : List V} : atI (x :: y :: xs) 1 = some y := atI_nat (j := 1) rfl
theorem at2 {x y z : V} {xs : List V} : atI (x :: y :: z :: xs) 2 = some z := atI_nat (j := 2) rfl

/-! fractions -/
/-- the law's own lowest terms -/
def low (t b : Int) : Int × Int := (t / (Nat.gcd t.natAbs b.natAbs : Nat) * (if b < 0 then -1 else 1), (b.natAbs : Int) / (Nat.gcd t.natAbs b.natAbs : Nat))
structure IsLow (t b : Int) : Prop where
  pos : 0 < b
  cop : Nat.gcd t.natAbs b.natAbs = 1
theorem dvd_mul {a b : Int} (h : a ∣ b) : a * (b / a) = b := Int.mul_ediv_cancel' h
theorem low_facts (t b : Int) (hb : b ≠ 0) : IsLow (low t b).1 (low t b).2 ∧ t * (low t b).2 = (low t b).1 * b := by
  have hg : 0 < Nat.gcd t.natAbs b.natAbs := Nat.gcd_pos_of_pos_right _ (by omega)
  generalize e : Nat.gcd t.natAbs b.natAbs = g at hg
  have d1 : g ∣ t.natAbs := e ▸ Nat.gcd_dvd_left _ _
  have d2 : g ∣ b.natAbs := e ▸ Nat.gcd_dvd_right _ _
  obtain ⟨x, hx⟩ := d1
  obtain ⟨y, hy⟩ := d2
  have hc : Nat.gcd x y = 1 := by
    rw [hx, hy, Nat.gcd_mul_left] at e
    exact Nat.eq_of_mul_eq_mul_left hg (by rw [e, Nat.mul_one])
  have hy0 : 0 < y := by
    rcases Nat.eq_zero_or_pos y with z | z
    · rw [z, Nat.mul_zero] at hy
      omega
    · exact z
  have h2 : (low t b).2 = (y : Int) := by
    show (b.natAbs : Int) / (Nat.gcd t.natAbs b.natAbs : Nat) = (y : Int)
    rw [e, hy, Int.natCast_mul]
    exact Int.mul_ediv_cancel_left _ (by omega)
  have ht : t = (g : Int) * x ∨ t = -((g : Int) * x) := by
    have q : (t.natAbs : Int) = (g : Int) * x := by rw [hx, Int.natCast_mul]
    omega
  have hbb : (b.natAbs : Int) = (g : Int) * y := by rw [hy, Int.natCast_mul]
  have h1 : (low t b).1 = (t / (g : Int)) * (if b < 0 then -1 else 1) := by
    show t / (Nat.gcd t.natAbs b.natAbs : Nat) * (if b < 0 then -1 else 1) = _
    rw [e]
  have h3 : t / (g : Int) = x ∨ t / (g : Int) = -(x : Int) := by
    rcases ht with q | q
    · left
      rw [q]
      exact Int.mul_ediv_cancel_left _ (by omega)
    · right
      rw [q, ← Int.mul_neg]
      exact Int.mul_ediv_cancel_left _ (by omega)
  have h4 : (g : Int) * (t / (g : Int)) = t := dvd_mul (by
    rcases ht with q | q
    · exact ⟨x, q⟩
    · exact ⟨-x, by rw [q, Int.mul_neg]⟩)
  refine ⟨⟨by rw [h2]; omega, ?_⟩, ?_⟩
  · rw [h2, h1]
    have q : ((t / (g : Int)) * (if b < 0 then -1 else 1)).natAbs = x := by
      split <;> rcases h3 with z | z <;> rw [z] <;> omega
    rw [q]
    exact hc
  · rw [h2, h1]
    by_cases c : b < 0
    · rw [if_pos c]
      have q : b = -((g : Int) * y) := by omega
      grind
    · rw [if_neg c]
      have q : b = (g : Int) * y := by omega
      grind
theorem low_pos (t b : Int) (hb : b ≠ 0) : 0 < (low t b).2 := (low_facts t b hb).1.pos
/-- two fractions in lowest terms that are alike across are one -/
theorem isLow_uniq {x y u v : Int} (h : IsLow x y) (k : IsLow u v) (e : x * v = u * y) : x = u ∧ y = v := by
  have h1 := h.pos
  have k1 := k.pos
  have e1 : x.natAbs * v.natAbs = u.natAbs * y.natAbs := by rw [← Int.natAbs_mul, ← Int.natAbs_mul, e]
  have d1 : y.natAbs ∣ v.natAbs := (Nat.Coprime.symm h.cop).dvd_of_dvd_mul_left (by rw [e1]; exact Nat.dvd_mul_left _ _)
  have d2 : v.natAbs ∣ y.natAbs := (Nat.Coprime.symm k.cop).dvd_of_dvd_mul_left (by rw [← e1]; exact Nat.dvd_mul_left _ _)
  have e2 : y.natAbs = v.natAbs := Nat.dvd_antisymm d1 d2
  have e3 : y = v := by omega
  subst e3
  exact ⟨Int.eq_of_mul_eq_mul_right (by omega) e, rfl⟩
theorem low_eq {t b x y : Int} (hb : b ≠ 0) (h : IsLow x y) (e : t * y = x * b) : low t b = (x, y) := by
  obtain ⟨h1, h2⟩ := low_facts t b hb
  have q : (low t b).1 * y = x * (low t b).2 := by
    have z : b * ((low t b).1 * y) = b * (x * (low t b).2) := by grind
    exact Int.eq_of_mul_eq_mul_left hb z
  obtain ⟨a1, a2⟩ := isLow_uniq h1 h q
  exact Prod.ext a1 a2
theorem low_id {t b : Int} (h : IsLow t b) : low t b = (t, b) := low_eq (by have := h.pos; omega) h rfl
theorem low_le (t b : Int) : (low t b).1.natAbs ≤ t.natAbs ∧ (low t b).2.natAbs ≤ b.natAbs := by
  generalize e : Nat.gcd t.natAbs b.natAbs = g
  have h1 : (low t b).1 = (t / (g : Int)) * (if b < 0 then -1 else 1) := by
    show t / (Nat.gcd t.natAbs b.natAbs : Nat) * (if b < 0 then -1 else 1) = _
    rw [e]
  have h2 : (low t b).2 = (b.natAbs : Int) / (g : Int) := by
    show (b.natAbs : Int) / (Nat.gcd t.natAbs b.natAbs : Nat) = _
    rw [e]
  have d1 : (g : Int) ∣ t := e ▸ Int.ofNat_dvd_left.mpr (Nat.gcd_dvd_left _ _)
  constructor
  · rw [h1]
    have q : (t / (g : Int) * (if b < 0 then -1 else 1)).natAbs = (t / (g : Int)).natAbs := by
      split <;> omega
    rw [q]
    obtain ⟨z, rfl⟩ := d1
    by_cases c : (g : Int) = 0
    · rw [c, Int.zero_mul, Int.zero_ediv]
      omega
    · rw [Int.mul_ediv_cancel_left _ c, Int.natAbs_mul]
      exact Nat.le_mul_of_pos_left _ (by omega)
  · rw [h2, ← Int.natCast_ediv, Int.natAbs_natCast]
    exact Nat.div_le_self _ _
theorem low_lt {t b : Int} {n : Nat} (h1 : t.natAbs < 2 ^ n) (h2 : b.natAbs < 2 ^ n) : (low t b).1.natAbs < 2 ^ n ∧ (low t b).2.natAbs < 2 ^ n :=
  ⟨Nat.lt_of_le_of_lt (low_le t b).1 h1, Nat.lt_of_le_of_lt (low_le t b).2 h2⟩
/-- a fraction in lowest terms, of fewer than sixty figures -/
structure FrAt (H : Hp) (x : Addr) (a b : Int) : Prop where
  at_ : H x = some (.tup [.int a, .int b])
  low : IsLow a b
  ta : a.natAbs < 2 ^ 200
  tb : b.natAbs < 2 ^ 200
theorem FrAt.same {H H' : Hp} {x : Addr} {a b : Int} (h : FrAt H x a b) (s : Same H H') : FrAt H' x a b := ⟨s _ _ h.at_, h.low, h.ta, h.tb⟩
theorem FrAt.fr {H H' : Hp} {x p : Addr} {a b : Int} {n : Nat} (h : FrAt H x a b) (B : BoxAt H p n) (f : Fr p H H') : FrAt H' x a b := ⟨f.tup B h.at_, h.low, h.ta, h.tb⟩
/-- a new pair of two numbers' lowest terms -/
def sp_low : Sp := fun vs H Q _ => ∃ t b : Int, vs = [.int t, .int b] ∧ b ≠ 0 ∧ t.natAbs < 2 ^ 2000 ∧ b.natAbs < 2 ^ 2000 ∧ ∀ p H', Same H H' → H p = none → H' p = some (.tup [.int (low t b).1, .int (low t b).2]) → Q (.ref p) H'
/-- two pairs in, low of what f and g say of them out -/
def sp_two (K : PySem.W.Frag) (f g : Int → Int → Int → Int → Int) : Sp := fun vs H Q _ => ∃ (x y : Addr) (a b c d : Int), vs = [.ref x, .ref y] ∧ SqT K H x [.int a, .int b] ∧ SqT K H y [.int c, .int d] ∧ g a b c d ≠ 0 ∧ a.natAbs < 2 ^ 900 ∧ b.natAbs < 2 ^ 900 ∧ c.natAbs < 2 ^ 900 ∧ d.natAbs < 2 ^ 900 ∧
  ∀ p H', Same H H' → H p = none → H' p = some (.tup [.int (low (f a b c d) (g a b c d)).1, .int (low (f a b c d) (g a b c d)).2]) → Q (.ref p) H'
/-- by a divisor turned about -/
theorem fdiv_neg {t g : Int} (h : g ∣ t) : t.fdiv (-g) = t / g * -1 := by
  obtain ⟨z, rfl⟩ := h
  by_cases c : g = 0
  · subst c
    simp
  · rw [Int.mul_ediv_cancel_left _ c, show g * z = (-g) * (-z) by grind, Int.mul_fdiv_cancel_left _ (by omega)]
    omega

/-! data of the law's own making, n deep -/
theorem Same.put {H0 H : Hp} {D : Addr} {o : HO} (s : Same H0 H) (h : H0 D = none) : Same H0 (upd H D o) := fun b u e => by
  rw [upd_ne (ne_of_none e h)]
  exact s b u e
inductive Dt (H : Hp) : Nat → V → PyData → Prop
  | non (n : Nat) : Dt H (n + 1) .non .none
  | bl (n : Nat) (b : Bool) : Dt H (n + 1) (.bl b) (.bool b)
  | int (n : Nat) (i : Int) : Dt H (n + 1) (.int i) (.int i)
  | str (n : Nat) (x : Str) (ok : PyData.canLay0 (.str x) = true) : Dt H (n + 1) (.str x) (.str x)
  | lst {n : Nat} {a : Addr} {xs : List V} {ds : List PyData} : H a = some (.lst xs) → xs.length = ds.length → xs.length ≤ 100000 → (∀ (i : Nat) (x : V) (d : PyData), xs[i]? = some x → ds[i]? = some d → Dt H n x d) → Dt H (n + 1) (.ref a) (.list ds)
  | tup {n : Nat} {a : Addr} {xs : List V} {ds : List PyData} : H a = some (.tup xs) → xs.length = ds.length → xs.length ≤ 100000 → (∀ (i : Nat) (x : V) (d : PyData), xs[i]? = some x → ds[i]? = some d → Dt H n x d) → Dt H (n + 1) (.ref a) (.tuple ds)
theorem Dt.same {H H' : Hp} (s : Same H H') : ∀ {n : Nat} {v : V} {d : PyData}, Dt H n v d → Dt H' n v d := by
  intro n v d h
  induction h with
  | non n => exact .non n
  | bl n b => exact .bl n b
  | int n i => exact .int n i
  | str n x ok => exact .str n x ok
  | lst h1 h2 h3 _ ih => exact .lst (s _ _ h1) h2 h3 ih
  | tup h1 h2 h3 _ ih => exact .tup (s _ _ h1) h2 h3 ih
theorem Dt.up {H : Hp} {n m : Nat} {v : V} {d : PyData} (h : Dt H n v d) : n ≤ m → Dt H m v d := by
  intro le
  induction h generalizing m with
  | non n => obtain ⟨k, rfl⟩ : ∃ k, m = k + 1 := ⟨m - 1, by omega⟩; exact .non k
  | bl n b => obtain ⟨k, rfl⟩ : ∃ k, m = k + 1 := ⟨m - 1, by omega⟩; exact .bl k b
  | int n i => obtain ⟨k, rfl⟩ : ∃ k, m = k + 1 := ⟨m - 1, by omega⟩; exact .int k i
  | str n x ok => obtain ⟨k, rfl⟩ : ∃ k, m = k + 1 := ⟨m - 1, by omega⟩; exact .str k x ok
  | lst h1 h2 h3 _ ih => obtain ⟨k, rfl⟩ : ∃ k, m = k + 1 := ⟨m - 1, by omega⟩; exact .lst h1 h2 h3 fun i x d a b => ih i x d a b (by omega)
  | tup h1 h2 h3 _ ih => obtain ⟨k, rfl⟩ : ∃ k, m = k + 1 := ⟨m - 1, by omega⟩; exact .tup h1 h2 h3 fun i x d a b => ih i x d a b (by omega)
theorem Dt.tup2 {H : Hp} {n : Nat} {a : Addr} {x y : V} {d e : PyData} (h : H a = some (.tup [x, y])) (h1 : Dt H n x d) (h2 : Dt H n y e) : Dt H (n + 1) (.ref a) (.tuple [d, e]) :=
  .tup h rfl (by show 2 ≤ 100000; decide) fun i u v hu hv => match i, hu, hv with
    | 0, hu, hv => by cases hu; cases hv; exact h1
    | 1, hu, hv => by cases hu; cases hv; exact h2
    | i + 2, hu, _ => by simp at hu
theorem Dt.pair {H : Hp} {a : Addr} {t b : Int} (h : H a = some (.tup [.int t, .int b])) : Dt H 2 (.ref a) (.tuple [.int t, .int b]) := .tup2 h (.int 0 t) (.int 0 b)
theorem Dt.lst2 {H : Hp} {n : Nat} {a : Addr} {x y : V} {d e : PyData} (h : H a = some (.lst [x, y])) (h1 : Dt H n x d) (h2 : Dt H n y e) : Dt H (n + 1) (.ref a) (.list [d, e]) :=
  .lst h rfl (by show 2 ≤ 100000; decide) fun i u v hu hv => match i, hu, hv with
    | 0, hu, hv => by cases hu; cases hv; exact h1
    | 1, hu, hv => by cases hu; cases hv; exact h2
    | i + 2, hu, _ => by simp at hu
theorem Dt.lst3 {H : Hp} {n : Nat} {a : Addr} {x y z : V} {d e f : PyData} (h : H a = some (.lst [x, y, z])) (h1 : Dt H n x d) (h2 : Dt H n y e) (h3 : Dt H n z f) : Dt H (n + 1) (.ref a) (.list [d, e, f]) :=
  .lst h rfl (by show 3 ≤ 100000; decide) fun i u v hu hv => match i, hu, hv with
    | 0, hu, hv => by cases hu; cases hv; exact h1
    | 1, hu, hv => by cases hu; cases hv; exact h2
    | 2, hu, hv => by cases hu; cases hv; exact h3
    | i + 3, hu, _ => by simp at hu
/-- a comprehension over pairs: J hands out a new tuple of px i and py i at each of n turns, while St stands -/
theorem lc_pair {J : It} {n : Nat} {St : Hp → Prop} {px py : Nat → V} (hgo : ∀ i H, i < n → St H → J.go i H) (hst : ∀ H, St H → J.stop n H)
    (hy : ∀ i H v H', i < n → St H → J.yld i H v H' → ∃ T, v = .ref T ∧ H T = none ∧ H' = upd H T (.tup [px i, py i]))
    {g : TG} {tt : TT} {te : TE} {vs : List Nat} {σ : L2.St} {H1 : Hp} {D : Addr} {Qd : Hp → Prop} (Pv : Nat → Hp → Prop) (h0 : Pv 0 (upd H1 D (.lst []))) (hq : ∀ i H, i ≤ n → Pv i H → St H)
    (hs : ∀ i T H, i < n → Pv i H → H T = none → g (.ref T) (wipe σ vs) (upd H T (.tup [px i, py i])) fun σ2 H2 => wipe σ2 vs = wipe σ vs ∧ tt σ2 H2 fun b H3 =>
      if b = true then te σ2 H3 fun y H4 => ∃ acc, H4 D = some (.lst acc) ∧ acc.length < sizeLine ∧ Pv (i + 1) (upd H4 D (.lst (acc ++ [y]))) else Pv (i + 1) H3) (hd : ∀ H, Pv n H → Qd H) :
    ∃ W : Nat → Nat → Hp → Prop, (∃ m, W 0 m (upd H1 D (.lst []))) ∧ ∀ i m H, W i m H →
      (J.stop i H ∧ Qd H) ∨ (J.go i H ∧ ∃ Nx : Hp → Prop, (∀ H', Nx H' → ∃ m', m' < m ∧ W (i + 1) m' H') ∧ ∀ x H', J.yld i H x H' → g x (wipe σ vs) H' fun σ2 H2 => wipe σ2 vs = wipe σ vs ∧ tt σ2 H2 fun b H3 =>
        if b = true then te σ2 H3 fun y H4 => ∃ acc, H4 D = some (.lst acc) ∧ acc.length < sizeLine ∧ Nx (upd H4 D (.lst (acc ++ [y]))) else Nx H3) := by
  refine ⟨fun i m H => i + m = n ∧ Pv i H, ⟨n, by omega, h0⟩, fun i m H w => ?_⟩
  obtain ⟨e, p⟩ := w
  have q := hq i H (by omega) p
  rcases Nat.lt_or_ge i n with lt | ge
  · refine Or.inr ⟨hgo i H lt q, Pv (i + 1), fun H' p' => ⟨m - 1, by omega, by omega, p'⟩, fun x H' y => ?_⟩
    obtain ⟨T, rfl, nT, rfl⟩ := hy i H x H' lt q y
    exact hs i T H lt p nT
  · obtain rfl : i = n := by omega
    exact Or.inl ⟨hst H q, hd H p⟩
theorem zipL_go {K : PySem.W.Frag} {a b : Addr} {xs ys : List V} {n : Nat} (h1 : xs.length = n) (h2 : ys.length = n) {i : Nat} {H : Hp} (lt : i < n) (q : SqL K H a xs ∧ SqL K H b ys) : (Itz K a b).go i H :=
  ⟨xs, ys, _, _, q.1, q.2, List.getElem?_eq_getElem (by omega), List.getElem?_eq_getElem (by omega)⟩
theorem zipL_stop {K : PySem.W.Frag} {a b : Addr} {xs ys : List V} {n : Nat} (h1 : xs.length = n) {H : Hp} (q : SqL K H a xs ∧ SqL K H b ys) : (Itz K a b).stop n H := ⟨xs, ys, q.1, q.2, .inl (by omega)⟩
theorem zipL_yld {K : PySem.W.Frag} {a b : Addr} {xs ys : List V} {n : Nat} (h1 : xs.length = n) (h2 : ys.length = n) {i : Nat} {H H' : Hp} {v : V} (lt : i < n) (q : SqL K H a xs ∧ SqL K H b ys) (y : (Itz K a b).yld i H v H') :
    ∃ T, v = .ref T ∧ H T = none ∧ H' = upd H T (.tup [xs.getD i .non, ys.getD i .non]) := by
  obtain ⟨T, x, y, rfl, nT, rfl, f1, f2⟩ := y
  refine ⟨T, rfl, nT, ?_⟩
  rw [List.getD_eq_getElem?_getD, List.getD_eq_getElem?_getD, f1 _ q.1, f2 _ q.2] <;> rfl
theorem zipT_go {K : PySem.W.Frag} {a b : Addr} {xs ys : List V} {n : Nat} (h1 : xs.length = n) (h2 : ys.length = n) {i : Nat} {H : Hp} (lt : i < n) (q : SqT K H a xs ∧ SqT K H b ys) : (RZ.ItzT K a b).go i H :=
  ⟨xs, ys, _, _, q.1, q.2, List.getElem?_eq_getElem (by omega), List.getElem?_eq_getElem (by omega)⟩
theorem zipT_stop {K : PySem.W.Frag} {a b : Addr} {xs ys : List V} {n : Nat} (h1 : xs.length = n) {H : Hp} (q : SqT K H a xs ∧ SqT K H b ys) : (RZ.ItzT K a b).stop n H := ⟨xs, ys, q.1, q.2, .inl (by omega)⟩
theorem zipT_yld {K : PySem.W.Frag} {a b : Addr} {xs ys : List V} {n : Nat} (h1 : xs.length = n) (h2 : ys.length = n) {i : Nat} {H H' : Hp} {v : V} (lt : i < n) (q : SqT K H a xs ∧ SqT K H b ys) (y : (RZ.ItzT K a b).yld i H v H') :
    ∃ T, v = .ref T ∧ H T = none ∧ H' = upd H T (.tup [xs.getD i .non, ys.getD i .non]) := by
  obtain ⟨T, x, y, rfl, nT, rfl, f1, f2⟩ := y
  refine ⟨T, rfl, nT, ?_⟩
  rw [List.getD_eq_getElem?_getD, List.getD_eq_getElem?_getD, f1 _ q.1, f2 _ q.2] <;> rfl
theorem getD_of {xs : List V} {i : Nat} (h : i < xs.length) : xs[i]? = some (xs.getD i .non) := by
  rw [List.getD_eq_getElem?_getD, List.getElem?_eq_getElem h] <;> rfl
theorem yesT {σ : L2.St} {H : Hp} {A B : Hp → Prop} (h : A H) : tYes σ H fun b H3 => if b = true then A H3 else B H3 := iteT (A := A H) (B := B H) h
/-- True so often -/
theorem all_true (n : Nat) : (List.replicate n true).map V.bl = List.replicate n (V.bl true) ∧ (List.replicate n true).all id = true := by
  refine ⟨List.map_replicate, ?_⟩
  induction n with
  | zero => rfl
  | succ n ih => rw [List.replicate_succ, List.all_cons, ih] <;> rfl

/-- a def of the text, where it stands and how it is called -/
structure Def (K : PySem.W.Frag) (mg : Str → Option Value) (name : Str) (st : Stmt) (f : Addr) (fd : FuncData) (ps : List Str) : Prop where
  fn : Fun K name name st f fd
  mg : mg name = some (.ref f)
  b : Binds K fd ps []
/-! rules whose written part is a letter -/
section
variable {X : Cx} {K : PySem.W.Frag}
theorem ixL (h : X.K = K) : IxR X (rIxL K) := h ▸ ix_list
theorem ixT (h : X.K = K) : IxR X (rIxT K) := h ▸ ix_tup
theorem ixQ (h : X.K = K) : IxR X (rIx K) := h ▸ ix_seq
def rLenQ (K : PySem.W.Frag) : List V → Hp → VK → Prop := fun xs H Q => ∃ p ys, xs = [.ref p] ∧ (SqL K H p ys ∨ SqT K H p ys) ∧ Q (.int (ys.length : Nat)) H
theorem lenQ (h : X.K = K) : CallR X (.builtin "len") (rLenQ K) := h ▸ call_len_seq
def rLenA (K : PySem.W.Frag) : List V → Hp → VK → Prop := fun xs H Q => ∃ x n, xs = [x] ∧ LenV K x H n ∧ Q (.int (n : Nat)) H
theorem lenA (h : X.K = K) : CallR X (.builtin "len") (rLenA K) := h ▸ call_len
theorem isiK (h : X.K = K) : CallR X (.builtin "isinstance") (rIsi K) := h ▸ call_isi
theorem isiTK (h : X.K = K) : CallR X (.builtin "isinstance") (rIsiT K) := h ▸ call_isiT
theorem allK (h : X.K = K) (hc : X.calm = true) : CallR X (.builtin "all") (rAll K) := h ▸ cr_all hc
theorem anyK (h : X.K = K) (hc : X.calm = true) : CallR X (.builtin "any") (rAny K) := h ▸ cr_any hc
theorem sumK (h : X.K = K) (hc : X.calm = true) : CallR X (.builtin "sum") (rSum K) := h ▸ cr_sum hc
theorem eqDK (h : X.K = K) (hu : X.A.units + 64 < cLine) : OpR X (compareOp .Eq) (rEqD K) := h ▸ op_eqD hu
theorem neDK (h : X.K = K) (hu : X.A.units + 64 < cLine) : OpR X (compareOp .NotEq) (rNeD K) := h ▸ op_neD hu
theorem inQ (h : X.K = K) : OpR X (compareOp .In) (rIn K false) := h ▸ op_in_seq
theorem notInQ (h : X.K = K) : OpR X (compareOp .NotIn) (rIn K true) := h ▸ op_notIn_seq
theorem pi_listK {tg l : Expr} {tl : TE} (h : X.K = K) (hl : PE X l tl) : PI X tg l (iList K tl) := h ▸ pi_list hl
theorem pi_tupK {tg l : Expr} {tl : TE} (h : X.K = K) (hl : PE X l tl) : PI X tg l (iTup K tl) := h ▸ pi_tup hl
theorem pi_zipK {e e2 : Expr} {ta : TA} {p pos tpos : Pos} {elts : List Expr} {kk : Nat} (h : X.K = K) (hg : Gl X "zip") (hm : X.mg "zip" = none) (ha : PA X [e, e2] ta)
    (hs : starEach [e, e2] X.env = (false, eval e X.env) :: starEach [e2] X.env := by rfl) (hpl : (backTo pos (starEach [e2] X.env)).any (·.1) = false := by rfl) :
    PI X (.Tuple elts kk tpos) (.Call (.Name "zip" p) [e, e2] [] pos) (RZ.iZipA K ta) := h ▸ RZ.pi_zipA hg hm ha hs hpl
theorem pi_enumK {e : Expr} {ta : TA} {p pos tpos : Pos} {elts : List Expr} {kk : Nat} (h : X.K = K) (hg : Gl X "enumerate") (hm : X.mg "enumerate" = none) (ha : PA X [e] ta) (hs : starEach [e] X.env = [(false, eval e X.env)] := by rfl) :
    PI X (.Tuple elts kk tpos) (.Call (.Name "enumerate" p) [e] [] pos) (iEnum K ta) := h ▸ pi_enum hg hm ha hs
theorem pg_tupK {es : List Expr} {k : Nat} {pos : Pos} {t : TGs} {n : Nat} (h : X.K = K) (hc : X.calm = true) (ht : PGs X es t) (hn : (assignEach es X.env).length = n := by rfl) (hst : (assignEach es X.env).findIdx? (·.1) = none := by rfl) :
    PG X (.Tuple es k pos) (gTup K n t) := h ▸ pg_tup hc ht hn hst
/-- a new slice, a new list of what a thing holds -/
def rSlLI (K : PySem.W.Frag) : V → Option Int → Option Int → Hp → VK → Prop := fun x lo hi H Q => ∃ a xs, x = .ref a ∧ SqL K H a xs ∧ ∀ p H', Same H H' → H p = none → H' p = some (.lst (cutV xs lo hi)) → Q (.ref p) H'
theorem slL (h : X.K = K) : SlR X (rSlLI K) := fun pins s σ H x v vl vu lo hi sl Q I rx hs pl pu ⟨a, xs, e, q, k⟩ =>
  sl_list pins s σ H x v vl vu lo hi sl Q I rx hs pl pu ⟨a, xs, e, h ▸ q, fun p hp => k p _ (same_new hp) hp upd_same⟩
def rListI (K : PySem.W.Frag) : List V → Hp → VK → Prop := fun xs H Q => ∃ p ys, xs = [.ref p] ∧ (SqL K H p ys ∨ SqT K H p ys) ∧ ∀ l H', Same H H' → H l = none → H' l = some (.lst ys) → Q (.ref l) H'
theorem listI (h : X.K = K) : CallR X (.type "list") (rListI K) := fun pins s σ H xs us Q I r ⟨p, ys, e, q, k⟩ =>
  call_list_of pins s σ H xs us Q I r ⟨p, ys, e, h ▸ q, fun l hl => k l _ (same_new hl) hl upd_same⟩
end
/-! lists of fractions: addresses, tops, bottoms -/
abbrev Fq := Addr × Int × Int
def refs (l : List Fq) : List V := l.map fun z => V.ref z.1
def dat (z : Fq) : PyData := .tuple [.int z.2.1, .int z.2.2]
structure FqAt (H : Hp) (n : Nat) (z : Fq) : Prop where
  at_ : H z.1 = some (.tup [.int z.2.1, .int z.2.2])
  low : IsLow z.2.1 z.2.2
  ta : z.2.1.natAbs ≤ 10 ^ 41 + n
  tb : z.2.2.natAbs ≤ 10 ^ 41 + n
def FrL (H : Hp) (n : Nat) (l : List Fq) : Prop := ∀ z ∈ l, FqAt H n z
theorem FqAt.fr {H H' : Hp} {p : Addr} {n m k : Nat} {z : Fq} (h : FqAt H n z) (B : BoxAt H p m) (f : Fr p H H') (le : n ≤ k) : FqAt H' k z := ⟨f.tup B h.at_, h.low, by have := h.ta; omega, by have := h.tb; omega⟩
theorem FqAt.same {H H' : Hp} {n : Nat} {z : Fq} (h : FqAt H n z) (s : Same H H') : FqAt H' n z := ⟨s _ _ h.at_, h.low, h.ta, h.tb⟩
theorem FrL.fr {H H' : Hp} {p : Addr} {n m k : Nat} {l : List Fq} (h : FrL H n l) (B : BoxAt H p m) (f : Fr p H H') (le : n ≤ k) : FrL H' k l := fun z hz => (h z hz).fr B f le
theorem FrL.same {H H' : Hp} {n : Nat} {l : List Fq} (h : FrL H n l) (s : Same H H') : FrL H' n l := fun z hz => (h z hz).same s
theorem FqAt.wide {H : Hp} {n : Nat} {z : Fq} (h : FqAt H n z) (le : n ≤ 1000) : z.2.1.natAbs < 2 ^ 200 ∧ z.2.2.natAbs < 2 ^ 200 := by
  have h1 := h.ta
  have h2 := h.tb
  have e : 10 ^ 41 + 1000 < 2 ^ 200 := by decide
  omega
theorem refs_len (l : List Fq) : (refs l).length = l.length := List.length_map _
theorem refs_get {l : List Fq} {i : Nat} {z : Fq} (h : l[i]? = some z) : (refs l)[i]? = some (.ref z.1) := by
  unfold refs
  rw [List.getElem?_map, h] <;> rfl
theorem refs_of {l : List Fq} {i : Nat} {x : V} (h : (refs l)[i]? = some x) : ∃ z, l[i]? = some z ∧ x = .ref z.1 := by
  unfold refs at h
  rw [List.getElem?_map] at h
  cases e : l[i]? with
  | none =>
    rw [e] at h
    cases h
  | some z =>
    rw [e] at h
    exact ⟨z, rfl, (Option.some.inj h).symm⟩
theorem dp_pair {K : PySem.W.Frag} {H : Hp} {a : Addr} {t b : Int} (h : H a = some (.tup [.int t, .int b])) : Dp K H (.ref a) (.tuple [.int t, .int b]) := .tup (SqT.of h) (.cons (.int _) (.cons (.int _) .nil))
theorem FrL.dps {K : PySem.W.Frag} {H : Hp} {n : Nat} : ∀ {l : List Fq}, FrL H n l → DpAll K H (refs l) (l.map dat)
  | [], _ => .nil
  | z :: r, h => .cons (dp_pair (h z List.mem_cons_self).at_) (FrL.dps fun y hy => h y (List.mem_cons_of_mem _ hy))
theorem dats_lay (l : List Fq) : PyData.canLayAll0 (l.map dat) = true ∧ PyData.depthAll (l.map dat) ≤ 1 := by
  induction l with
  | nil => exact ⟨rfl, by decide⟩
  | cons z r ih =>
    refine ⟨?_, ?_⟩
    · show (PyData.canLay0 (dat z) && PyData.canLayAll0 (r.map dat)) = true
      rw [ih.1]
      rfl
    · show max (PyData.depth (dat z)) (PyData.depthAll (r.map dat)) ≤ 1
      have e : PyData.depth (dat z) = 1 := rfl
      omega
theorem dats_shaped (l : List Fq) : SeqAt.shaped (.list (l.map dat)) = true := by
  obtain ⟨h1, h2⟩ := dats_lay l
  show (PyData.canLayAll0 (l.map dat) && decide (PyData.depthAll (l.map dat) + 1 ≤ 64)) = true
  rw [h1, decide_eq_true (by omega)] <;> rfl
theorem dats_nil (l : List Fq) : PyData.eqv (.list (l.map dat)) (.list []) = l.isEmpty := by
  cases l <;> rfl
theorem eqv_pair {a b c d : Int} : PyData.eqv (.tuple [.int a, .int b]) (.tuple [.int c, .int d]) = decide (a = c ∧ b = d) := by
  show ((a == c) && ((b == d) && true)) = decide (a = c ∧ b = d)
  rw [Bool.and_true, Bool.decide_and]
  rfl
/-! data of any make beside the box p -/
inductive Da (p : Addr) (H : Hp) : Nat → V → PyData → Prop
  | non (n : Nat) : Da p H (n + 1) .non .none
  | bl (n : Nat) (b : Bool) : Da p H (n + 1) (.bl b) (.bool b)
  | int (n : Nat) (i : Int) : Da p H (n + 1) (.int i) (.int i)
  | str (n : Nat) (x : Str) : Da p H (n + 1) (.str x) (.str x)
  | lst {n : Nat} {a : Addr} {xs : List V} {ds : List PyData} : a ≠ p → H a = some (.lst xs) → xs.length = ds.length → xs.length ≤ 100000 → (∀ (i : Nat) (x : V) (d : PyData), xs[i]? = some x → ds[i]? = some d → Da p H n x d) → Da p H (n + 1) (.ref a) (.list ds)
  | tup {n : Nat} {a : Addr} {xs : List V} {ds : List PyData} : a ≠ p → H a = some (.tup xs) → xs.length = ds.length → xs.length ≤ 100000 → (∀ (i : Nat) (x : V) (d : PyData), xs[i]? = some x → ds[i]? = some d → Da p H n x d) → Da p H (n + 1) (.ref a) (.tuple ds)
theorem Da.fr {p : Addr} {H H' : Hp} (s : Fr p H H') : ∀ {n : Nat} {v : V} {d : PyData}, Da p H n v d → Da p H' n v d := by
  intro n v d h
  induction h with
  | non n => exact .non n
  | bl n b => exact .bl n b
  | int n i => exact .int n i
  | str n x => exact .str n x
  | lst h0 h1 h2 h3 _ ih => exact .lst h0 (s _ _ h0 h1) h2 h3 ih
  | tup h0 h1 h2 h3 _ ih => exact .tup h0 (s _ _ h0 h1) h2 h3 ih
theorem Da.up {p : Addr} {H : Hp} {n m : Nat} {v : V} {d : PyData} (h : Da p H n v d) : n ≤ m → Da p H m v d := by
  intro le
  induction h generalizing m with
  | non n => obtain ⟨k, rfl⟩ : ∃ k, m = k + 1 := ⟨m - 1, by omega⟩; exact .non k
  | bl n b => obtain ⟨k, rfl⟩ : ∃ k, m = k + 1 := ⟨m - 1, by omega⟩; exact .bl k b
  | int n i => obtain ⟨k, rfl⟩ : ∃ k, m = k + 1 := ⟨m - 1, by omega⟩; exact .int k i
  | str n x => obtain ⟨k, rfl⟩ : ∃ k, m = k + 1 := ⟨m - 1, by omega⟩; exact .str k x
  | lst h0 h1 h2 h3 _ ih => obtain ⟨k, rfl⟩ : ∃ k, m = k + 1 := ⟨m - 1, by omega⟩; exact .lst h0 h1 h2 h3 fun i x d a b => ih i x d a b (by omega)
  | tup h0 h1 h2 h3 _ ih => obtain ⟨k, rfl⟩ : ∃ k, m = k + 1 := ⟨m - 1, by omega⟩; exact .tup h0 h1 h2 h3 fun i x d a b => ih i x d a b (by omega)
/-- each of a row is such data -/
def AllDa (p : Addr) (H : Hp) (n : Nat) (xs : List V) : Prop := ∀ x ∈ xs, ∃ d, Da p H n x d
theorem AllDa.fr {p : Addr} {H H' : Hp} {n : Nat} {xs : List V} (h : AllDa p H n xs) (s : Fr p H H') : AllDa p H' n xs := fun x hx => (h x hx).elim fun d q => ⟨d, q.fr s⟩
theorem AllDa.up {p : Addr} {H : Hp} {n m : Nat} {xs : List V} (h : AllDa p H n xs) (le : n ≤ m) : AllDa p H m xs := fun x hx => (h x hx).elim fun d q => ⟨d, q.up le⟩
theorem AllDa.nil {p : Addr} {H : Hp} {n : Nat} : AllDa p H n [] := fun x hx => absurd hx List.not_mem_nil
theorem AllDa.cons {p : Addr} {H : Hp} {n : Nat} {x : V} {xs : List V} (h : ∃ d, Da p H n x d) (t : AllDa p H n xs) : AllDa p H n (x :: xs) := fun y hy => by
  rcases List.mem_cons.mp hy with e | e
  · rw [e]
    exact h
  · exact t y e
theorem AllDa.append {p : Addr} {H : Hp} {n : Nat} {xs ys : List V} (h : AllDa p H n xs) (t : AllDa p H n ys) : AllDa p H n (xs ++ ys) := fun y hy => by
  rcases List.mem_append.mp hy with e | e
  · exact h y e
  · exact t y e
/-- what the datas of a row are -/
theorem AllDa.pick {p : Addr} {H : Hp} {n : Nat} : ∀ {xs : List V}, AllDa p H n xs → ∃ ds : List PyData, xs.length = ds.length ∧ ∀ (i : Nat) (x : V) (d : PyData), xs[i]? = some x → ds[i]? = some d → Da p H n x d
  | [], _ => ⟨[], rfl, fun i x d h => by simp at h⟩
  | x :: xs, h => by
    obtain ⟨d, q⟩ := h x List.mem_cons_self
    obtain ⟨ds, e, r⟩ := AllDa.pick (xs := xs) fun y hy => h y (List.mem_cons_of_mem _ hy)
    refine ⟨d :: ds, by rw [List.length_cons, List.length_cons, e], fun i y c h1 h2 => ?_⟩
    match i, h1, h2 with
    | 0, h1, h2 => cases h1; cases h2; exact q
    | i + 1, h1, h2 => exact r i y c h1 h2
theorem AllDa.tup {p : Addr} {H : Hp} {n : Nat} {xs : List V} {a : Addr} (h : AllDa p H n xs) (ne : a ≠ p) (e : H a = some (.tup xs)) (z : Nat.ble xs.length 100000 = true := by rfl) : ∃ d, Da p H (n + 1) (.ref a) d := by
  obtain ⟨ds, l, r⟩ := h.pick
  exact ⟨_, .tup ne e l (Nat.le_of_ble_eq_true z) r⟩
theorem AllDa.lst {p : Addr} {H : Hp} {n : Nat} {xs : List V} {a : Addr} (h : AllDa p H n xs) (ne : a ≠ p) (e : H a = some (.lst xs)) (z : Nat.ble xs.length 100000 = true := by rfl) : ∃ d, Da p H (n + 1) (.ref a) d := by
  obtain ⟨ds, l, r⟩ := h.pick
  exact ⟨_, .lst ne e l (Nat.le_of_ble_eq_true z) r⟩
theorem daI {p : Addr} {H : Hp} {n : Nat} (i : Int) : ∃ d, Da p H (n + 1) (.int i) d := ⟨_, .int n i⟩
theorem daB {p : Addr} {H : Hp} {n : Nat} (b : Bool) : ∃ d, Da p H (n + 1) (.bl b) d := ⟨_, .bl n b⟩
theorem daS {p : Addr} {H : Hp} {n : Nat} (x : Str) : ∃ d, Da p H (n + 1) (.str x) d := ⟨_, .str n x⟩
theorem daN {p : Addr} {H : Hp} {n : Nat} : ∃ d, Da p H (n + 1) .non d := ⟨_, .non n⟩
theorem AllDa.one {p : Addr} {H : Hp} {n m : Nat} {x : V} (h : ∃ d, Da p H n x d) (le : n ≤ m) : AllDa p H m [x] := .cons (h.elim fun d q => ⟨d, q.up le⟩) .nil
theorem AllDa.two {p : Addr} {H : Hp} {n : Nat} {x y : V} (h : ∃ d, Da p H n x d) (k : ∃ d, Da p H n y d) : AllDa p H n [x, y] := .cons h (.cons k .nil)
theorem da_fr {p : Addr} {H H' : Hp} {n : Nat} {v : V} (h : ∃ d, Da p H n v d) (s : Fr p H H') : ∃ d, Da p H' n v d := h.elim fun d q => ⟨d, q.fr s⟩
theorem da_up {p : Addr} {H : Hp} {n m : Nat} {v : V} (h : ∃ d, Da p H n v d) (le : n ≤ m) : ∃ d, Da p H m v d := h.elim fun d q => ⟨d, q.up le⟩
theorem BoxAt.new {H : Hp} {p a : Addr} {n : Nat} (h : BoxAt H p n) (e : H a = none) : a ≠ p := by
  obtain ⟨o, ho⟩ := h.some
  exact (ne_of_none ho e).symm
/-- an item at a place that is there -/
theorem at_some {xs : List V} {z : Int} (h0 : 0 ≤ z) (h1 : z < (xs.length : Int)) : ∃ v, atI xs z = some v ∧ v ∈ xs := by
  have g : xs[z.toNat]? = some xs[z.toNat] := List.getElem?_eq_getElem (by omega)
  exact ⟨_, at_of (j := z.toNat) (by omega) g, List.getElem_mem _⟩
/-- which kinds of built-in classes a data is of -/
def isTupD : PyData → Bool
  | .tuple _ => true
  | _ => false
def isIntD : PyData → Bool
  | .int _ => true
  | .bool _ => true
  | _ => false
def isBoolD : PyData → Bool
  | .bool _ => true
  | _ => false
def isListD : PyData → Bool
  | .list _ => true
  | _ => false
def isStrD : PyData → Bool
  | .str _ => true
  | _ => false
structure Kinds (K : PySem.W.Frag) (H : Hp) (v : V) (d : PyData) (t : String) : Prop where
  ty : TyX K H v (.type t)
  tup : kitB t "tuple" = some (isTupD d)
  lst : kitB t "list" = some (isListD d)
  int : kitB t "int" = some (isIntD d)
  bool : kitB t "bool" = some (isBoolD d)
  str : kitB t "str" = some (isStrD d)
theorem Da.kinds {K : PySem.W.Frag} {p : Addr} {H : Hp} {n : Nat} {v : V} {d : PyData} (h : Da p H n v d) : ∃ t, Kinds K H v d t := by
  cases h with
  | non => exact ⟨"NoneType", .base .non, by decide +kernel, by decide +kernel, by decide +kernel, by decide +kernel, by decide +kernel⟩
  | bl _ b => exact ⟨"bool", .base (.bl b), by show _ = some false; decide +kernel, by show _ = some false; decide +kernel, by show _ = some true; decide +kernel, by show _ = some true; decide +kernel, by show _ = some false; decide +kernel⟩
  | int _ i => exact ⟨"int", .base (.int i), by show _ = some false; decide +kernel, by show _ = some false; decide +kernel, by show _ = some true; decide +kernel, by show _ = some false; decide +kernel, by show _ = some false; decide +kernel⟩
  | str _ x => exact ⟨"str", .base (.str x), by show _ = some false; decide +kernel, by show _ = some false; decide +kernel, by show _ = some false; decide +kernel, by show _ = some false; decide +kernel, by show _ = some true; decide +kernel⟩
  | lst _ a1 => exact ⟨"list", .base (.lst a1), by show _ = some false; decide +kernel, by show _ = some true; decide +kernel, by show _ = some false; decide +kernel, by show _ = some false; decide +kernel, by show _ = some false; decide +kernel⟩
  | tup _ a1 => exact ⟨"tuple", .base (.tup a1), by show _ = some true; decide +kernel, by show _ = some false; decide +kernel, by show _ = some false; decide +kernel, by show _ = some false; decide +kernel, by show _ = some false; decide +kernel⟩
/-- repr of a truth -/
theorem cr_reprB {X : Cx} : CallR X (.builtin "repr") (fun xs H Q => ∃ b : Bool, xs = [.bl b] ∧ Q (.str (if b = true then "True" else "False")) H) := by
  intro pins s σ H xs us Q I r h
  obtain ⟨b, rfl, q⟩ := h
  cases r with
  | cons r1 r2 =>
    cases r2
    cases r1
    exact PySem.P.repr_of_bool ⟨.str _, H, I.tok _, ⟨_, rfl⟩, q⟩
/-- xs + ys, a new list -/
def rCatI : R2 := fun x y H Q => ∃ l b xs zs, x = .ref l ∧ y = .ref b ∧ H l = some (.lst xs) ∧ H b = some (.lst zs) ∧ xs.length + zs.length ≤ sizeLine ∧ ∀ p H', Same H H' → H p = none → H' p = some (.lst (xs ++ zs)) → Q (.ref p) H'
theorem op_catI {X : Cx} : OpR X (binaryOp .Add) rCatI := fun pins s σ H x y v u Q I rx ry ⟨l, b, xs, zs, e1, e2, h1, h2, z, k⟩ =>
  op_cat pins s σ H x y v u Q I rx ry ⟨l, b, xs, zs, e1, e2, h1, h2, z, fun p hp => k p _ (same_new hp) hp upd_same⟩
/-- a number; a fraction -/
def isNumD (d : PyData) : Bool := isIntD d && !isBoolD d
def isFracD : PyData → Bool
  | .tuple [.int t, .int b] => decide (0 < b) && decide (Nat.gcd t.natAbs b.natAbs = 1)
  | _ => false
theorem frac_no {d e : PyData} (h : isNumD d = false ∨ isNumD e = false) : isFracD (.tuple [d, e]) = false := by
  cases d <;> cases e <;> first | rfl | (rcases h with h | h <;> cases h)
theorem frac_len {ds : List PyData} (h : ds.length ≠ 2) : isFracD (.tuple ds) = false := by
  match ds, h with
  | [], _ => rfl
  | [d], _ => cases d <;> rfl
  | [_, _], h => exact absurd rfl h
  | d :: e :: _ :: _, _ => cases d <;> cases e <;> rfl
theorem num_int {p : Addr} {H : Hp} {n : Nat} {v : V} {d : PyData} (h : Da p H n v d) (k : isNumD d = true) : ∃ i, d = .int i ∧ v = .int i := by
  cases h with
  | int _ i => exact ⟨i, rfl, rfl⟩
  | non => cases k
  | bl => cases k
  | str => cases k
  | lst => cases k
  | tup => cases k
/-- rows of truths as data -/
theorem dps_bools {K : PySem.W.Frag} {H : Hp} : ∀ bs : List Bool, DpAll K H (bs.map V.bl) (bs.map PyData.bool)
  | [] => .nil
  | b :: r => .cons (.bl b) (dps_bools r)
theorem bools_shaped (bs : List Bool) : SeqAt.shaped (.list (bs.map PyData.bool)) = true := by
  have h : PyData.canLayAll0 (bs.map PyData.bool) = true ∧ PyData.depthAll (bs.map PyData.bool) = 0 := by
    induction bs with
    | nil => exact ⟨rfl, rfl⟩
    | cons b r ih =>
      refine ⟨?_, ?_⟩
      · show (PyData.canLay0 (.bool b) && PyData.canLayAll0 (r.map PyData.bool)) = true
        rw [ih.1] <;> rfl
      · show max (PyData.depth (.bool b)) (PyData.depthAll (r.map PyData.bool)) = 0
        rw [ih.2] <;> rfl
  show (PyData.canLayAll0 (bs.map PyData.bool) && decide (PyData.depthAll (bs.map PyData.bool) + 1 ≤ 64)) = true
  rw [h.1, h.2] <;> rfl
theorem take_one {α : Type} {l : List α} {i : Nat} {x : α} (h : l[i]? = some x) : l.take (i + 1) = l.take i ++ [x] := by
  rw [List.take_add_one, h] <;> rfl
end KR
/-! ### texts -/
namespace KR
open PySem PySem.Spec PyProof.Rows L2
theorem strs_of : ∀ {ys : List Str} {us : List Value}, Vals (ys.map V.str) us → StrsAre us ys
  | [], _, .nil => .nil
  | y :: r, _, .cons h t => by
    obtain ⟨k, rfl⟩ := h
    exact .cons y k (strs_of t)
section
variable {X : Cx} {K : PySem.W.Frag}
/-- sep.join(it), it a list walked from its end -/
theorem join_rev {prog : Program} {w : World} {A : Around} {E : Value → Shared → Prop} {s : Shared} {x : Str} {t : Tok} {it l : Addr} {items : Array Value} {ys : List Str} {Q : Value → Shared → Prop} (hh : A.handled = none)
    (hit : s.heap.IsRevIter it l ((items.size : Int) - 1)) (hl : s.heap.IsList l items) (hne : l ≠ it) (hn : items.size ≤ sizeLine)
    (hP : ∀ acc : Array Value, ItemsOf (fun i v => items[items.size - 1 - i]? = some v) acc items.size → StrsAre acc.toList ys) (hok : (ys.map (·.length)).sum + ys.length * x.length ≤ 16777216)
    (hq : ∀ (h' : Heap) (t' k : Nat), (∀ b o, b ≠ it → s.heap.get? b = some o → h'.get? b = some o) → Q (.str (Txt.join x ys) t') { s with heap := h', toks := k }) :
    wpAny (model prog w) A (call (.builtin "str.join") [.str x t, .ref it]) Q E s := by
  apply wpAny_call
  refine codeAny_call_builtin F.slot_str_join.plain F.entry_str_join (F.slot_str_join.check _ _ _ _ _ _ _ _ (typeIs_str _ _ _) (F.args_str_join_2 _ _) ?_)
  rw [join_tree_other]
  refine wpAny_bind (wpAny_typeOf hit.typeIs ?_)
  show wpAny _ A.in1 ((pyIter (.ref it)).tryCatch _ >>= fun j => collect j >>= fun vs => joinTail x vs) _ _ s
  refine wpAny_bind (wpAny_tryCatch (wpAny_pyIter_revIter hit (wpAny_bind (RT.collect_rev (A := A.in1) hh hit hl hne hn fun h' tk acc hk hacc => ?_))))
  obtain ⟨ps, e1, e2⟩ := strsAre_values (hP acc hacc)
  subst e2
  rw [e1]
  have fits := joinOk_of hok
  unfold JoinOk at fits
  rw [Bool.not_eq_true'] at fits
  have g : Gives (joinTail x (strValues ps)) (joinMade x ps) := by
    have g0 := gives_joinTail x ps fits
    rcases ps with _ | ⟨a, _ | ⟨b, r⟩⟩ <;> exact g0
  exact g prog w A (wants Q E) { s with heap := h', toks := tk } (post_join ps ⟨joinFit_length fits, fun t' k => hq h' t' k hk⟩)
/-- sep.join(reversed(xs)), xs a list of texts -/
def tJoinRev (K : PySem.W.Frag) (to te : TE) : TE := fun σ H Q => to σ H fun x H1 => (∃ a, x = .str a) ∧ te σ H1 fun v H2 => ∃ (a : Str) (q : Addr) (ys : List Str), x = .str a ∧ v = .ref q ∧ SqL K H2 q (ys.map V.str) ∧ (ys.map (·.length)).sum + ys.length * a.length ≤ 16777216 ∧ Q (.str (Txt.join a ys.reverse)) H2
theorem sum_rev (l : List Nat) : l.reverse.sum = l.sum := by
  induction l with
  | nil => rfl
  | cons a r ih =>
    rw [List.reverse_cons, List.sum_append, ih, List.sum_cons, List.sum_cons, List.sum_nil]
    omega
theorem pe_joinRev {o e : Expr} {to te : TE} {apos pos p pos2 : Pos} (hK : X.K = K) (hc : X.calm = true) (hg : Gl X "reversed") (hm : X.mg "reversed" = none) (ho : PE X o to) (he : PE X e te)
    (hs1 : starEach [.Call (.Name "reversed" p) [e] [] pos2] X.env = [(false, eval (.Call (.Name "reversed" p) [e] [] pos2) X.env)] := by rfl) (hs : starEach [e] X.env = (false, eval e X.env) :: starEach [] X.env := by rfl)
    (hbase : attributeBase o "join" X.env (eval o X.env) = eval o X.env := by rfl) (hline : (apos.endLine == pos.line) = true := by rfl) :
    PE X (.Call (.Attribute o "join" apos) [.Call (.Name "reversed" p) [e] [] pos2] [] pos) (tJoinRev K to te) := by
  subst hK
  constructor
  intro pins s σ H Q I want
  refine PySem.Call_method1 hbase hs1 hline (thn (ho.run pins s σ H _ I want) ?_)
  rintro v s1 ⟨x, H1, I1, r1, ⟨a, rfl⟩, q1⟩
  obtain ⟨t, rfl⟩ : ∃ t, v = Value.str a t := r1
  refine ⟨"str", "str.join", F.plainAttrs_str, F.slot_str_join, F.type_str_join, typeIs_str _ _ _, nofun, Calls.callWith_builtin rfl (Calls.evalArgs_plain (Calls.spliced_cons ?_))⟩
  refine Call_ (ld_blt I1 hg hm PyProof.Rows.boot_reversed (PyProof.Rows.callWith_type1 (args_cons (thn (he.run pins s1 σ H1 _ I1 q1) ?_) hs) hs rfl))
  rintro u s2 ⟨y, H2, I2, r2, a', q, ys, ea, rfl, hq, hz, k⟩
  cases ea
  cases r2
  obtain ⟨its, rv, pl, hsz⟩ := I2.list hq
  refine args_nil (call_reversed_list pl.isList (Calls.spliced_nil ?_))
  have old : ∀ b o, s2.heap.get? b = some o → (s2.heap.push (revObj q ((its.toArray.size : Int) - 1))).get? b = some o := fun b o g => Heap.get?_push_of_some _ g
  obtain ⟨oq, hoq, _⟩ := id pl.isList
  have neq : q ≠ s2.heap.objs.size := Nat.ne_of_lt (Heap.lt_size hoq)
  have len : its.toArray.size ≤ sizeLine := by rw [List.size_toArray, ← rv.length]; exact hsz
  refine join_rev (s := { s2 with heap := s2.heap.push (revObj q ((its.toArray.size : Int) - 1)) }) (ys := ys.reverse) (I2.ok.hd hc) ⟨_, Heap.get?_push_size _ rfl, rfl, rfl⟩ (pl.isList.push _) neq len (fun acc hacc => strs_of ?_) ?_ fun h' t' k' keep => ?_
  · rw [List.map_reverse]
    exact RT.vals_rev rv hacc
  · rw [List.map_reverse, sum_rev, List.length_reverse]
    exact hz
  · exact ⟨.str _, H2, I2.kept (t' := k') (fun b o g => keep b o (Nat.ne_of_lt (Heap.lt_size g)) (old b o g)), ⟨t', rfl⟩, k⟩
end
/-! texts as rows of codes -/
abbrev S (l : List Nat) : Str := ⟨l.toArray⟩
theorem tl_S (l : List Nat) : TL.tl (S l) = l := rfl
theorem S_tl (x : Str) : S (TL.tl x) = x := TL.mk_tl x
theorem S_len (l : List Nat) : (S l).length = l.length := by rw [TL.len_tl]
theorem S_app (l m : List Nat) : S l ++ S m = S (l ++ m) := TL.ext_tl (by rw [TL.tl_append])
theorem S_inj {l m : List Nat} (h : S l = S m) : l = m := congrArg TL.tl h
theorem lit_minus : ("-" : Str) = S [45] := by decide +kernel
theorem lit_stroke : ("/" : Str) = S [47] := by decide +kernel
theorem lit_one : ("1" : Str) = S [49] := by decide +kernel
theorem lit_zero : ("0" : Str) = S [48] := by decide +kernel
theorem lit_none : ("" : Str) = S [] := by decide +kernel
theorem lit_empty : Str.empty = S [] := by decide +kernel
theorem lit_digits : ("0123456789" : Str) = S [48, 49, 50, 51, 52, 53, 54, 55, 56, 57] := by decide +kernel
theorem num_S (n : Nat) : Str.ofString (toString ((n : Nat) : Int)) = S (TL.numL n) := TL.ext_tl (TL.tl_num n)
theorem numL_cut (n : Nat) : TL.numL n = (if n / 10 = 0 then [] else TL.numL (n / 10)) ++ [48 + n % 10] := by
  by_cases h : n < 10
  · rw [TL.numL_lt h, if_pos (by omega), show n % 10 = n by omega] <;> rfl
  · rw [TL.numL_step (by omega), if_neg (by omega)]
theorem dig_at {k : Int} (h0 : 0 ≤ k) (h1 : k < 10) : atI ("0123456789" : Str).cps.toList k = some (48 + k.toNat) := by
  rw [lit_digits]
  have ks : k = 0 ∨ k = 1 ∨ k = 2 ∨ k = 3 ∨ k = 4 ∨ k = 5 ∨ k = 6 ∨ k = 7 ∨ k = 8 ∨ k = 9 := by omega
  rcases ks with e | e | e | e | e | e | e | e | e | e <;> subst e <;> rfl
theorem lit_len : ("0123456789" : Str).length ≤ sizeLine := by decide +kernel
/-- text times a number from 0 -/
theorem op_mul_str {X : Cx} : OpR X (binaryOp .Mult) (fun x y H Q => ∃ (a : Str) (n : Nat), x = .str a ∧ y = .int (n : Int) ∧ a.length * n ≤ 100000 ∧ n ≤ 100000 ∧ Q (.str (Txt.mul a n)) H) := by
  intro pins s σ H x y v u Q I rx ry h
  obtain ⟨a, n, rfl, rfl, hz, hn, q⟩ := h
  obtain ⟨t, rfl⟩ := rx
  obtain ⟨t', rfl⟩ := ry
  refine SB.mul ⟨?_, fun h1 h2 => ?_, fun h1 h2 => ?_⟩ fun t2 k => ⟨.str _, H, I.tok _, ⟨_, rfl⟩, q⟩
  · rw [decide_eq_false (by omega), decide_eq_false (by omega)] <;> rfl
  · have n1 : (1 : Int) ≤ (n : Int) := by omega
    intro bad
    have b2 : ((2 ^ 63 - 1 : Int)) / (n : Int) ≥ (2 ^ 63 - 1 : Int) / 100000 := by
      refine Int.le_ediv_of_mul_le (by omega) ?_
      have e : (2 ^ 63 - 1 : Int) / 100000 * (n : Int) ≤ (2 ^ 63 - 1 : Int) / 100000 * 100000 := Int.mul_le_mul_of_nonneg_left (by omega) (by decide)
      exact Int.le_trans e (by decide)
    have a9 : a.length ≤ 100000 := by
      have : a.length * 1 ≤ a.length * n := Nat.mul_le_mul_left _ (by omega)
      omega
    have e3 : (2 ^ 63 - 1 : Int) / 100000 = 92233720368547 := by decide
    omega
  · rw [Int.toNat_natCast]
    exact decide_eq_false (by have := small hz; omega)
theorem mul_zero (a : Str) : Txt.mul a ((0 : Nat) : Int) = S [] := by
  unfold Txt.mul
  rw [if_pos (by decide), lit_empty]
theorem mul_one (a : Str) : Txt.mul a ((1 : Nat) : Int) = a := by
  unfold Txt.mul
  rw [if_neg (by decide), if_pos (by rfl)]
/-- a minus ahead, cut off -/
theorem sub_minus (l : List Nat) : Builtin.Str.subAt (S l) (S [45]) 0 = (l.head? == some 45) := by
  unfold Builtin.Str.subAt
  rcases l with _ | ⟨c, r⟩
  · rfl
  · have e : ((S (c :: r)).cps.extract 0 (0 + (S [45]).length)) = #[c] := by
      apply Array.toList_inj.mp
      rw [Array.toList_extract]
      rfl
    rw [e]
    show (#[c] == #[45]) = (some c == some 45)
    by_cases h : c = 45
    · subst h
      rfl
    · have e2 : (some c == some 45) = false := by
        rw [beq_eq_false_iff_ne]
        exact fun z => h (Option.some.inj z)
      rw [e2, beq_eq_false_iff_ne]
      intro z
      exact h (by have := congrArg (fun a => a[0]?) z; simpa using this)
theorem prefix_minus (l : List Nat) : Txt.removeprefix (S l) (S [45]) = S (if l.head? = some 45 then l.tail else l) := by
  unfold Txt.removeprefix
  rw [sub_minus]
  by_cases h : l.head? = some 45
  · rw [if_pos h, if_pos (by rw [h] <;> rfl)]
    rcases l with _ | ⟨c, r⟩
    · cases h
    · show (if ((S (c :: r)).length - (S [45]).length == (S (c :: r)).length) = true then S (c :: r) else Builtin.Str.strSub (S (c :: r)) (S [45]).length (S (c :: r)).length) = S r
      have e1 : (S (c :: r)).length = r.length + 1 := by rw [S_len] <;> rfl
      have e2 : (S [45]).length = 1 := rfl
      rw [if_neg (by rw [e1, e2, beq_iff_eq]; omega)]
      apply TL.ext_tl
      show ((S (c :: r)).cps.extract (S [45]).length (S (c :: r)).length).toList = r
      rw [Array.toList_extract, e1, e2]
      show List.take (r.length + 1 - 1) (List.drop 1 (c :: r)) = r
      rw [Nat.add_sub_cancel]
      exact List.take_length
  · rw [if_neg h, if_neg (by rw [beq_iff_eq]; exact h)]
    rfl
theorem starts_minus (l : List Nat) : Txt.startswith (S l) (S [45]) = (l.head? == some 45) := by
  unfold Txt.startswith
  rw [sub_minus]
  rcases l with _ | ⟨c, r⟩
  · rfl
  · rw [decide_eq_true (show 0 + (S [45]).length ≤ (S (c :: r)).length by rw [S_len, S_len]; show 0 + 1 ≤ r.length + 1; omega), Bool.true_and]
/-- one to so many figures -/
def figs (l : List Nat) : Bool := !l.isEmpty && l.all fun c => decide (48 ≤ c) && decide (c ≤ 57)
theorem ascii_S (l : List Nat) : Txt.isascii (S l) = l.all (· < 128) := by
  unfold Txt.isascii
  rw [← Array.all_toList]
theorem dig_code : ∀ c, c < 128 → Unicode.isDigit c = (decide (48 ≤ c) && decide (c ≤ 57)) := by decide +kernel
theorem digit_S {l : List Nat} (h : l.all (· < 128) = true) : Txt.isdigit (S l) = figs l := by
  unfold Txt.isdigit figs
  rw [← Array.all_toList, S_len]
  have e1 : decide (l.length > 0) = !l.isEmpty := by
    cases l <;> rfl
  have e2 : l.all Unicode.isDigit = l.all fun c => decide (48 ≤ c) && decide (c ≤ 57) := by
    rw [List.all_eq_true] at h
    clear e1
    induction l with
    | nil => rfl
    | cons c r ih =>
      rw [List.all_cons, List.all_cons, ih fun x hx => h x (List.mem_cons_of_mem _ hx), dig_code c (of_decide_eq_true (h c List.mem_cons_self))]
  rw [e1]
  exact congrArg _ e2
theorem figs_ascii {l : List Nat} (h : figs l = true) : l.all (· < 128) = true := by
  unfold figs at h
  rw [Bool.and_eq_true] at h
  have h3 := List.all_eq_true.mp h.2
  rw [List.all_eq_true]
  intro c hc
  have := h3 c hc
  rw [Bool.and_eq_true] at this
  have h2 := of_decide_eq_true this.2
  exact decide_eq_true (by omega)
theorem figs_num (n : Nat) : figs (TL.numL n) = true := by
  unfold figs
  rw [Bool.and_eq_true]
  refine ⟨?_, ?_⟩
  · have := TL.numL_ne n
    cases e : TL.numL n with
    | nil => exact absurd e this
    | cons _ _ => rfl
  · rw [List.all_eq_true]
    intro c hc
    have := TL.numL_digits n c hc
    rw [decide_eq_true this.1, decide_eq_true this.2] <;> rfl
theorem figs_int {l : List Nat} (h : figs l = true) (z : l.length ≤ 600) : PySem.intText? (S l) = some ((NumText.digitsVal l : Nat) : Int) := by
  unfold figs at h
  rw [Bool.and_eq_true] at h
  have d : NumText.AllDigits l := fun c hc => by
    have := List.all_eq_true.mp h.2 c hc
    rw [Bool.and_eq_true] at this
    exact ⟨of_decide_eq_true this.1, of_decide_eq_true this.2⟩
  have ne : l ≠ [] := by
    intro e
    rw [e] at h
    exact Bool.noConfusion h.1
  exact PySem.intText_digits (x := S l) d ne (by rw [S_len]; omega)
/-- a fraction's text -/
def fracL (t b : Int) : List Nat := (if t < 0 then [45] else []) ++ (TL.numL t.natAbs ++ (if b = 1 then [] else 47 :: TL.numL b.natAbs))
/-- ahead of the first stroke, whether there is one, behind it -/
def cutL : List Nat → List Nat × Bool × List Nat
  | [] => ([], false, [])
  | c :: r => if c = 47 then ([], true, r) else (c :: (cutL r).1, (cutL r).2)
theorem cut_app {a b : List Nat} (h : 47 ∉ a) : cutL (a ++ 47 :: b) = (a, true, b) := by
  induction a with
  | nil => rfl
  | cons c r ih =>
    have hc : c ≠ 47 := fun e => h (by rw [e]; exact List.mem_cons_self)
    have ih' := ih fun m => h (List.mem_cons_of_mem _ m)
    show (if c = 47 then _ else (c :: (cutL (r ++ 47 :: b)).1, (cutL (r ++ 47 :: b)).2)) = _
    rw [if_neg hc, ih']
theorem cut_none {a : List Nat} (h : 47 ∉ a) : cutL a = (a, false, []) := by
  induction a with
  | nil => rfl
  | cons c r ih =>
    have hc : c ≠ 47 := fun e => h (by rw [e]; exact List.mem_cons_self)
    have ih' := ih fun m => h (List.mem_cons_of_mem _ m)
    show (if c = 47 then _ else (c :: (cutL r).1, (cutL r).2)) = _
    rw [if_neg hc, ih']
/-- either no stroke, or the first one -/
theorem cut_ways (l : List Nat) : (47 ∉ l ∧ cutL l = (l, false, [])) ∨ ∃ a b, l = a ++ 47 :: b ∧ 47 ∉ a ∧ cutL l = (a, true, b) := by
  by_cases h : 47 ∈ l
  · obtain ⟨a, b, e, n⟩ := List.eq_append_cons_of_mem h
    exact .inr ⟨a, b, e, n, by rw [e]; exact cut_app n⟩
  · exact .inl ⟨h, cut_none h⟩
end KR
/-! ### fractions as numbers of the field -/
namespace KR
open PySem PySem.Spec PyProof.Rows L2
theorem Same.tup {K : PySem.W.Frag} {H H' : Hp} {a : Addr} {xs : List V} (e : Same H H') (h : SqT K H a xs) : SqT K H' a xs :=
  h.elim (fun h => .inl (h.elim (fun h => .inl (e _ _ h)) fun ⟨o, h⟩ => .inr ⟨o, e _ _ h⟩)) fun h => .inr h
theorem sqT_ty {K : PySem.W.Frag} {H : Hp} {a : Addr} {xs : List V} (h : SqT K H a xs) : TyX K H (.ref a) (.type "tuple") := by
  rcases h with (h | ⟨o, h⟩) | ⟨o, its, n, h1, h2, _⟩
  · exact .base (.tup h)
  · exact .fTuple h
  · exact .kTuple h1 h2
theorem sqT_frL {K : PySem.W.Frag} {H H' : Hp} {a p : Addr} {xs ys : List V} (h : SqT K H a xs) (hp : H p = some (.lst ys)) (f : Fr p H H') : SqT K H' a xs := by
  rcases h with (h | ⟨o, h⟩) | h
  · exact .inl (.inl (f _ _ (ne_of h hp (by intro z; cases z)) h))
  · exact .inl (.inr ⟨o, f _ _ (ne_of h hp (by intro z; cases z)) h⟩)
  · exact .inr h
theorem sqT_fr {K : PySem.W.Frag} {H H' : Hp} {a p : Addr} {n : Nat} {xs : List V} (h : SqT K H a xs) (B : BoxAt H p n) (f : Fr p H H') : SqT K H' a xs := by
  obtain ⟨i, j, k, hp, _⟩ := B
  exact sqT_frL h hp f
theorem fr_upd {p : Addr} {H : Hp} {o : HO} : Fr p H (upd H p o) := Fr.put Fr.refl
theorem BoxAt.upd {H : Hp} {p D : Addr} {n : Nat} {o : HO} (h : BoxAt H p n) (ne : D ≠ p) : BoxAt (L2.upd H D o) p n := by
  obtain ⟨a, b, c, h1, h2⟩ := h
  exact ⟨a, b, c, by rw [upd_ne ne.symm]; exact h1, h2⟩
def rq (t b : Int) : Rat := (t : Rat) / (b : Rat)
theorem rat_nd (q : Rat) : (q.num : Rat) / ((q.den : Int) : Rat) = q := by rw [← Rat.divInt_eq_div, Rat.num_divInt_den]
theorem den_ne (q : Rat) : ((q.den : Int) : Rat) ≠ 0 := by
  intro h
  have k := q.den_pos
  have h2 : ((q.den : Int) : Rat) = ((0 : Int) : Rat) := h
  have e := Rat.intCast_inj.mp h2
  omega
theorem den_ne' (q : Rat) : (q.den : Int) ≠ 0 := by
  have k := q.den_pos
  omega
theorem int_ne {b : Int} (h : b ≠ 0) : (b : Rat) ≠ 0 := fun z => h (Rat.intCast_inj.mp (z.trans (by rfl : (0 : Rat) = ((0 : Int) : Rat))))
theorem rat_low (q : Rat) : IsLow q.num q.den := ⟨by have k := q.den_pos; omega, by rw [Int.natAbs_natCast]; exact q.reduced⟩
theorem rq_cross {t b : Int} (hb : b ≠ 0) : t * ((rq t b).den : Int) = (rq t b).num * b := by
  have e := rat_nd (rq t b)
  have h1 := den_ne (rq t b)
  have h2 := int_ne hb
  refine Rat.intCast_inj.mp ?_
  rw [Rat.intCast_mul, Rat.intCast_mul]
  generalize ((rq t b).den : Int) = d at *
  generalize (rq t b).num = n at *
  unfold rq at e
  grind
theorem rq_low {t b : Int} (hb : b ≠ 0) : low t b = ((rq t b).num, ((rq t b).den : Int)) := low_eq hb (rat_low _) (rq_cross hb)
theorem cast_pos {b : Int} (h : 0 < b) : (0 : Rat) < (b : Rat) := (Rat.intCast_lt_intCast (a := 0)).mpr h
theorem cast_nn {b : Int} (h : 0 ≤ b) : (0 : Rat) ≤ (b : Rat) := (Rat.intCast_le_intCast (a := 0)).mpr h
theorem le_div {a b c : Rat} (h : 0 < c) (k : a * c ≤ b) : a ≤ b / c := Rat.not_lt.mp fun z => absurd ((Rat.div_lt_iff h).mp z) (Rat.not_lt.mpr k)
theorem div_le {a b c : Rat} (h : 0 < c) (k : b ≤ a * c) : b / c ≤ a := Rat.not_lt.mp fun z => absurd ((Rat.lt_div_iff h).mp z) (Rat.not_lt.mpr k)
theorem rq_nn {t b : Int} (ht : 0 ≤ t) (hb : 0 < b) : 0 ≤ rq t b := by
  have h1 := cast_nn ht
  have h2 := cast_pos hb
  unfold rq
  generalize (t : Rat) = x at *
  generalize (b : Rat) = y at *
  exact le_div h2 (by grind)
theorem rq_pos {t b : Int} (ht : 0 < t) (hb : 0 < b) : 0 < rq t b := by
  have h1 := cast_pos ht
  have h2 := cast_pos hb
  unfold rq
  generalize (t : Rat) = x at *
  generalize (b : Rat) = y at *
  exact (Rat.lt_div_iff h2).mpr (by grind)
theorem rq_lt_one {t b : Int} (ht : t < b) (hb : 0 < b) : rq t b < 1 := by
  have h1 := Rat.intCast_lt_intCast.mpr ht
  have h2 := cast_pos hb
  unfold rq
  generalize (t : Rat) = x at *
  generalize (b : Rat) = y at *
  exact (Rat.div_lt_iff h2).mpr (by grind)
theorem rq_le_one {t b : Int} (ht : t ≤ b) (hb : 0 < b) : rq t b ≤ 1 := by
  have h1 := Rat.intCast_le_intCast.mpr ht
  have h2 := cast_pos hb
  unfold rq
  generalize (t : Rat) = x at *
  generalize (b : Rat) = y at *
  exact div_le h2 (by grind)
theorem rq_add (p q : Rat) : rq (p.num * q.den + q.num * p.den) (p.den * q.den) = p + q := by
  have e1 := rat_nd p
  have e2 := rat_nd q
  have h1 := den_ne p
  have h2 := den_ne q
  unfold rq
  rw [Rat.intCast_add, Rat.intCast_mul, Rat.intCast_mul, Rat.intCast_mul]
  generalize ((p.den : Int) : Rat) = d at *
  generalize (p.num : Rat) = n at *
  generalize ((q.den : Int) : Rat) = d2 at *
  generalize (q.num : Rat) = n2 at *
  grind
theorem rq_sub (p q : Rat) : rq (p.num * q.den - q.num * p.den) (p.den * q.den) = p - q := by
  have e1 := rat_nd p
  have e2 := rat_nd q
  have h1 := den_ne p
  have h2 := den_ne q
  unfold rq
  rw [Rat.intCast_sub, Rat.intCast_mul, Rat.intCast_mul, Rat.intCast_mul]
  generalize ((p.den : Int) : Rat) = d at *
  generalize (p.num : Rat) = n at *
  generalize ((q.den : Int) : Rat) = d2 at *
  generalize (q.num : Rat) = n2 at *
  grind
theorem rq_mul (p q : Rat) : rq (p.num * q.num) (p.den * q.den) = p * q := by
  have e1 := rat_nd p
  have e2 := rat_nd q
  have h1 := den_ne p
  have h2 := den_ne q
  unfold rq
  rw [Rat.intCast_mul, Rat.intCast_mul]
  generalize ((p.den : Int) : Rat) = d at *
  generalize (p.num : Rat) = n at *
  generalize ((q.den : Int) : Rat) = d2 at *
  generalize (q.num : Rat) = n2 at *
  grind
theorem rq_div (p q : Rat) : rq (p.num * q.den) (p.den * q.num) = p / q := by
  have e1 := rat_nd p
  have e2 := rat_nd q
  have h1 := den_ne p
  have h2 := den_ne q
  unfold rq
  rw [Rat.intCast_mul, Rat.intCast_mul]
  generalize ((p.den : Int) : Rat) = d at *
  generalize (p.num : Rat) = n at *
  generalize ((q.den : Int) : Rat) = d2 at *
  generalize (q.num : Rat) = n2 at *
  grind
theorem rq_self (q : Rat) : rq q.num q.den = q := rat_nd q
theorem num_ne {q : Rat} (h : q ≠ 0) : q.num ≠ 0 := fun z => h (by
  have e := rat_nd q
  rw [z] at e
  rw [← e]
  grind)
theorem num_zero {q : Rat} : q.num = 0 ↔ q = 0 := ⟨fun z => Classical.byContradiction fun y => num_ne y z, fun z => by rw [z] <;> rfl⟩
theorem num_pos {q : Rat} : 0 < q.num ↔ 0 < q := by
  have k := Rat.lt_iff 0 q
  simp at k
  exact k.symm
theorem num_nn {q : Rat} : 0 ≤ q.num ↔ 0 ≤ q := Rat.num_nonneg
theorem lt_cross (p q : Rat) : (p.num * q.den < q.num * p.den) ↔ p < q := (Rat.lt_iff p q).symm
/-- top and bottom fit so many bits -/
def Sz (n : Nat) (q : Rat) : Prop := q.num.natAbs < 2 ^ n ∧ (q.den : Int).natAbs < 2 ^ n
theorem Sz.up {n m : Nat} {q : Rat} (h : Sz n q) (le : n ≤ m) : Sz m q := ⟨lt_up h.1 le, lt_up h.2 le⟩
theorem sz_rq {t b : Int} {n : Nat} (hb : b ≠ 0) (h1 : t.natAbs < 2 ^ n) (h2 : b.natAbs < 2 ^ n) : Sz n (rq t b) := by
  have k := low_lt h1 h2
  rw [rq_low hb] at k
  exact k
theorem Sz.int {z : Int} {n : Nat} (h : z.natAbs < 2 ^ n) (h0 : 0 < n) : Sz n (z : Rat) := ⟨h, Nat.lt_of_lt_of_le (by decide : (1 : Nat) < 2 ^ 1) (Nat.pow_le_pow_right (by decide) h0)⟩
theorem Sz.neg {n : Nat} {q : Rat} (h : Sz n q) : Sz n (-q) := ⟨by
  show (-q.num).natAbs < 2 ^ n
  rw [Int.natAbs_neg]
  exact h.1, h.2⟩
/-- a fraction that is read -/
def FrQ (K : PySem.W.Frag) (H : Hp) (x : Addr) (q : Rat) : Prop := SqT K H x [.int q.num, .int (q.den : Int)]
theorem FrQ.same {K : PySem.W.Frag} {H H' : Hp} {x : Addr} {q : Rat} (h : FrQ K H x q) (s : Same H H') : FrQ K H' x q := Same.tup s h
theorem FrQ.fr {K : PySem.W.Frag} {H H' : Hp} {x p : Addr} {n : Nat} {q : Rat} (h : FrQ K H x q) (B : BoxAt H p n) (f : Fr p H H') : FrQ K H' x q := sqT_fr h B f
theorem FrQ.of {K : PySem.W.Frag} {H : Hp} {x : Addr} {q : Rat} (h : H x = some (.tup [.int q.num, .int (q.den : Int)])) : FrQ K H x q := SqT.of h
theorem FrQ.int {K : PySem.W.Frag} {H : Hp} {x : Addr} {z : Int} (h : H x = some (.tup [.int z, .int 1])) : FrQ K H x (z : Rat) := SqT.of h
/-- a juice that is read -/
def JuQ (K : PySem.W.Frag) (H : Hp) (x : Addr) (s w : Rat) : Prop := ∃ a b, SqT K H x [.ref a, .ref b] ∧ FrQ K H a s ∧ FrQ K H b w
theorem JuQ.same {K : PySem.W.Frag} {H H' : Hp} {x : Addr} {s w : Rat} (h : JuQ K H x s w) (e : Same H H') : JuQ K H' x s w := by
  obtain ⟨a, b, h1, h2, h3⟩ := h
  exact ⟨a, b, Same.tup e h1, h2.same e, h3.same e⟩
theorem JuQ.fr {K : PySem.W.Frag} {H H' : Hp} {x p : Addr} {n : Nat} {s w : Rat} (h : JuQ K H x s w) (B : BoxAt H p n) (f : Fr p H H') : JuQ K H' x s w := by
  obtain ⟨a, b, h1, h2, h3⟩ := h
  exact ⟨a, b, sqT_fr h1 B f, h2.fr B f, h3.fr B f⟩
theorem JuQ.new {K : PySem.W.Frag} {H : Hp} {x a b : Addr} {s w : Rat} (h : H x = some (.tup [.ref a, .ref b])) (ha : FrQ K H a s) (hb : FrQ K H b w) : JuQ K H x s w := ⟨a, b, SqT.of h, ha, hb⟩
/-- a new pair of two numbers' lowest terms -/
def sp_lowQ (K : PySem.W.Frag) : Sp := fun vs H Q _ => ∃ (t b : Int) (n : Nat), vs = [.int t, .int b] ∧ b ≠ 0 ∧ t.natAbs < 2 ^ n ∧ b.natAbs < 2 ^ n ∧ n ≤ 2000 ∧ ∀ p H', Same H H' → H p = none → FrQ K H' p (rq t b) → Sz n (rq t b) → Q (.ref p) H'
theorem lowQ {K : PySem.W.Frag} {vs : List V} {H : Hp} {Q : VK} {E : XK} (h : sp_lowQ K vs H Q E) : sp_low vs H Q E := by
  obtain ⟨t, b, n, e, hb, h1, h2, hn, q⟩ := h
  refine ⟨t, b, e, hb, lt_up h1 hn, lt_up h2 hn, fun p H' s hp h' => q p H' s hp ?_ (sz_rq hb h1 h2)⟩
  rw [rq_low hb] at h'
  exact .of h'
/-- two fractions in, one out -/
def sp_q2 (K : PySem.W.Frag) (f : Rat → Rat → Rat) (ok : Rat → Rat → Prop) : Sp := fun vs H Q _ => ∃ (x y : Addr) (p q : Rat) (m n : Nat), vs = [.ref x, .ref y] ∧ FrQ K H x p ∧ FrQ K H y q ∧ Sz m p ∧ Sz n q ∧ m + n ≤ 1900 ∧ ok p q ∧
  ∀ z H', Same H H' → H z = none → FrQ K H' z (f p q) → Sz (m + n + 1) (f p q) → Q (.ref z) H'
def sp_less (K : PySem.W.Frag) : Sp := fun vs H Q _ => ∃ (x y : Addr) (p q : Rat), vs = [.ref x, .ref y] ∧ FrQ K H x p ∧ FrQ K H y q ∧ Sz 1900 p ∧ Sz 1900 q ∧ Q (.bl (decide (p < q))) H
theorem mulZ {i j : Int} {a b : Nat} (ha : i.natAbs < 2 ^ a) (hb : j.natAbs < 2 ^ b) (h : a + b ≤ 100000) : IntMulOk i j :=
  mulW (lt_up ha (by omega : a ≤ a + 1)) (lt_up hb (by omega : b ≤ b + 1)) (by omega) (by omega) (by omega)
/-! data of the law's own making, tuples of the written part among them -/
inductive Dk (K : PySem.W.Frag) (H : Hp) : Nat → V → PyData → Prop
  | non (n : Nat) : Dk K H (n + 1) .non .none
  | bl (n : Nat) (b : Bool) : Dk K H (n + 1) (.bl b) (.bool b)
  | int (n : Nat) (i : Int) : Dk K H (n + 1) (.int i) (.int i)
  | str (n : Nat) (x : Str) (ok : PyData.canLay0 (.str x) = true) : Dk K H (n + 1) (.str x) (.str x)
  | lst {n : Nat} {a : Addr} {xs : List V} {ds : List PyData} : H a = some (.lst xs) → xs.length = ds.length → xs.length ≤ 100000 → (∀ (i : Nat) (x : V) (d : PyData), xs[i]? = some x → ds[i]? = some d → Dk K H n x d) → Dk K H (n + 1) (.ref a) (.list ds)
  | tup {n : Nat} {a : Addr} {xs : List V} {ds : List PyData} : SqT K H a xs → xs.length = ds.length → xs.length ≤ 100000 → (∀ (i : Nat) (x : V) (d : PyData), xs[i]? = some x → ds[i]? = some d → Dk K H n x d) → Dk K H (n + 1) (.ref a) (.tuple ds)
theorem Dk.same {K : PySem.W.Frag} {H H' : Hp} (s : Same H H') : ∀ {n : Nat} {v : V} {d : PyData}, Dk K H n v d → Dk K H' n v d := by
  intro n v d h
  induction h with
  | non n => exact .non n
  | bl n b => exact .bl n b
  | int n i => exact .int n i
  | str n x ok => exact .str n x ok
  | lst h1 h2 h3 _ ih => exact .lst (s _ _ h1) h2 h3 ih
  | tup h1 h2 h3 _ ih => exact .tup (Same.tup s h1) h2 h3 ih
theorem Dk.up {K : PySem.W.Frag} {H : Hp} {n m : Nat} {v : V} {d : PyData} (h : Dk K H n v d) : n ≤ m → Dk K H m v d := by
  intro le
  induction h generalizing m with
  | non n => obtain ⟨k, rfl⟩ : ∃ k, m = k + 1 := ⟨m - 1, by omega⟩; exact .non k
  | bl n b => obtain ⟨k, rfl⟩ : ∃ k, m = k + 1 := ⟨m - 1, by omega⟩; exact .bl k b
  | int n i => obtain ⟨k, rfl⟩ : ∃ k, m = k + 1 := ⟨m - 1, by omega⟩; exact .int k i
  | str n x ok => obtain ⟨k, rfl⟩ : ∃ k, m = k + 1 := ⟨m - 1, by omega⟩; exact .str k x ok
  | lst h1 h2 h3 _ ih => obtain ⟨k, rfl⟩ : ∃ k, m = k + 1 := ⟨m - 1, by omega⟩; exact .lst h1 h2 h3 fun i x d a b => ih i x d a b (by omega)
  | tup h1 h2 h3 _ ih => obtain ⟨k, rfl⟩ : ∃ k, m = k + 1 := ⟨m - 1, by omega⟩; exact .tup h1 h2 h3 fun i x d a b => ih i x d a b (by omega)
/-- rows of data beside their values -/
def DkAll (K : PySem.W.Frag) (H : Hp) (n : Nat) (xs : List V) (ds : List PyData) : Prop := xs.length = ds.length ∧ ∀ (i : Nat) (x : V) (d : PyData), xs[i]? = some x → ds[i]? = some d → Dk K H n x d
theorem DkAll.nil {K : PySem.W.Frag} {H : Hp} {n : Nat} : DkAll K H n [] [] := ⟨rfl, fun i x d h => by simp at h⟩
theorem DkAll.cons {K : PySem.W.Frag} {H : Hp} {n : Nat} {x : V} {d : PyData} {xs : List V} {ds : List PyData} (h : Dk K H n x d) (t : DkAll K H n xs ds) : DkAll K H n (x :: xs) (d :: ds) :=
  ⟨by rw [List.length_cons, List.length_cons, t.1], fun i u v hu hv => match i, hu, hv with
    | 0, hu, hv => by cases hu; cases hv; exact h
    | i + 1, hu, hv => t.2 i u v hu hv⟩
theorem DkAll.tup {K : PySem.W.Frag} {H : Hp} {n : Nat} {xs : List V} {ds : List PyData} {a : Addr} (t : DkAll K H n xs ds) (h : SqT K H a xs) (z : Nat.ble xs.length 100000 = true := by rfl) : Dk K H (n + 1) (.ref a) (.tuple ds) := .tup h t.1 (Nat.le_of_ble_eq_true z) t.2
theorem DkAll.lst {K : PySem.W.Frag} {H : Hp} {n : Nat} {xs : List V} {ds : List PyData} {a : Addr} (t : DkAll K H n xs ds) (h : H a = some (.lst xs)) (z : Nat.ble xs.length 100000 = true := by rfl) : Dk K H (n + 1) (.ref a) (.list ds) := .lst h t.1 (Nat.le_of_ble_eq_true z) t.2
/-- the data of a fraction, of a juice -/
def dq (q : Rat) : PyData := .tuple [.int q.num, .int (q.den : Int)]
def dj (s w : Rat) : PyData := .tuple [dq s, dq w]
theorem FrQ.dk {K : PySem.W.Frag} {H : Hp} {x : Addr} {q : Rat} (h : FrQ K H x q) (n : Nat := 0) : Dk K H (n + 2) (.ref x) (dq q) := DkAll.tup (.cons (.int _ _) (.cons (.int _ _) .nil)) h
theorem JuQ.dk {K : PySem.W.Frag} {H : Hp} {x : Addr} {s w : Rat} (h : JuQ K H x s w) (n : Nat := 0) : Dk K H (n + 3) (.ref x) (dj s w) := by
  obtain ⟨a, b, h1, h2, h3⟩ := h
  exact DkAll.tup (.cons (h2.dk n) (.cons (h3.dk n) .nil)) h1
/-- forty figures -/
theorem b133 {n : Nat} (h : n < 10 ^ 40) : n < 2 ^ 133 := Nat.lt_trans h (by decide)
/-- a fraction or None -/
def OQ (K : PySem.W.Frag) (H : Hp) (v : V) : Option Rat → Prop
  | none => v = .non
  | some q => ∃ x, v = .ref x ∧ FrQ K H x q
theorem OQ.same {K : PySem.W.Frag} {H H' : Hp} {v : V} {o : Option Rat} (h : OQ K H v o) (e : Same H H') : OQ K H' v o := by
  cases o with
  | none => exact h
  | some q =>
    obtain ⟨x, e1, h1⟩ := h
    exact ⟨x, e1, h1.same e⟩
def oq : Option Rat → PyData
  | none => .none
  | some q => dq q
theorem OQ.dk {K : PySem.W.Frag} {H : Hp} {v : V} {o : Option Rat} (h : OQ K H v o) (n : Nat := 0) : Dk K H (n + 2) v (oq o) := by
  cases o with
  | none => rw [show v = .non from h]; exact .non _
  | some q =>
    obtain ⟨x, e1, h1⟩ := h
    rw [e1]
    exact h1.dk n
/-- the strength of a juice -/
def stren (s w : Rat) : Option Rat := if s + w = 0 then none else some (s / (s + w))
theorem stren_part {s w t : Rat} (h : t ≠ 0) : stren (s * t) (w * t) = stren s w := by
  unfold stren
  by_cases c : s + w = 0
  · rw [if_pos c, if_pos (by grind)]
  · rw [if_neg c, if_neg (by grind)]
    congr 1
    grind
theorem stren_more {s w t : Rat} (h : 0 ≤ t) : stren (s + s * t) (w + w * t) = stren s w := by
  have e1 : s + s * t = s * (1 + t) := by grind
  have e2 : w + w * t = w * (1 + t) := by grind
  rw [e1, e2]
  exact stren_part (by grind)
theorem strength_between {s w x y : Rat} (hs : 0 ≤ s) (hw : 0 ≤ w) (hx : 0 ≤ x) (hy : 0 ≤ y) (h1 : s + w ≠ 0) (h2 : x + y ≠ 0) (le : s / (s + w) ≤ x / (x + y)) :
    s / (s + w) ≤ (s + x) / (s + x + (w + y)) ∧ (s + x) / (s + x + (w + y)) ≤ x / (x + y) := by
  have p1 : 0 < s + w := by grind
  have p2 : 0 < x + y := by grind
  have p3 : 0 < s + x + (w + y) := by grind
  generalize ea : s / (s + w) = a at *
  generalize eb : x / (x + y) = b at *
  have sa : s = a * (s + w) := by grind
  have xb : x = b * (x + y) := by grind
  have d : 0 ≤ b - a := by grind
  constructor
  · refine le_div p3 ?_
    have k := Rat.mul_nonneg d (Rat.le_of_lt p2)
    grind
  · refine div_le p3 ?_
    have k := Rat.mul_nonneg d (Rat.le_of_lt p1)
    grind
theorem is_zero {q : Rat} : decide (q.num = 0 ∧ (q.den : Int) = 1) = decide (q = 0) := by
  rw [decide_eq_decide]
  constructor
  · rintro ⟨h, _⟩
    exact num_zero.mp h
  · rintro rfl
    exact ⟨rfl, rfl⟩
/-- boiling -/
def wat (s u : Rat) : Rat := s / u - s
def boil (s w : Rat) (f : Int) (u h : Rat) : Rat := if wat s u < w then (if w - f * h < wat s u then wat s u else w - f * h) else w
theorem rq_wat (s u : Rat) (hu : u ≠ 0) : rq (s.num * ((u.den : Int) - u.num)) (s.den * u.num) = wat s u := by
  have e1 := rat_nd s
  have e2 := rat_nd u
  have h1 := den_ne s
  have h2 := den_ne u
  have h3 := int_ne (num_ne hu)
  unfold rq wat
  rw [Rat.intCast_mul, Rat.intCast_mul, Rat.intCast_sub]
  generalize ((s.den : Int) : Rat) = d at *
  generalize (s.num : Rat) = n at *
  generalize ((u.den : Int) : Rat) = d2 at *
  generalize (u.num : Rat) = n2 at *
  rw [← e1, ← e2]
  grind
theorem Sz.add {m n : Nat} {p q : Rat} (h : Sz m p) (k : Sz n q) : Sz (m + n + 1) (p + q) := by
  rw [← rq_add]
  exact sz_rq (Int.mul_ne_zero (den_ne' p) (den_ne' q)) (lt_up (add_lt (wide_lt h.1 k.2) (lt_up (wide_lt k.1 h.2) (by omega : n + m ≤ m + n))) (by omega)) (lt_up (wide_lt h.2 k.2) (by omega))
theorem Sz.sub {m n : Nat} {p q : Rat} (h : Sz m p) (k : Sz n q) : Sz (m + n + 1) (p - q) := by
  rw [← rq_sub]
  exact sz_rq (Int.mul_ne_zero (den_ne' p) (den_ne' q)) (lt_up (sub_lt (wide_lt h.1 k.2) (lt_up (wide_lt k.1 h.2) (by omega : n + m ≤ m + n))) (by omega)) (lt_up (wide_lt h.2 k.2) (by omega))
theorem Sz.mul {m n : Nat} {p q : Rat} (h : Sz m p) (k : Sz n q) : Sz (m + n) (p * q) := by
  rw [← rq_mul]
  exact sz_rq (Int.mul_ne_zero (den_ne' p) (den_ne' q)) (wide_lt h.1 k.1) (wide_lt h.2 k.2)
theorem Sz.wat {m n : Nat} {s u : Rat} (h : Sz m s) (k : Sz n u) (hu : u ≠ 0) : Sz (m + n + 1) (wat s u) := by
  rw [← rq_wat s u hu]
  exact sz_rq (Int.mul_ne_zero (den_ne' s) (num_ne hu)) (lt_up (wide_lt h.1 (sub_lt k.2 k.1)) (by omega)) (lt_up (wide_lt h.2 k.1) (by omega))
theorem Sz.boil {a b c n N : Nat} {s w u h : Rat} {f : Int} (zs : Sz a s) (zu : Sz n u) (hu : u ≠ 0) (zw : Sz b w) (zh : Sz c h) (hf : f.natAbs < 2 ^ 14) (h1 : a + n + 1 ≤ N) (h2 : b + (14 + c) + 1 ≤ N) : Sz N (KR.boil s w f u h) := by
  unfold KR.boil
  split
  · split
    · exact (Sz.wat zs zu hu).up h1
    · exact (Sz.sub zw (Sz.mul (Sz.int hf (by decide)) zh)).up h2
  · exact zw.up (by omega)
theorem boil_zero {s w u : Rat} {f : Int} : boil s w f u 0 = w := by
  unfold boil
  rw [Rat.mul_zero]
  split <;> grind
theorem boil_boil {s w u h k : Rat} {f : Int} (hf : 0 ≤ f) (hh : 0 ≤ h) (hk : 0 ≤ k) : boil s (boil s w f u h) f u k = boil s w f u (h + k) := by
  have f0 := cast_nn hf
  have a0 := Rat.mul_nonneg f0 hh
  have b0 := Rat.mul_nonneg f0 hk
  unfold boil
  rw [Rat.mul_add]
  generalize (f : Rat) * h = a at *
  generalize (f : Rat) * k = b at *
  generalize wat s u = L
  grind
theorem boil_fire {s w u h : Rat} {f g : Int} (hf : f ≤ g) (hh : 0 ≤ h) : boil s w g u h ≤ boil s w f u h := by
  have k := Rat.mul_nonneg (cast_nn (show 0 ≤ g - f by omega)) hh
  rw [Rat.intCast_sub] at k
  unfold boil
  generalize wat s u = L
  have e : ((g : Rat) - (f : Rat)) * h = (g : Rat) * h - (f : Rat) * h := by grind
  rw [e] at k
  generalize (f : Rat) * h = a at *
  generalize (g : Rat) * h = b at *
  grind
theorem boil_two {s w u h : Rat} {f : Int} : boil (s + s) (w + w) (2 * f) u h = boil s w f u h + boil s w f u h := by
  unfold boil
  have e : wat (s + s) u = wat s u + wat s u := by
    unfold wat
    grind
  rw [e, Rat.intCast_mul]
  have e2 : ((2 : Int) : Rat) * (f : Rat) * h = (f : Rat) * h + (f : Rat) * h := by
    have e3 : ((2 : Int) : Rat) = 2 := rfl
    rw [e3]
    grind
  rw [e2]
  generalize (f : Rat) * h = a at *
  generalize wat s u = L at *
  grind
theorem Sz.div {m n : Nat} {p q : Rat} (h : Sz m p) (k : Sz n q) (hq : q ≠ 0) : Sz (m + n) (p / q) := by
  rw [← rq_div]
  exact sz_rq (Int.mul_ne_zero (den_ne' p) (num_ne hq)) (wide_lt h.1 k.2) (wide_lt h.2 k.1)
theorem rq_divi (r : Rat) (f : Int) : rq r.num (r.den * f) = r / (f : Rat) := by
  have e := rq_div r (f : Rat)
  rw [← e]
  show rq r.num (r.den * f) = rq (r.num * 1) (r.den * f)
  rw [Int.mul_one]
theorem FrQ.dp {K : PySem.W.Frag} {H : Hp} {x : Addr} {q : Rat} (h : FrQ K H x q) : Dp K H (.ref x) (dq q) := .tup h (.cons (.int _) (.cons (.int _) .nil))
theorem JuQ.dp {K : PySem.W.Frag} {H : Hp} {x : Addr} {s w : Rat} (h : JuQ K H x s w) : Dp K H (.ref x) (dj s w) := by
  obtain ⟨a, b, h1, h2, h3⟩ := h
  exact .tup h1 (.cons h2.dp (.cons h3.dp .nil))
theorem eqv_dq (a b : Rat) : PyData.eqv (dq a) (dq b) = decide (a = b) := by
  refine eqv_pair.trans ?_
  rw [decide_eq_decide]
  constructor
  · rintro ⟨h1, h2⟩
    exact Rat.ext h1 (by omega)
  · rintro rfl
    exact ⟨rfl, rfl⟩
theorem OQ.dp {K : PySem.W.Frag} {H : Hp} {v : V} {o : Option Rat} (h : OQ K H v o) : Dp K H v (oq o) := by
  cases o with
  | none => rw [show v = .non from h]; exact .non
  | some q =>
    obtain ⟨x, e1, h1⟩ := h
    rw [e1]
    exact h1.dp
theorem oq_fit (o : Option Rat) : PyData.canLay0 (oq o) = true ∧ PyData.depth (oq o) ≤ 60 := by
  cases o with
  | none => exact ⟨rfl, by decide⟩
  | some q => exact ⟨rfl, by show 1 ≤ 60; decide⟩
/-- when a juice is ready -/
def ready (s w : Rat) (f : Int) (u : Rat) : Option Rat := if s = 0 then none else if wat s u < w then (if f = 0 then none else some ((w - wat s u) / (f : Rat))) else some 0
theorem wat_nn {s u : Rat} (hs : 0 ≤ s) (u0 : 0 < u) (u1 : u < 1) : 0 ≤ wat s u := by
  have k := Rat.mul_nonneg hs (show 0 ≤ 1 - u by grind)
  have h : s ≤ s / u := le_div u0 (by grind)
  unfold wat
  grind
theorem on_way {s w u : Rat} {f : Int} (hs : 0 < s) (u0 : 0 < u) (u1 : u < 1) (hf : 0 < f) (lt : wat s u < w) {t : Rat} (et : t = (w - wat s u) / (f : Rat)) :
    boil s w f u t = wat s u ∧ stren s (wat s u) = some u ∧ 0 < t ∧ ∀ h : Rat, 0 < h → (boil s w f u (t + h) = wat s u ∧ (h ≤ 1 → ∃ q, stren s (boil s w f u (t * h)) = some q ∧ (q = u ↔ h = 1) ∧ ready s (boil s w f u (t * h)) f u = some (t - t * h))) := by
  have f0 := cast_pos hf
  have fne : (f : Rat) ≠ 0 := by grind
  have ft : (f : Rat) * t = w - wat s u := by rw [et]; grind
  have wn := wat_nn (Rat.le_of_lt hs) u0 u1
  have tp : 0 < t := by
    rw [et]
    exact (Rat.lt_div_iff f0).mpr (by grind)
  refine ⟨?_, ?_, tp, fun h hh => ⟨?_, fun h1 => ?_⟩⟩
  · unfold boil
    rw [ft]
    grind
  · have e : s + wat s u = s / u := by
      unfold wat
      grind
    have ne : s / u ≠ 0 := by grind
    unfold stren
    rw [e, if_neg ne]
    congr 1
    grind
  · have k := Rat.mul_pos f0 hh
    unfold boil
    rw [Rat.mul_add, ft]
    grind
  · have d : 0 < w - wat s u := by grind
    have k := Rat.mul_nonneg (Rat.le_of_lt d) (show 0 ≤ 1 - h by grind)
    have e : (f : Rat) * (t * h) = (w - wat s u) * h := by rw [← ft]; grind
    have eb : boil s w f u (t * h) = w - (w - wat s u) * h := by
      unfold boil
      rw [e]
      grind
    have xge : wat s u ≤ w - (w - wat s u) * h := by grind
    have sx : s + (w - (w - wat s u) * h) ≠ 0 := by grind
    rw [eb]
    refine ⟨s / (s + (w - (w - wat s u) * h)), if_neg sx, ⟨fun q => ?_, fun q => ?_⟩, ?_⟩
    · have q2 : s = u * (s + (w - (w - wat s u) * h)) := by grind
      have q3 : wat s u = w - (w - wat s u) * h := by
        unfold wat at *
        grind
      have q4 : (w - wat s u) * (1 - h) = 0 := by grind
      have q5 : 1 - h = 0 := by
        rcases Rat.mul_eq_zero.mp q4 with z | z
        · grind
        · exact z
      grind
    · rw [q]
      have e2 : s + (w - (w - wat s u) * 1) = s / u := by
        unfold wat
        grind
      rw [e2]
      grind
    · unfold ready
      rw [if_neg (by grind)]
      by_cases c : wat s u < w - (w - wat s u) * h
      · rw [if_pos c, if_neg (by omega)]
        congr 1
        rw [et]
        grind
      · rw [if_neg c]
        have q4 : (w - wat s u) * (1 - h) = 0 := by grind
        have q5 : 1 - h = 0 := by
          rcases Rat.mul_eq_zero.mp q4 with z | z
          · grind
          · exact z
        have q6 : h = 1 := by grind
        rw [q6]
        congr 1
        grind
/-- a thing is not among those of a tuple -/
def rNoTup (K : PySem.W.Frag) : R2 := fun x y H Q => ∃ d ds, Dp K H x d ∧ Dp K H y (.tuple ds) ∧ PyData.canLay0 d = true ∧ PyData.canLayAll0 ds = true ∧ PyData.depth d ≤ 60 ∧ Q (.bl (!ds.any fun z => PyData.eqv z d)) H
theorem notTup {X : Cx} {K : PySem.W.Frag} (hK : X.K = K) (room : X.A.units + 64 < cLine) : OpR X (compareOp .NotIn) (rNoTup K) := by
  subst hK
  intro pn s0 σ H x y v1 v2 Q I a1 a2 h
  obtain ⟨d, ds, h1, h2, h3, h4, h5, q⟩ := h
  obtain ⟨as1, r1⟩ := Dp.reads I d x v1 h1 a1
  obtain ⟨as2, r2⟩ := Dp.reads I (.tuple ds) y v2 h2 a2
  exact SeqAt.notIn_tuple_reads r2 r1 h4 h3 (by omega) ⟨.bl _, H, I, rfl, q⟩
/-- a juice in, a juice and a share in, two juices in -/
def sp_j2 (K : PySem.W.Frag) : Sp := fun vs H Q _ => ∃ (x y : Addr) (s w s' w' : Rat) (m n : Nat), vs = [.ref x, .ref y] ∧ JuQ K H x s w ∧ JuQ K H y s' w' ∧ Sz m s ∧ Sz m w ∧ Sz n s' ∧ Sz n w' ∧ m + n ≤ 1900 ∧
  ∀ z H', Same H H' → JuQ K H' z (s + s') (w + w') → Sz (m + n + 1) (s + s') → Sz (m + n + 1) (w + w') → Q (.ref z) H'
def sp_jt (K : PySem.W.Frag) (f : Rat → Rat) : Sp := fun vs H Q _ => ∃ (x y : Addr) (s w t : Rat) (m n : Nat), vs = [.ref x, .ref y] ∧ JuQ K H x s w ∧ FrQ K H y t ∧ Sz m s ∧ Sz m w ∧ Sz n t ∧ m + n ≤ 900 ∧ n ≤ 400 ∧
  ∀ z H', Same H H' → JuQ K H' z (s * f t) (w * f t) → Sz (m + n + 10) (s * f t) → Sz (m + n + 10) (w * f t) → Q (.ref z) H'
def sp_vol (K : PySem.W.Frag) : Sp := fun vs H Q _ => ∃ (x : Addr) (s w : Rat) (m : Nat), vs = [.ref x] ∧ JuQ K H x s w ∧ Sz m s ∧ Sz m w ∧ m ≤ 900 ∧ ∀ z H', Same H H' → FrQ K H' z (s + w) → Sz (m + m + 1) (s + w) → Q (.ref z) H'
def sp_str (K : PySem.W.Frag) : Sp := fun vs H Q _ => ∃ (x : Addr) (s w : Rat) (m : Nat), vs = [.ref x] ∧ JuQ K H x s w ∧ Sz m s ∧ Sz m w ∧ m ≤ 600 ∧ ∀ v H', Same H H' → OQ K H' v (stren s w) → (∀ q, stren s w = some q → Sz (3 * m + 2) q) → Q v H'
end KR
/-! ### walks over things that may be lists or tuples: for, enumerate, zip -/
namespace KR
open PySem PySem.Spec PyProof.Rows L2
/-- a list, or a tuple -/
def SqB (K : PySem.W.Frag) (H : Hp) (a : Addr) (xs : List V) : Bool → Prop
  | true => SqL K H a xs
  | false => SqT K H a xs
def ItB (h : Heap) (it a : Addr) (i : Nat) : Bool → Prop
  | true => h.IsListIter it a i
  | false => h.IsTupleIter it a i
def IsB (h : Heap) (a : Addr) (items : Array Value) : Bool → Prop
  | true => h.IsList a items
  | false => h.IsTuple a items
def objB (a : Addr) : Bool → Obj
  | true => { cls := .type "list_iterator", data := .fields #[.ref a, .int 0 0] }
  | false => { cls := .type "tuple_iterator", data := .fields #[.ref a, .int 0 0] }
theorem SqB.same {K : PySem.W.Frag} {H H' : Hp} {a : Addr} {xs : List V} {b : Bool} (h : SqB K H a xs b) (s : Same H H') : SqB K H' a xs b := by
  cases b with
  | true => exact s.seq h
  | false => exact Same.tup s h
theorem draws_b {prog : Program} {w : World} {A : Around} (hh : A.handled = none) (it a : Addr) (ne : a ≠ it) (items : Array Value) (b : Bool) :
    Draws prog w A it [it, a] items.size (fun i v => items[i]? = some v) (fun i h => ItB h it a i b ∧ IsB h a items b) := by
  cases b with
  | true => exact Draws.list hh it a ne items
  | false => exact Draws.tuple hh it a ne items
theorem begins_b (a : Addr) (items : Array Value) (b : Bool) : Begins (.ref a) (objB a b) fun h => IsB h a items b := by
  cases b with
  | true => exact begins_list a items
  | false => exact begins_tuple a items
theorem first_b {h : Heap} {it a : Addr} {b : Bool} (e : h.get? it = some (objB a b)) : ItB h it a 0 b := by
  cases b with
  | true => exact ⟨_, e, rfl, rfl⟩
  | false => exact ⟨_, e, rfl, rfl⟩
theorem ItB.obj {h : Heap} {it a : Addr} {i : Nat} {b : Bool} (t : ItB h it a i b) : ∃ o, h.get? it = some o ∧ ∀ v, o.data ≠ .cell v := by
  cases b with
  | true =>
    obtain ⟨o, e, _, d⟩ := t
    exact ⟨o, e, fun v q => by rw [d] at q; cases q⟩
  | false =>
    obtain ⟨o, e, _, d⟩ := t
    exact ⟨o, e, fun v q => by rw [d] at q; cases q⟩
theorem ItB.keep {h h' : Heap} {it a : Addr} {i : Nat} {b : Bool} (t : ItB h it a i b) (k : ∀ o, h.get? it = some o → h'.get? it = some o) : ItB h' it a i b := by
  cases b with
  | true =>
    obtain ⟨o, e, r⟩ := t
    exact ⟨o, k _ e, r⟩
  | false =>
    obtain ⟨o, e, r⟩ := t
    exact ⟨o, k _ e, r⟩
section
variable {X : Cx} {pins : List (Addr × Obj)} {σ : L2.St} {H : Hp} {s : Shared} {a : Addr} {xs ys : List V} {b : Bool}
theorem inv_b (I : Inv X pins σ H s) (h : SqB X.K H a xs b) : ∃ its : List Value, Vals xs its ∧ IsB s.heap a its.toArray b ∧ a < s.heap.objs.size := by
  cases b with
  | true =>
    obtain ⟨its, rv, p, _⟩ := I.list h
    exact ⟨its, rv, p.isList, p.lt⟩
  | false =>
    obtain ⟨its, rv, p, _⟩ := I.tuple h
    obtain ⟨o, e, _⟩ := id p
    exact ⟨its, rv, p, Heap.lt_size e⟩
theorem inj_b (I : Inv X pins σ H s) (h : SqB X.K H a xs b) (k : SqB X.K H a ys b) : xs = ys := by
  cases b with
  | true => exact I.list_inj h k
  | false => exact I.tuple_inj h k
end
/-- pairs of what two things hold -/
def ItzB (K : PySem.W.Frag) (a b : Addr) (p q : Bool) : It :=
  ⟨fun i H => ∃ (xs ys : List V) (x y : V), SqB K H a xs p ∧ SqB K H b ys q ∧ xs[i]? = some x ∧ ys[i]? = some y,
    fun i H v H' => ∃ T x y, v = .ref T ∧ H T = none ∧ H' = upd H T (.tup [x, y]) ∧ (∀ xs, SqB K H a xs p → xs[i]? = some x) ∧ ∀ ys, SqB K H b ys q → ys[i]? = some y,
    fun i H => ∃ xs ys : List V, SqB K H a xs p ∧ SqB K H b ys q ∧ xs.length = i ∧ ys.length = i⟩
theorem turn_zipB {P : Program} {w : World} {K : PySem.W.Frag} {elts : List Expr} {kk : Nat} {tpos : Pos} {a b : Addr} {p q : Bool} {N : Nat} (la : a < N) (lb : b < N) :
    Turn P w K (.Tuple elts kk tpos) (ItzB K a b p q) [N + 4, N + 2, N + 3, N, N + 1] (N + 4) (fun i h => IsZip h (N + 4) (N + 2) (N + 3) .none ∧ IsTupOf2 h (N + 2) (.ref N) (.ref (N + 1)) ∧ (∃ x y, IsTupOf2 h (N + 3) x y) ∧ ItB h N a i p ∧ ItB h (N + 1) b i q) where
  mem := List.mem_cons_self
  obj := fun i h st c hc => by
    obtain ⟨st1, st2, ⟨x, y, st3⟩, st4, st5⟩ := st
    have cs : c = N + 4 ∨ c = N + 2 ∨ c = N + 3 ∨ c = N ∨ c = N + 1 := by simpa using hc
    rcases cs with rfl | rfl | rfl | rfl | rfl
    · exact ⟨_, st1, nofun⟩
    · exact ⟨_, st2, nofun⟩
    · exact ⟨_, st3, nofun⟩
    · exact st4.obj
    · exact st5.obj
  keep := fun i h h' st k => by
    obtain ⟨st1, st2, ⟨x, y, st3⟩, st4, st5⟩ := st
    exact ⟨k _ (by simp) _ st1, k _ (by simp) _ st2, ⟨x, y, k _ (by simp) _ st3⟩, st4.keep (k _ (by simp)), st5.keep (k _ (by simp))⟩
  item := by
    intro X hP hw hK hc i pins s σ H E I hf st hg
    subst hP hw hK
    obtain ⟨st1, st2, ⟨x0, y0, st3⟩, st4, st5⟩ := st
    obtain ⟨xs, ys, x, y, sx, sy, gx, gy⟩ := hg
    obtain ⟨its, rv, ia, _⟩ := inv_b I sx
    obtain ⟨its2, rv2, ib, _⟩ := inv_b I sy
    obtain ⟨u, hu, ru⟩ := rv.get gx
    obtain ⟨u2, hu2, ru2⟩ := rv2.get gy
    have calm : X.A.in1.handled = none := I.ok.hd hc
    have S : ZipSep2 (N + 4) (N + 2) (N + 3) N (N + 1) [N, a] [N + 1, b] := zip_sep2 (fun c z => by rw [List.mem_singleton.mp z]; exact la) (fun c z => by rw [List.mem_singleton.mp z]; exact lb)
    have zlt : N + 4 < s.heap.objs.size := Heap.lt_size st1
    have i1 : i < its.toArray.size := by
      rw [List.size_toArray]
      exact (List.getElem?_eq_some_iff.mp hu).1
    have i2 : i < its2.toArray.size := by
      rw [List.size_toArray]
      exact (List.getElem?_eq_some_iff.mp hu2).1
    refine wpAny_pyNext_zipD2_item S (draws_b calm N a (Nat.ne_of_lt la) its.toArray p) (draws_b calm (N + 1) b (Nat.ne_of_lt (Nat.lt_succ_of_lt lb)) its2.toArray q) st1 st2 st3 ⟨st4, ia⟩ ⟨st5, ib⟩ i1 i2 fun v1 v2 h' tk p1 p2 z' TO' t1' t2' hT hsz hk => ?_
    have p1' : its.toArray[i]? = some v1 := p1
    have p2' : its2.toArray[i]? = some v2 := p2
    rw [List.getElem?_toArray, hu] at p1'
    rw [List.getElem?_toArray, hu2] at p2'
    obtain rfl := Option.some.inj p1'
    obtain rfl := Option.some.inj p2'
    refine ⟨_, rfl, wpAny_letOwnedTupleGo_zip (s := { s with heap := h', toks := tk }) z' fun h'' z'' sb => ?_⟩
    have hT2 : h''.get? s.heap.objs.size = some { cls := .type "tuple", data := .seq #[u, u2] } := (sb.2 _ (Nat.ne_of_gt zlt)).trans hT
    have new : ObjOk X.prog X.w (upd H s.heap.objs.size (.tup [x, y])) h'' s.heap.objs.size (.tup [x, y]) :=
      ⟨small (by show 2 ≤ 100000; decide), [u, u2], .cons ru (.cons ru2 .nil), ⟨_, hT2, rfl, _, rfl⟩⟩
    have out : ∀ {c : Nat}, c ∉ [N + 4, N + 2, N + 3, N, N + 1] → c ≠ N + 4 ∧ c ≠ N + 3 ∧ c ≠ N ∧ c ≠ N + 1 := fun {c} n => ⟨fun q => n (by simp [q]), fun q => n (by simp [q]), fun q => n (by simp [q]), fun q => n (by simp [q])⟩
    have I1 : Inv X pins σ (upd H s.heap.objs.size (.tup [x, y])) { s with heap := h'', toks := tk } :=
      I.turnedNew (t' := tk) (ch := [N + 4, N + 2, N + 3, N, N + 1]) (fun c o hb q => by
        obtain ⟨n1, n2, n3, n4⟩ := out hb
        exact (sb.2 c n1).trans (hk c o n1 n2 n3 n4 q)) hf (Nat.le_refl _) new
    have d1 : (N + 2 : Nat) ≠ N + 4 := by omega
    have d2 : (N + 3 : Nat) ≠ N + 4 := by omega
    have d3 : (N : Nat) ≠ N + 4 := by omega
    have d4 : (N + 1 : Nat) ≠ N + 4 := by omega
    have d5 : (N + 2 : Nat) ≠ N + 3 ∧ (N + 2 : Nat) ≠ N ∧ (N + 2 : Nat) ≠ N + 1 := by omega
    refine ⟨.ref s.heap.objs.size, _, I1, rfl, ⟨_, x, y, rfl, I.hok.fresh (Nat.le_refl _), rfl, fun l hl => by rw [inj_b I hl sx]; exact gx, fun l hl => by rw [inj_b I hl sy]; exact gy⟩, ⟨z'', ?_, ⟨u, u2, ?_⟩, ?_, ?_⟩, fun c hcm => ?_⟩
    · exact (sb.2 _ d1).trans (hk _ _ d1 d5.1 d5.2.1 d5.2.2 st2)
    · exact (sb.2 _ d2).trans TO'
    · exact t1'.1.keep fun o e => (sb.2 _ d3).trans e
    · exact t2'.1.keep fun o e => (sb.2 _ d4).trans e
    · have hlt : c < s.heap.objs.size := by
        have cs : c = N + 4 ∨ c = N + 2 ∨ c = N + 3 ∨ c = N ∨ c = N + 1 := by simpa using hcm
        have : (c : Nat) ≤ N + 4 := by
          rcases cs with q | q | q | q | q <;> rw [q]
          · exact Nat.le_refl _
          · exact Nat.add_le_add_left (by decide : 2 ≤ 4) N
          · exact Nat.add_le_add_left (by decide : 3 ≤ 4) N
          · exact Nat.le_add_right _ _
          · exact Nat.add_le_add_left (by decide : 1 ≤ 4) N
        exact Nat.lt_of_le_of_lt this zlt
      rw [upd_ne (Nat.ne_of_lt hlt)]
      exact (hf c hcm).1
  done := by
    intro X hP hw hK hc i pins s σ H E I hf st hg
    subst hP hw hK
    obtain ⟨st1, st2, ⟨x0, y0, st3⟩, st4, st5⟩ := st
    obtain ⟨xs, ys, sx, sy, l1, l2⟩ := hg
    obtain ⟨its, rv, ia, _⟩ := inv_b I sx
    obtain ⟨its2, rv2, ib, _⟩ := inv_b I sy
    have k1 := rv.length
    have k2 := rv2.length
    have calm : X.A.in1.handled = none := I.ok.hd hc
    have S : ZipSep2 (N + 4) (N + 2) (N + 3) N (N + 1) [N, a] [N + 1, b] := zip_sep2 (fun c z => by rw [List.mem_singleton.mp z]; exact la) (fun c z => by rw [List.mem_singleton.mp z]; exact lb)
    have i1 : its.toArray.size = i := by rw [List.size_toArray]; omega
    have i2 : its2.toArray.size = i := by rw [List.size_toArray]; omega
    refine wpAny_pyNext_zipD2_end S (draws_b calm N a (Nat.ne_of_lt la) its.toArray p) (draws_b calm (N + 1) b (Nat.ne_of_lt (Nat.lt_succ_of_lt lb)) its2.toArray q) st1 st2 st3 ⟨st4, ia⟩ ⟨st5, ib⟩ (by omega) (by omega) (by omega) fun h' tk hk => ⟨rfl, ?_⟩
    exact I.turnedL (t' := tk) (ch := [N + 4, N + 2, N + 3, N, N + 1]) (fun c o hb q => hk c o (fun z => hb (by simp [z])) (fun z => hb (by simp [z])) (fun z => hb (by simp [z])) (fun z => hb (by simp [z])) q) hf
  self := fun A i s Q E st h => wpAny_pyIter_zip st.1 h
def iZipB (K : PySem.W.Frag) (ta : TA) : TI := fun σ H R => ta σ H fun vs H1 => ∃ (a b : Addr) (xs ys : List V) (p q : Bool), vs = [.ref a, .ref b] ∧ SqB K H1 a xs p ∧ SqB K H1 b ys q ∧ R (ItzB K a b p q) H1
theorem pi_zipB {X : Cx} {K : PySem.W.Frag} {e e2 : Expr} {ta : TA} {p pos tpos : Pos} {elts : List Expr} {kk : Nat} (hK : X.K = K) (glob : Gl X "zip") (free : X.mg "zip" = none) (args : PA X [e, e2] ta)
    (st : starEach [e, e2] X.env = (false, eval e X.env) :: starEach [e2] X.env := by rfl) (bk : (backTo pos (starEach [e2] X.env)).any (·.1) = false := by rfl) : PI X (.Tuple elts kk tpos) (.Call (.Name "zip" p) [e, e2] [] pos) (iZipB K ta) := by
  subst hK
  constructor
  intro pins s σ H R I ask
  refine Call_ (ld_blt I glob free PyProof.Rows.boot_zip (PyProof.Rows.callWith_type1 (thn (args.run pos pins s σ H _ I ask) ?_) st bk))
  rintro us s1 ⟨vs, H1, I1, rel, a, b, xs, ys, p, q, ev, sx, sy, k⟩
  subst ev
  cases rel with
  | cons r rr =>
    cases rr with
    | cons r' rr =>
      cases rr
      cases r
      cases r'
      have fresh5 : ∀ c, c ∈ [s1.heap.objs.size + 4, s1.heap.objs.size + 2, s1.heap.objs.size + 3, s1.heap.objs.size, s1.heap.objs.size + 1] → FpOk X pins H1 c := fun c hcm => by
        have cs : c = s1.heap.objs.size + 4 ∨ c = s1.heap.objs.size + 2 ∨ c = s1.heap.objs.size + 3 ∨ c = s1.heap.objs.size ∨ c = s1.heap.objs.size + 1 := by simpa using hcm
        have low : s1.heap.objs.size ≤ c := by rcases cs with q | q | q | q | q <;> rw [q] <;> first | exact Nat.le_refl _ | exact Nat.le_add_right _ _
        exact I1.fpOk low (I1.hok.fresh low)
      obtain ⟨its, _, ia, la⟩ := inv_b I1 sx
      obtain ⟨its2, _, ib, lb⟩ := inv_b I1 sy
      refine zip_begins2 (begins_b a its.toArray p) (begins_b b its2.toArray q) ia ib fun h' hz hTI hTO h1 h2 hsz hk => wpAny_pyIter_zip hz ?_
      have I2 : Inv X pins σ H1 { s1 with heap := h' } := I1.kept (t' := s1.toks) hk
      exact ⟨s1.heap.objs.size + 4, [s1.heap.objs.size + 4, s1.heap.objs.size + 2, s1.heap.objs.size + 3, s1.heap.objs.size, s1.heap.objs.size + 1], _, _, H1, rfl, I2, turn_zipB la lb, ⟨hz, hTI, ⟨_, _, hTO⟩, first_b h1, first_b h2⟩, fresh5, k⟩
theorem walk_zipB {K : PySem.W.Frag} {a b : Addr} {xs ys : List V} {p q : Bool} {n : Nat} (hx : xs.length = n) (hy : ys.length = n) :
    Walk (ItzB K a b p q) n (fun H => SqB K H a xs p ∧ SqB K H b ys q) (YPair (fun i => xs[i]?) (fun i => ys[i]?)) where
  goes := fun i H hi g => ⟨xs, ys, xs[i]'(by omega), ys[i]'(by omega), g.1, g.2, List.getElem?_eq_getElem _, List.getElem?_eq_getElem _⟩
  stops := fun H g => ⟨xs, ys, g.1, g.2, hx, hy⟩
  yields := fun i H v H' hi g y => by
    obtain ⟨T, x, y, rfl, hT, e, f1, f2⟩ := y
    exact ⟨T, x, y, rfl, hT, e, f1 _ g.1, f2 _ g.2⟩
/-- what a thing holds, counted -/
def IteB (K : PySem.W.Frag) (a : Addr) (p : Bool) : It :=
  ⟨fun i H => ∃ (xs : List V) (x : V), SqB K H a xs p ∧ xs[i]? = some x, fun i H v H' => ∃ T x, v = .ref T ∧ H T = none ∧ H' = upd H T (.tup [.int (i : Nat), x]) ∧ ∀ xs, SqB K H a xs p → xs[i]? = some x, fun i H => ∃ xs : List V, SqB K H a xs p ∧ xs.length = i⟩
theorem turn_enumB {P : Program} {w : World} {K : PySem.W.Frag} {elts : List Expr} {kk : Nat} {tpos : Pos} {a : Addr} {p : Bool} {N : Nat} (la : a < N) :
    Turn P w K (.Tuple elts kk tpos) (IteB K a p) [N + 1, N] (N + 1) (fun i h => (∃ old, IsEnum h (N + 1) N ((i : Nat) : Int) old) ∧ ItB h N a i p) where
  mem := List.mem_cons_self
  obj := fun i h st c hc => by
    obtain ⟨⟨old, st1⟩, st2⟩ := st
    have cs : c = N + 1 ∨ c = N := by simpa using hc
    rcases cs with rfl | rfl
    · exact ⟨_, st1, nofun⟩
    · exact st2.obj
  keep := fun i h h' st k => by
    obtain ⟨⟨old, st1⟩, st2⟩ := st
    exact ⟨⟨old, k _ (by simp) _ st1⟩, st2.keep (k _ (by simp))⟩
  item := by
    intro X hP hw hK hc i pins s σ H E I hf st hg
    subst hP hw hK
    obtain ⟨⟨old, st1⟩, st2⟩ := st
    obtain ⟨xs, x, sx, gx⟩ := hg
    obtain ⟨its, rv, ia, _⟩ := inv_b I sx
    obtain ⟨u, hu, ru⟩ := rv.get gx
    have calm : X.A.in1.handled = none := I.ok.hd hc
    have elt : N + 1 < s.heap.objs.size := Heap.lt_size st1
    have i1 : i < its.toArray.size := by
      rw [List.size_toArray]
      exact (List.getElem?_eq_some_iff.mp hu).1
    refine wpAny_pyNext_enum_itemC (draws_b calm N a (Nat.ne_of_lt la) its.toArray p) st1 ⟨st2, ia⟩ i1 (Nat.succ_ne_self N) (by
      intro z
      have cs : N + 1 = N ∨ N + 1 = a := by simpa using z
      have : ¬ (N + 1 = N) := Nat.succ_ne_self N
      rcases cs with q | q
      · exact this q
      · have la' : (a : Nat) < N := la
        rw [← q] at la'
        exact Nat.lt_irrefl N (Nat.lt_trans (Nat.lt_succ_self N) la')) fun v h' tk p1 out t1 hT hsz hk => ?_
    have p1' : its.toArray[i]? = some v := p1
    rw [List.getElem?_toArray, hu] at p1'
    obtain rfl := Option.some.inj p1'
    refine ⟨_, rfl, wpAny_letOwnedTupleGo_enum (s := { s with heap := h', toks := tk + 1 }) out fun h'' he' sb => ?_⟩
    have hT2 : h''.get? s.heap.objs.size = some { cls := .type "tuple", data := .seq #[.int i tk, u] } := (sb.2 _ (Nat.ne_of_gt elt)).trans hT
    have new : ObjOk X.prog X.w (upd H s.heap.objs.size (.tup [.int (i : Nat), x])) h'' s.heap.objs.size (.tup [.int (i : Nat), x]) :=
      ⟨small (by show 2 ≤ 100000; decide), [.int i tk, u], .cons ⟨_, rfl⟩ (.cons ru .nil), ⟨_, hT2, rfl, _, rfl⟩⟩
    have I1 : Inv X pins σ (upd H s.heap.objs.size (.tup [.int (i : Nat), x])) { s with heap := h'', toks := tk + 1 } :=
      I.turnedNew (t' := tk + 1) (ch := [N + 1, N]) (fun c o hb q => (sb.2 c (fun z => hb (by simp [z]))).trans (hk c o (fun z => hb (by simp [z])) (fun z => hb (by simp [z])) q)) hf (Nat.le_refl _) new
    refine ⟨.ref s.heap.objs.size, _, I1, rfl, ⟨_, x, rfl, I.hok.fresh (Nat.le_refl _), rfl, fun l hl => by rw [inj_b I hl sx]; exact gx⟩, ⟨⟨u, ?_⟩, ?_⟩, fun c hcm => ?_⟩
    · have e1 : ((i + 1 : Nat) : Int) = (i : Int) + 1 := by omega
      rw [e1]
      exact he'
    · exact t1.1.keep fun o e => (sb.2 _ (Nat.ne_of_lt (Nat.lt_succ_self N))).trans e
    · have hlt : c < s.heap.objs.size := by
        have cs : c = N + 1 ∨ c = N := by simpa using hcm
        rcases cs with q | q <;> rw [q]
        · exact elt
        · exact Nat.lt_trans (Nat.lt_succ_self N) elt
      rw [upd_ne (Nat.ne_of_lt hlt)]
      exact (hf c hcm).1
  done := by
    intro X hP hw hK hc i pins s σ H E I hf st hg
    subst hP hw hK
    obtain ⟨⟨old, st1⟩, st2⟩ := st
    obtain ⟨xs, sx, l1⟩ := hg
    obtain ⟨its, rv, ia, _⟩ := inv_b I sx
    have k1 := rv.length
    have calm : X.A.in1.handled = none := I.ok.hd hc
    have i1 : its.toArray.size = i := by rw [List.size_toArray]; omega
    refine wpAny_pyNext_enum_endD (draws_b calm N a (Nat.ne_of_lt la) its.toArray p) st1 (by rw [i1]; exact ⟨st2, ia⟩) fun h' hx => ⟨rfl, ?_⟩
    exact I.turnedL (t' := s.toks) (ch := [N + 1, N]) (fun c o hb q => hx c o (fun z => hb (by simp [z])) q) hf
  self := fun A i s Q E st h => by
    obtain ⟨⟨old, st1⟩, _⟩ := st
    exact wpAny_pyIter_enum st1 h
theorem enum1_meets {v : Value} {o : Obj} {G : Heap → Prop} (B : Begins v o G) :
    Meets (Builtin.«enumerate.__new__» ⟨[.type "enumerate", v], []⟩) (fun _ R s => G s.heap ∧ R (.ok (.ret (.ref (s.heap.push o).objs.size))) { s with heap := (s.heap.push o).push { cls := .type "enumerate", data := .fields #[.none, .bool false, .ref s.heap.objs.size, rawInt 0, .none, .none] } }) :=
  .of_wp fun prog w A R s ask => by
    obtain ⟨hp, g, d, tk, os⟩ := s; obtain ⟨g1, ask⟩ := ask
    have hsub := sub_enumerate
    have way : ∀ {A' : Around} {E : Value → Shared → Prop} {Q : Value → Shared → Prop}, Q (.ref hp.objs.size) ⟨hp.push o, g, d, tk, os⟩ → wpAny (model prog w) A' (pyIter v) Q E ⟨hp, g, d, tk, os⟩ := fun k => B.iter prog w _ _ ⟨hp, g, d, tk, os⟩ _ g1 k
    wp_walk using way
    refine wpAny_stack_any fun st => wpAny_pure ?_
    split
    · rename_i c _ _ _ _ _
      cases (c == Value.type "enumerate") <;> (wp_walk using way; exact ⟨_, rfl, ask⟩)
    · wp_walk using way
      exact ⟨_, rfl, ask⟩
theorem enum1_begins {prog : Program} {w : World} {A : Around} {E : Value → Shared → Prop} {s : Shared} {v : Value} {o : Obj} {G : Heap → Prop} {Q : Value → Shared → Prop} (B : Begins v o G) (g1 : G s.heap)
    (ask : ∀ h', IsEnum h' (s.heap.objs.size + 1) s.heap.objs.size 0 .none → h'.get? s.heap.objs.size = some o → h'.objs.size = s.heap.objs.size + 2 → (∀ b o, s.heap.get? b = some o → h'.get? b = some o) → Q (.ref (s.heap.objs.size + 1)) { s with heap := h' }) :
    wpAny (model prog w) A (call (.type "enumerate") [v]) Q E s := by
  refine callType_new F.called_enumerate (by decide) (F.typeCall_enumerate_1 _) (F.newCall_enumerate_1 _) (fun obj => F.args_object_init_2 obj _) F.entry_enumerate_new (enum1_meets B) ⟨g1, ?_⟩
  have sz : (s.heap.push o).objs.size = s.heap.objs.size + 1 := Heap.size_push ..
  show _ ∧ _
  rw [sz]
  have he : IsEnum ((s.heap.push o).push { cls := .type "enumerate", data := .fields #[.none, .bool false, .ref s.heap.objs.size, rawInt 0, .none, .none] }) (s.heap.objs.size + 1) s.heap.objs.size 0 .none := by
    have k := Heap.get?_push_size (s.heap.push o) (o := { cls := .type "enumerate", data := .fields #[.none, .bool false, .ref s.heap.objs.size, rawInt 0, .none, .none] }) rfl
    rw [sz] at k; exact k
  exact ⟨⟨_, he, rfl⟩, ask _ he (Heap.get?_push_of_some _ (Heap.get?_push_size _ B.free)) (by rw [Heap.size_push, sz]) fun b o x => Heap.get?_push_of_some _ (Heap.get?_push_of_some _ x)⟩
def iEnumB (K : PySem.W.Frag) (ta : TA) : TI := fun σ H R => ta σ H fun vs H1 => ∃ (a : Addr) (xs : List V) (p : Bool), vs = [.ref a] ∧ SqB K H1 a xs p ∧ R (IteB K a p) H1
theorem pi_enumB {X : Cx} {K : PySem.W.Frag} {e : Expr} {ta : TA} {p pos tpos : Pos} {elts : List Expr} {kk : Nat} (hK : X.K = K) (glob : Gl X "enumerate") (free : X.mg "enumerate" = none) (args : PA X [e] ta) (st : starEach [e] X.env = [(false, eval e X.env)] := by rfl) :
    PI X (.Tuple elts kk tpos) (.Call (.Name "enumerate" p) [e] [] pos) (iEnumB K ta) := by
  subst hK
  constructor
  intro pins s σ H R I ask
  refine Call_ (ld_blt I glob free boot_enumerate (PyProof.Rows.callWith_type1 (thn (args.run pos pins s σ H _ I ask) ?_) st rfl))
  rintro us s1 ⟨vs, H1, I1, rel, a, xs, p, ev, sx, k⟩
  subst ev
  cases rel with
  | cons r rr =>
    cases rr
    cases r
    obtain ⟨its, _, ia, la⟩ := inv_b I1 sx
    refine enum1_begins (begins_b a its.toArray p) ia fun h' he h1 hsz hk => wpAny_pyIter_enum he ?_
    have I2 : Inv X pins σ H1 { s1 with heap := h' } := I1.kept (t' := s1.toks) hk
    refine ⟨s1.heap.objs.size + 1, [s1.heap.objs.size + 1, s1.heap.objs.size], _, _, H1, rfl, I2, turn_enumB la, ⟨⟨.none, he⟩, first_b h1⟩, fun c hcm => ?_, k⟩
    have cs : c = s1.heap.objs.size + 1 ∨ c = s1.heap.objs.size := by simpa using hcm
    have low : s1.heap.objs.size ≤ c := by rcases cs with q | q <;> rw [q] <;> first | exact Nat.le_refl _ | exact Nat.le_add_right _ _
    exact I1.fpOk low (I1.hok.fresh low)
theorem walk_enumB {K : PySem.W.Frag} {a : Addr} {xs : List V} {p : Bool} : Walk (IteB K a p) xs.length (fun H => SqB K H a xs p) (YPair (fun i => some (.int (i : Nat))) (fun i => xs[i]?)) where
  goes := fun i H hi g => ⟨xs, xs[i]'(by omega), g, List.getElem?_eq_getElem _⟩
  stops := fun H g => ⟨xs, g, rfl⟩
  yields := fun i H v H' hi g y => by
    obtain ⟨T, x, rfl, hT, e, f⟩ := y
    exact ⟨T, _, x, rfl, hT, e, rfl, f _ g⟩
/-- for over a list or a tuple -/
def iSeqB (K : PySem.W.Frag) (tl : TE) : TI := fun σ H R => tl σ H fun x H1 => ∃ a, x = .ref a ∧ (((∃ xs, SqL K H1 a xs) ∧ R (Itl K a) H1) ∨ ((∃ xs, SqT K H1 a xs) ∧ R (Itt K a) H1))
theorem pi_seqB {X : Cx} {K : PySem.W.Frag} {tg l : Expr} {tl : TE} (hK : X.K = K) (hl : PE X l tl) : PI X tg l (iSeqB K tl) := by
  subst hK
  constructor
  intro pins s σ H R I ask
  refine thn (hl.run pins s σ H _ I ask) fun v s1 ⟨x, H1, I1, r1, a, e, q⟩ => ?_
  subst e
  have e1 : v = Value.ref a := r1
  subst e1
  rcases q with ⟨⟨xs, sx⟩, k⟩ | ⟨⟨xs, sx⟩, k⟩
  · obtain ⟨its, _, ia, _⟩ := I1.list sx
    refine wpAny_pyIter_list ia.isList ⟨s1.heap.objs.size, [s1.heap.objs.size], _, _, H1, rfl, I1.kept (t' := s1.toks) (fun b o e => Heap.get?_push_of_some _ e), turn_list a _, ⟨_, Heap.get?_push_size _ rfl, rfl, rfl⟩, fun c hc => ?_, k⟩
    rw [List.mem_singleton.mp hc]; exact I1.fpOk (Nat.le_refl _) (I1.hok.fresh (Nat.le_refl _))
  · obtain ⟨its, _, ia, _⟩ := I1.tuple sx
    refine wpAny_pyIter_tuple (show s1.heap.IsTuple a its.toArray from ia) ⟨s1.heap.objs.size, [s1.heap.objs.size], _, _, H1, rfl, I1.kept (t' := s1.toks) (fun b o e => Heap.get?_push_of_some _ e), turn_tuple a _, ⟨_, Heap.get?_push_size _ rfl, rfl, rfl⟩, fun c hc => ?_, k⟩
    rw [List.mem_singleton.mp hc]; exact I1.fpOk (Nat.le_refl _) (I1.hok.fresh (Nat.le_refl _))
end KR
/-! ### fractions of many bits: a common bottom, a bound -/
namespace KR
open PySem PySem.Spec PyProof.Rows L2
def sp_lowV : Sp := fun vs H Q _ => ∃ t b : Int, vs = [.int t, .int b] ∧ b ≠ 0 ∧ t.natAbs < 2 ^ 8900 ∧ b.natAbs < 2 ^ 8900 ∧ ∀ p H', Same H H' → H p = none → H' p = some (.tup [.int (low t b).1, .int (low t b).2]) → Q (.ref p) H'
def sp_lowW (K : PySem.W.Frag) : Sp := fun vs H Q _ => ∃ t b : Int, vs = [.int t, .int b] ∧ b ≠ 0 ∧ t.natAbs < 2 ^ 8900 ∧ b.natAbs < 2 ^ 8900 ∧ ∀ p H', Same H H' → H p = none → FrQ K H' p (rq t b) → Q (.ref p) H'
theorem lowW {K : PySem.W.Frag} {vs : List V} {H : Hp} {Q : VK} {E : XK} (h : sp_lowW K vs H Q E) : sp_lowV vs H Q E := by
  obtain ⟨t, b, e, hb, h1, h2, q⟩ := h
  refine ⟨t, b, e, hb, h1, h2, fun p H' s hp h' => q p H' s hp ?_⟩
  rw [rq_low hb] at h'
  exact .of h'
abbrev Big (q : Rat) : Prop := Sz 4400 q
def sp_w2 (K : PySem.W.Frag) (f : Rat → Rat → Rat) (ok : Rat → Rat → Prop) : Sp := fun vs H Q _ => ∃ (x y : Addr) (p q : Rat), vs = [.ref x, .ref y] ∧ FrQ K H x p ∧ FrQ K H y q ∧ Big p ∧ Big q ∧ ok p q ∧ ∀ z H', Same H H' → H z = none → FrQ K H' z (f p q) → Q (.ref z) H'
/-- so often as M tells it is a whole number -/
def Dv (M : Nat) (q : Rat) : Prop := ∃ z : Int, q * ((M : Int) : Rat) = (z : Rat)
theorem Dv.zero {M : Nat} : Dv M 0 := ⟨0, by rw [Rat.zero_mul]; rfl⟩
theorem Dv.int {M : Nat} (i : Int) : Dv M (i : Rat) := ⟨i * M, by rw [Rat.intCast_mul]⟩
theorem Dv.add {M : Nat} {p q : Rat} (h : Dv M p) (k : Dv M q) : Dv M (p + q) := by
  obtain ⟨a, ea⟩ := h
  obtain ⟨b, eb⟩ := k
  exact ⟨a + b, by rw [Rat.add_mul, ea, eb, Rat.intCast_add]⟩
theorem Dv.neg {M : Nat} {p : Rat} (h : Dv M p) : Dv M (-p) := by
  obtain ⟨a, ea⟩ := h
  exact ⟨-a, by rw [Rat.neg_mul, ea, Rat.intCast_neg]⟩
theorem Dv.sub {M : Nat} {p q : Rat} (h : Dv M p) (k : Dv M q) : Dv M (p - q) := by
  rw [Rat.sub_eq_add_neg]
  exact h.add k.neg
theorem Dv.mul {M N : Nat} {p q : Rat} (h : Dv M p) (k : Dv N q) : Dv (M * N) (p * q) := by
  obtain ⟨a, ea⟩ := h
  obtain ⟨b, eb⟩ := k
  refine ⟨a * b, ?_⟩
  rw [Rat.intCast_mul, ← ea, ← eb, Int.natCast_mul, Rat.intCast_mul]
  generalize ((M : Int) : Rat) = m
  generalize ((N : Int) : Rat) = n
  grind
theorem Dv.up {M N : Nat} {q : Rat} (h : Dv M q) (d : M ∣ N) : Dv N q := by
  obtain ⟨a, ea⟩ := h
  obtain ⟨k, rfl⟩ := d
  refine ⟨a * k, ?_⟩
  rw [Rat.intCast_mul, ← ea, Int.natCast_mul, Rat.intCast_mul]
  generalize ((M : Int) : Rat) = m
  generalize ((k : Int) : Rat) = n
  grind
theorem Dv.rq {t b : Int} (hb : 0 < b) : Dv b.natAbs (KR.rq t b) := by
  refine ⟨t, ?_⟩
  have e : ((b.natAbs : Nat) : Int) = b := by omega
  rw [e]
  have h := int_ne (show b ≠ 0 by omega)
  unfold KR.rq
  generalize (t : Rat) = x
  generalize (b : Rat) = y at *
  grind
theorem Dv.den (q : Rat) : Dv q.den q := by
  have k := Dv.rq (t := q.num) (b := (q.den : Int)) (by have := q.den_pos; omega)
  rw [rq_self, Int.natAbs_natCast] at k
  exact k
theorem rat_le_abs {z : Int} {M B : Nat} {q : Rat} (e : q * ((M : Int) : Rat) = (z : Rat)) (lo : -((B : Int) : Rat) ≤ q) (hi : q ≤ ((B : Int) : Rat)) : z.natAbs ≤ B * M := by
  have m0 := cast_nn (show (0 : Int) ≤ (M : Int) by omega)
  have k1 := Rat.mul_le_mul_of_nonneg_right hi m0
  have k2 := Rat.mul_le_mul_of_nonneg_right lo m0
  rw [e, ← Rat.intCast_mul] at k1
  rw [e, ← Rat.intCast_neg, ← Rat.intCast_mul] at k2
  have h1 := Rat.intCast_le_intCast.mp k1
  have h2 := Rat.intCast_le_intCast.mp k2
  have h3 : -(B : Int) * (M : Int) = -((B : Int) * (M : Int)) := Int.neg_mul _ _
  rw [h3] at h2
  have h4 : ((B * M : Nat) : Int) = (B : Int) * (M : Int) := Int.natCast_mul _ _
  omega
/-- what has a common bottom and a bound is not long -/
theorem Dv.sz {M B n : Nat} {q : Rat} (h : Dv M q) (hM : 0 < M) (lo : -((B : Int) : Rat) ≤ q) (hi : q ≤ ((B : Int) : Rat)) (b1 : 1 ≤ B) (fit : B * M < 2 ^ n) : Sz n q := by
  obtain ⟨z, e⟩ := h
  have k := rat_le_abs e lo hi
  have m1 : M ≤ B * M := Nat.le_mul_of_pos_left M b1
  have eq : q = KR.rq z (M : Int) := by
    have h := int_ne (show (M : Int) ≠ 0 by omega)
    unfold KR.rq
    rw [← e]
    generalize ((M : Int) : Rat) = y at *
    grind
  rw [eq]
  exact sz_rq (by omega) (Nat.lt_of_le_of_lt k fit) (by rw [Int.natAbs_natCast]; exact Nat.lt_of_le_of_lt m1 fit)
theorem fit_lt {M B m b n : Nat} (hM : M < 2 ^ m) (hB : B < 2 ^ b) (h : b + m ≤ n) : B * M < 2 ^ n :=
  Nat.lt_of_lt_of_le (by rw [Nat.pow_add]; exact Nat.mul_lt_mul'' hB hM) (Nat.pow_le_pow_right (by decide) h)
theorem Dv.szN {M B n : Nat} {q : Rat} (h : Dv M q) (hM : 0 < M) (lo : 0 ≤ q) (hi : q ≤ ((B : Int) : Rat)) (b1 : 1 ≤ B) (fit : B * M < 2 ^ n) : Sz n q := by
  refine h.sz hM ?_ hi b1 fit
  have := cast_nn (show (0 : Int) ≤ (B : Int) by omega)
  grind
/-- rows of fractions -/
abbrev Fz := Addr × Rat
def rz (l : List Fz) : List V := l.map fun z => V.ref z.1
def FL (K : PySem.W.Frag) (H : Hp) (l : List Fz) : Prop := ∀ z ∈ l, FrQ K H z.1 z.2
theorem FL.same {K : PySem.W.Frag} {H H' : Hp} {l : List Fz} (h : FL K H l) (e : Same H H') : FL K H' l := fun z hz => (h z hz).same e
theorem FL.fr {K : PySem.W.Frag} {H H' : Hp} {p : Addr} {n : Nat} {l : List Fz} (h : FL K H l) (B : BoxAt H p n) (f : Fr p H H') : FL K H' l := fun z hz => (h z hz).fr B f
theorem FL.nil {K : PySem.W.Frag} {H : Hp} : FL K H [] := fun z hz => absurd hz List.not_mem_nil
theorem FL.snoc {K : PySem.W.Frag} {H : Hp} {l : List Fz} {z : Fz} (h : FL K H l) (k : FrQ K H z.1 z.2) : FL K H (l ++ [z]) := fun y hy => by
  rcases List.mem_append.mp hy with m | m
  · exact h y m
  · rw [List.mem_singleton.mp m]
    exact k
theorem FL.put {K : PySem.W.Frag} {H : Hp} {l : List Fz} {p : Addr} {xs ys : List V} (h : FL K H l) (hp : H p = some (.lst xs)) : FL K (upd H p (.lst ys)) l := fun z hz => sqT_frL (h z hz) hp fr_upd
theorem rz_len (l : List Fz) : (rz l).length = l.length := List.length_map _
theorem rz_get {l : List Fz} {i : Nat} {x : V} (h : (rz l)[i]? = some x) : ∃ z, l[i]? = some z ∧ x = .ref z.1 := by
  unfold rz at h
  rw [List.getElem?_map] at h
  cases e : l[i]? with
  | none =>
    rw [e] at h
    cases h
  | some z =>
    rw [e] at h
    exact ⟨z, rfl, (Option.some.inj h).symm⟩
theorem rz_snoc (l : List Fz) (z : Fz) : rz (l ++ [z]) = rz l ++ [.ref z.1] := by
  unfold rz
  rw [List.map_append] <;> rfl
/-- all together -/
def zsum : List Rat → Rat
  | [] => 0
  | q :: r => q + zsum r
theorem zsum_app (a b : List Rat) : zsum (a ++ b) = zsum a + zsum b := by
  induction a with
  | nil =>
    show zsum b = 0 + zsum b
    rw [Rat.zero_add]
  | cons q r ih =>
    show q + zsum (r ++ b) = q + zsum r + zsum b
    rw [ih, Rat.add_assoc]
theorem zsum_one (q : Rat) : zsum [q] = q := Rat.add_zero q
theorem zsum_take {l : List Rat} {i : Nat} {q : Rat} (h : l[i]? = some q) : zsum (l.take (i + 1)) = zsum (l.take i) + q := by
  rw [take_one h, zsum_app, zsum_one]
theorem Dv.all {M : Nat} {l : List Rat} (h : ∀ q ∈ l, Dv M q) : Dv M (zsum l) := by
  induction l with
  | nil => exact .zero
  | cons q r ih => exact (h q List.mem_cons_self).add (ih fun y hy => h y (List.mem_cons_of_mem _ hy))
theorem zsum_nn {l : List Rat} (h : ∀ q ∈ l, 0 ≤ q) : 0 ≤ zsum l := by
  induction l with
  | nil => exact Rat.le_refl
  | cons q r ih =>
    have h1 := h q List.mem_cons_self
    have h2 := ih fun y hy => h y (List.mem_cons_of_mem _ hy)
    show 0 ≤ q + zsum r
    grind
theorem zsum_le {B : Rat} {l : List Rat} (h : ∀ q ∈ l, q ≤ B) : zsum l ≤ ((l.length : Int) : Rat) * B := by
  induction l with
  | nil =>
    show (0 : Rat) ≤ ((0 : Int) : Rat) * B
    have : ((0 : Int) : Rat) = 0 := rfl
    rw [this, Rat.zero_mul]
    exact Rat.le_refl
  | cons q r ih =>
    have h1 := h q List.mem_cons_self
    have h2 := ih fun y hy => h y (List.mem_cons_of_mem _ hy)
    show q + zsum r ≤ (((r.length + 1 : Nat) : Int) : Rat) * B
    have e : (((r.length + 1 : Nat) : Int) : Rat) = ((r.length : Int) : Rat) + 1 := by
      rw [Int.natCast_add, Rat.intCast_add] <;> rfl
    rw [e]
    generalize ((r.length : Int) : Rat) = n at *
    grind
theorem zsum_take_le {l : List Rat} (h : ∀ q ∈ l, 0 ≤ q) (i : Nat) : zsum (l.take i) ≤ zsum l := by
  have e : zsum l = zsum (l.take i) + zsum (l.drop i) := by rw [← zsum_app, List.take_append_drop]
  have k := zsum_nn (l := l.drop i) fun q hq => h q (List.mem_of_mem_drop hq)
  grind
/-- rows of fractions that may be added one after another -/
def AddOk (l : List Rat) : Prop := ∀ i, i ≤ l.length → Big (zsum (l.take i))
/-- a part: from 0 to 1, its bottom at most 12 -/
structure Part (q : Rat) : Prop where
  lo : 0 ≤ q
  hi : q ≤ 1
  bt : q.den ≤ 12
theorem Part.dv {q : Rat} (h : Part q) : Dv 27720 q := by
  refine (Dv.den q).up ?_
  have h1 := h.bt
  have h0 := q.den_pos
  generalize q.den = d at *
  have all : ∀ d, d ≤ 12 → 0 < d → d ∣ 27720 := by decide
  exact all d h1 h0
theorem Part.zero : Part 0 := ⟨Rat.le_refl, by decide, by decide⟩
theorem den_le {t b : Int} (hb : 0 < b) : ((rq t b).den : Int) ≤ b := by
  have e := rq_low (t := t) (b := b) (by omega)
  have k : (low t b).2 = ((rq t b).den : Int) := by rw [e]
  rw [← k]
  show (b.natAbs : Int) / (Nat.gcd t.natAbs b.natAbs : Int) ≤ b
  have g : (0 : Int) < (Nat.gcd t.natAbs b.natAbs : Int) := by
    have := Nat.gcd_pos_of_pos_right t.natAbs (show 0 < b.natAbs by omega)
    omega
  have h := Int.ediv_le_self (a := (b.natAbs : Int)) (Nat.gcd t.natAbs b.natAbs : Int) (by omega)
  omega
theorem Part.rq {t b : Int} (h0 : 0 ≤ t) (h1 : t ≤ b) (hb : 0 < b) (b12 : b ≤ 12) : Part (KR.rq t b) :=
  ⟨rq_nn h0 hb, rq_le_one h1 hb, by have := den_le (t := t) hb; omega⟩
end KR
/-! ### rounds: rows of fractions added, kinds -/
namespace KR
open PySem PySem.Spec PyProof.Rows L2
theorem rz_q {l : List Fz} {i : Nat} {z : Fz} (h : l[i]? = some z) : (l.map (·.2))[i]? = some z.2 := by rw [List.getElem?_map, h] <;> rfl
/-- one after another is added -/
theorem all_loop {K : PySem.W.Frag} {J : It} {G : Hp → Prop} {l : List Fz} {a z0 : Addr} {H H1 : Hp} {D : Ends} {v : Option V} (hw : Walk J (rz l).length G (YAt (rz l))) (hG : ∀ H', Same H H' → G H') (s1 : Same H H1) (h0 : FrQ K H1 z0 0) (hf : FL K H l) (big : ∀ z ∈ l, Big z.2) (add : AddOk (l.map (·.2)))
    (q : ∀ z v H', Same H H' → FrQ K H' z (zsum (l.map (·.2))) → D.nx [some (.ref a), some (.ref z), v] H') :
    ∃ W : Nat → Nat → L2.St → Hp → Prop, (∃ m, W 0 m [some (.ref a), some (.ref z0), v] H1) ∧ ∀ i m σ H, W i m σ H →
      (J.stop i H ∧ D.nx σ H) ∨ (J.go i H ∧ ∃ N : L2.St → Hp → Prop, (∀ σ' H', N σ' H' → ∃ m', m' < m ∧ W (i + 1) m' σ' H') ∧ ∀ x H', J.yld i H x H' → gName 2 x σ H' fun σ2 H2 =>
        tAsg (tCall (sp_w2 K (fun p q => p + q) fun _ _ => True) [] E0 (tCons (tVar 1) (tCons (tVar 2) tNil))) (gName 1) { D with nx := N, ct := N, bk := D.nx } σ2 H2) := by
  refine for_it hw (fun i σ H' => ∃ (z : Addr) (v : Option V), σ = [some (.ref a), some (.ref z), v] ∧ Same H H' ∧ FrQ K H' z (zsum ((l.map (·.2)).take i))) ⟨z0, v, rfl, s1, h0⟩ ?_ ?_ ?_
  · rintro i σ H' _ ⟨z, v, _, s, _⟩
    exact hG H' s
  · rintro i x σ H' H'' hi ⟨z, v, rfl, s, hz⟩ ⟨rfl, hx⟩
    obtain ⟨y, hy, rfl⟩ := rz_get hx
    have my := List.mem_of_getElem? hy
    have il : i < (l.map (·.2)).length := by
      rw [List.length_map]
      exact (List.getElem?_eq_some_iff.mp hy).1
    refine ⟨_, rfl, _, rfl, z, y.1, _, y.2, rfl, hz, (hf y my).same s, add i (Nat.le_of_lt il), big y my, trivial, fun z' H2 s2 n2 h2 => ?_⟩
    refine ⟨z', _, rfl, s.trans s2, ?_⟩
    rw [zsum_take (rz_q hy)]
    exact h2
  · rintro σ H' ⟨z, v, rfl, s, hz⟩
    rw [rz_len] at hz
    have e : (l.map (·.2)).take l.length = l.map (·.2) := by
      rw [← List.length_map (as := l) (·.2), List.take_length]
    rw [e] at hz
    exact q z v H' s hz
theorem part_sz {q : Rat} (h : Part q) : Sz 4 q := by
  have h0 := h.lo
  have h1 := h.hi
  have b := h.bt
  have d0 := q.den_pos
  have n0 : 0 ≤ q.num := Rat.num_nonneg.mpr h0
  have n1 : q.num ≤ (q.den : Int) := by
    have k := (lt_cross 1 q)
    have e : ¬ ((1 : Rat).num * (q.den : Int) < q.num * ((1 : Rat).den : Int)) := fun z => absurd (k.mp z) (by grind)
    have e1 : (1 : Rat).num = 1 := rfl
    have e2 : (((1 : Rat).den : Nat) : Int) = 1 := rfl
    rw [e1, e2] at e
    omega
  exact ⟨by omega, by omega⟩
theorem part_big {q : Rat} (h : Part q) : Big q := (part_sz h).up (by decide)
theorem le_one_iff (q : Rat) : q.num ≤ (q.den : Int) ↔ q ≤ 1 := by
  have k := (lt_cross 1 q)
  have e1 : (1 : Rat).num = 1 := rfl
  have e2 : (((1 : Rat).den : Nat) : Int) = 1 := rfl
  rw [e1, e2, Int.one_mul, Int.mul_one] at k
  constructor
  · intro h
    exact Rat.not_lt.mp fun z => by
      have := k.mpr z
      omega
  · intro h
    exact Int.not_lt.mp fun z => absurd (k.mp z) (Rat.not_lt.mpr h)
theorem sum_big {M B : Nat} {l : List Rat} (dv : ∀ q ∈ l, Dv M q) (lo : ∀ q ∈ l, 0 ≤ q) (hi : zsum l ≤ ((B : Int) : Rat)) (hM : 0 < M) (hB : 1 ≤ B) (fit : B * M < 2 ^ 4400) : AddOk l := fun i _ => by
  have sub : ∀ q ∈ l.take i, q ∈ l := fun q h => List.mem_of_mem_take h
  exact (Dv.all fun q h => dv q (sub q h)).szN hM (zsum_nn fun q h => lo q (sub q h)) (Rat.le_trans (zsum_take_le lo i) hi) hB fit
theorem parts_add {l : List Rat} (h : ∀ q ∈ l, Part q) (len : l.length ≤ 7) : AddOk l := by
  refine sum_big (M := 27720) (B := 7) (fun q hq => (h q hq).dv) (fun q hq => (h q hq).lo) ?_ (by decide) (by decide) (Nat.lt_of_lt_of_le (by decide : 7 * 27720 < 2 ^ 20) (Nat.pow_le_pow_right (by decide) (by decide)))
  have k := zsum_le (B := 1) fun q hq => (h q hq).hi
  have c : ((l.length : Int) : Rat) ≤ ((7 : Int) : Rat) := Rat.intCast_le_intCast.mpr (by omega)
  rw [Rat.mul_one] at k
  exact Rat.le_trans k c
theorem zsum_set {l : List Rat} {i : Nat} {q : Rat} (r : Rat) (h : l[i]? = some q) : zsum (l.set i r) = zsum l - q + r := by
  have lt := (List.getElem?_eq_some_iff.mp h).1
  have e1 : l = l.take i ++ (q :: l.drop (i + 1)) := by
    have := List.take_append_drop i l
    rw [List.drop_eq_getElem_cons lt, (List.getElem?_eq_some_iff.mp h).2] at this
    exact this.symm
  rw [List.set_eq_take_append_cons_drop, if_pos lt, zsum_app]
  have e2 : zsum l = zsum (l.take i) + zsum (q :: l.drop (i + 1)) := by
    rw [← zsum_app, ← e1]
  rw [e2]
  show zsum (l.take i) + (r + zsum (l.drop (i + 1))) = zsum (l.take i) + (q + zsum (l.drop (i + 1))) - q + r
  grind
theorem rz_set (l : List Fz) (i : Nat) (z : Fz) : (rz l).set i (.ref z.1) = rz (l.set i z) := by
  unfold rz
  rw [List.map_set]
theorem cut_rz (l : List Fz) (lo hi : Option Int) : ∃ a b, cutV (rz l) lo hi = rz ((l.drop a).take b) := by
  refine ⟨HT.sIx (rz l).length 0 lo, HT.sIx (rz l).length (rz l).length hi - HT.sIx (rz l).length 0 lo, ?_⟩
  unfold cutV rz
  rw [List.map_take, List.map_drop]
theorem cut_to {xs : List V} {n : Nat} (h : n ≤ xs.length) : cutV xs none (some (n : Int)) = xs.take n := by
  unfold cutV
  rw [HT.sIx_none, HT.sIx_nat, Nat.min_eq_left h, Nat.sub_zero, List.drop_zero]
theorem cut_from {xs : List V} {n : Nat} (h : n ≤ xs.length) : cutV xs (some (n : Int)) none = xs.drop n := by
  unfold cutV
  rw [HT.sIx_none, HT.sIx_nat, Nat.min_eq_left h]
  exact List.take_of_length_le (by rw [List.length_drop]; omega)
theorem rep_rz (k : Nat) (z : Fz) : (List.replicate ((k : Int)).toNat [V.ref z.1]).flatten = rz (List.replicate k z) := by
  rw [Int.toNat_natCast]
  unfold rz
  rw [List.map_replicate]
  induction k with
  | zero => rfl
  | succ k ih =>
    rw [List.replicate_succ, List.flatten_cons, ih, List.replicate_succ] <;> rfl
theorem zsum_rep (k : Nat) : zsum (List.replicate k (0 : Rat)) = 0 := by
  induction k with
  | zero => rfl
  | succ k ih =>
    rw [List.replicate_succ]
    show 0 + zsum (List.replicate k 0) = 0
    rw [ih, Rat.add_zero]
/-- what of drips goes where, as it is drawn -/
structure GoOk (K : PySem.W.Frag) (H : Hp) (k : Nat) (l : List Fz) : Prop where
  fl : FL K H l
  len : l.length = k
  pa : ∀ z ∈ l, Part z.2
  one : zsum (l.map (·.2)) ≤ 1
theorem GoOk.same {K : PySem.W.Frag} {H H' : Hp} {k : Nat} {l : List Fz} (h : GoOk K H k l) (s : Same H H') : GoOk K H' k l := ⟨h.fl.same s, h.len, h.pa, h.one⟩
theorem GoOk.fr {K : PySem.W.Frag} {H H' : Hp} {k n : Nat} {p : Addr} {l : List Fz} (h : GoOk K H k l) (B : BoxAt H p n) (f : Fr p H H') : GoOk K H' k l := ⟨h.fl.fr B f, h.len, h.pa, h.one⟩
theorem mem_q {l : List Fz} {P : Rat → Prop} (h : ∀ z ∈ l, P z.2) : ∀ q ∈ l.map (·.2), P q := fun q hq => by
  obtain ⟨z, hz, rfl⟩ := List.mem_map.mp hq
  exact h z hz
theorem mem_set {l : List Fz} {i : Nat} {z y : Fz} (h : y ∈ l.set i z) : y ∈ l ∨ y = z := List.mem_or_eq_of_mem_set h
theorem rz_take (l : List Fz) (n : Nat) : (rz l).take n = rz (l.take n) := by
  unfold rz
  rw [List.map_take]
theorem rz_drop (l : List Fz) (n : Nat) : (rz l).drop n = rz (l.drop n) := by
  unfold rz
  rw [List.map_drop]
theorem rz_app (l m : List Fz) : rz (l ++ m) = rz l ++ rz m := by
  unfold rz
  rw [List.map_append]
theorem fr_new {p c : Addr} {H H' : Hp} (F : Fr p H H') (n : H' c = none) (ne : c ≠ p) : H c = none := by
  cases e : H c with
  | none => rfl
  | some o =>
    have k := F _ _ ne e
    rw [n] at k
    cases k
theorem goes_sum {l : List Fz} {an : Nat} {y : Fz} {d : Addr} {bt lf tp : Int} (ga : l[an]? = some y) (y0 : y.2 = 0) (inv : zsum (l.map (·.2)) * ((bt : Int) : Rat) = ((bt - lf : Int) : Rat)) (t0 : 0 ≤ tp) (t1 : tp ≤ lf) (lf1 : lf ≤ bt) (b0 : 0 < bt) :
    zsum ((l.set an (d, rq tp bt)).map (·.2)) * ((bt : Int) : Rat) = ((bt - (lf - tp) : Int) : Rat) ∧ zsum ((l.set an (d, rq tp bt)).map (·.2)) ≤ 1 := by
  have e : (l.set an (d, rq tp bt)).map (·.2) = (l.map (·.2)).set an (rq tp bt) := by rw [List.map_set]
  have k := zsum_set (rq tp bt) (rz_q ga)
  rw [e, k, y0]
  have hb := int_ne (show bt ≠ 0 by omega)
  have er : rq tp bt * (bt : Rat) = (tp : Rat) := by
    unfold rq
    generalize (tp : Rat) = x
    generalize (bt : Rat) = z at *
    grind
  have e1 : (zsum (l.map (·.2)) - 0 + rq tp bt) * (bt : Rat) = ((bt - (lf - tp) : Int) : Rat) := by
    rw [Rat.intCast_sub] at inv
    rw [Rat.intCast_sub, Rat.intCast_sub]
    generalize zsum (l.map (·.2)) = s at *
    generalize rq tp bt = r at *
    generalize (tp : Rat) = x at *
    generalize (bt : Rat) = z at *
    generalize (lf : Rat) = w at *
    grind
  refine ⟨e1, ?_⟩
  have bp := cast_pos b0
  have le : ((bt - (lf - tp) : Int) : Rat) ≤ ((bt : Int) : Rat) := Rat.intCast_le_intCast.mpr (by omega)
  refine Rat.not_lt.mp fun z => ?_
  have m := Rat.mul_lt_mul_of_pos_right z bp
  rw [e1, Rat.one_mul] at m
  exact absurd le (Rat.not_le.mpr m)
/-- a kind: where it stands, what it tells -/
structure Kn where
  a : Addr
  d : Addr
  g : Addr
  fresh : Int
  drip : Rat
  goes : List Fz
structure KnOk (K : PySem.W.Frag) (H : Hp) (n : Nat) (k : Kn) : Prop where
  at_ : SqT K H k.a [.int k.fresh, .ref k.d, .ref k.g]
  dr : FrQ K H k.d k.drip
  gs : SqT K H k.g (rz k.goes)
  go : GoOk K H n k.goes
  pd : Part k.drip
  f0 : 0 ≤ k.fresh
  f1 : k.fresh ≤ 1000000
def KnL (K : PySem.W.Frag) (H : Hp) (n : Nat) (ks : List Kn) : Prop := ∀ k ∈ ks, KnOk K H n k
def rk (ks : List Kn) : List V := ks.map fun k => V.ref k.a
theorem rk_len (l : List Kn) : (rk l).length = l.length := List.length_map _
theorem rk_get {l : List Kn} {i : Nat} {x : V} (h : (rk l)[i]? = some x) : ∃ k, l[i]? = some k ∧ x = .ref k.a := by
  unfold rk at h
  rw [List.getElem?_map] at h
  cases e : l[i]? with
  | none =>
    rw [e] at h
    cases h
  | some k =>
    rw [e] at h
    exact ⟨k, rfl, (Option.some.inj h).symm⟩
theorem KnOk.same {K : PySem.W.Frag} {H H' : Hp} {n : Nat} {k : Kn} (h : KnOk K H n k) (s : Same H H') : KnOk K H' n k := ⟨Same.tup s h.at_, h.dr.same s, Same.tup s h.gs, h.go.same s, h.pd, h.f0, h.f1⟩
theorem KnOk.fr {K : PySem.W.Frag} {H H' : Hp} {n m : Nat} {p : Addr} {k : Kn} (h : KnOk K H n k) (B : BoxAt H p m) (f : Fr p H H') : KnOk K H' n k := ⟨sqT_fr h.at_ B f, h.dr.fr B f, sqT_fr h.gs B f, h.go.fr B f, h.pd, h.f0, h.f1⟩
theorem KnOk.put {K : PySem.W.Frag} {H : Hp} {n : Nat} {k : Kn} {q : Addr} {xs ys : List V} (h : KnOk K H n k) (hq : H q = some (.lst xs)) : KnOk K (upd H q (.lst ys)) n k :=
  ⟨sqT_frL h.at_ hq fr_upd, sqT_frL h.dr hq fr_upd, sqT_frL h.gs hq fr_upd, ⟨h.go.fl.put hq, h.go.len, h.go.pa, h.go.one⟩, h.pd, h.f0, h.f1⟩
theorem KnL.same {K : PySem.W.Frag} {H H' : Hp} {n : Nat} {ks : List Kn} (h : KnL K H n ks) (s : Same H H') : KnL K H' n ks := fun k hk => (h k hk).same s
theorem KnL.fr {K : PySem.W.Frag} {H H' : Hp} {n m : Nat} {p : Addr} {ks : List Kn} (h : KnL K H n ks) (B : BoxAt H p m) (f : Fr p H H') : KnL K H' n ks := fun k hk => (h k hk).fr B f
/-- an amount that is drawn -/
structure AmQ (q : Rat) : Prop where
  lo : 0 ≤ q
  hi : q ≤ (((10 ^ 40 : Nat) : Int) : Rat)
  bt : q.den ≤ 10 ^ 40
theorem rq_le {t b : Int} (h0 : 0 ≤ t) (hb : 1 ≤ b) : rq t b ≤ (t : Rat) := by
  have h1 := cast_pos (show 0 < b by omega)
  have h2 : ((1 : Int) : Rat) ≤ (b : Rat) := Rat.intCast_le_intCast.mpr hb
  have h3 := cast_nn h0
  unfold rq
  refine div_le h1 ?_
  have k := Rat.mul_le_mul_of_nonneg_left h2 h3
  have e : (t : Rat) * ((1 : Int) : Rat) = (t : Rat) := Rat.mul_one _
  rw [e] at k
  exact k
theorem AmQ.rq {t b : Int} (t0 : 0 ≤ t) (t1 : t ≤ 10 ^ 40) (b1 : 1 ≤ b) (b2 : b ≤ 10 ^ 40) : AmQ (KR.rq t b) := by
  refine ⟨rq_nn t0 (by omega), Rat.le_trans (rq_le t0 b1) (Rat.intCast_le_intCast.mpr (by omega)), ?_⟩
  have k := den_le (t := t) (show 0 < b by omega)
  omega
theorem AmQ.zero : AmQ 0 := ⟨Rat.le_refl, by decide, by decide⟩
/-- what a kind tells -/
structure Kq where
  fresh : Int
  drip : Rat
  goes : List Rat
def Kn.q (k : Kn) : Kq := ⟨k.fresh, k.drip, k.goes.map (·.2)⟩
def comes (ks : List Kq) (qs : List Rat) (p : Nat) : List Rat := List.zipWith (fun q k => q * k.drip * k.goes.getD p 0) qs ks
def onceAt (ks : List Kq) (qs : List Rat) (p : Nat) : Rat := (((ks.map (·.fresh)).getD p 0 : Int) : Rat) + zsum (comes ks qs p)
def onceQ (ks : List Kq) (qs : List Rat) : List Rat := (List.range ks.length).map (onceAt ks qs)
theorem once_len (ks : List Kq) (qs : List Rat) : (onceQ ks qs).length = ks.length := by
  unfold onceQ
  rw [List.length_map, List.length_range]
theorem once_get {ks : List Kq} {qs : List Rat} {i : Nat} (h : i < ks.length) : (onceQ ks qs)[i]? = some (onceAt ks qs i) := by
  unfold onceQ
  rw [List.getElem?_map, List.getElem?_range h] <;> rfl
theorem comes_get {ks : List Kq} {qs : List Rat} {p j : Nat} {q : Rat} {k : Kq} (h1 : qs[j]? = some q) (h2 : ks[j]? = some k) : (comes ks qs p)[j]? = some (q * k.drip * k.goes.getD p 0) := by
  unfold comes
  rw [List.getElem?_zipWith, h1, h2]
theorem comes_len {ks : List Kq} {qs : List Rat} {p : Nat} (h : qs.length = ks.length) : (comes ks qs p).length = ks.length := by
  unfold comes
  rw [List.length_zipWith, h, Nat.min_self]
theorem comes_mem {ks : List Kq} {qs : List Rat} {p : Nat} {r : Rat} (h : r ∈ comes ks qs p) : ∃ q ∈ qs, ∃ k ∈ ks, r = q * k.drip * k.goes.getD p 0 := by
  obtain ⟨j, hj, e⟩ := List.getElem_of_mem h
  have hj' : j < (List.zipWith (fun q (k : Kq) => q * k.drip * k.goes.getD p 0) qs ks).length := hj
  rw [List.length_zipWith] at hj'
  have a : j < qs.length := by omega
  have b : j < ks.length := by omega
  have g := comes_get (p := p) (List.getElem?_eq_getElem a) (List.getElem?_eq_getElem b)
  rw [List.getElem?_eq_getElem hj, e] at g
  exact ⟨_, List.getElem_mem a, _, List.getElem_mem b, Option.some.inj g⟩
/-- kinds as they may be -/
structure KqOk (k : Kq) : Prop where
  pd : Part k.drip
  pg : ∀ q ∈ k.goes, Part q
  f0 : 0 ≤ k.fresh
  f1 : k.fresh ≤ 1000000
theorem KnOk.q {K : PySem.W.Frag} {H : Hp} {n : Nat} {k : Kn} (h : KnOk K H n k) : KqOk k.q := ⟨h.pd, mem_q h.go.pa, h.f0, h.f1⟩
theorem KqOk.at_ {k : Kq} (h : KqOk k) (p : Nat) : Part (k.goes.getD p 0) := by
  by_cases lt : p < k.goes.length
  · rw [List.getD_eq_getElem?_getD, List.getElem?_eq_getElem lt]
    exact h.pg _ (List.getElem_mem lt)
  · rw [List.getD_eq_getElem?_getD, List.getElem?_eq_none (by omega)]
    exact Part.zero
/-- amounts that have a common bottom and a bound -/
structure AmOk (M B : Nat) (qs : List Rat) : Prop where
  dv : ∀ q ∈ qs, Dv M q
  lo : ∀ q ∈ qs, 0 ≤ q
  hi : ∀ q ∈ qs, q ≤ ((B : Int) : Rat)
  hM : 0 < M
  hB : 1 ≤ B
  fit0 : (6 * B + 1000000) * (M * 768398400) < 2 ^ 4300
section
variable {M B : Nat} {qs : List Rat}
theorem AmOk.fit (a : AmOk M B qs) : (6 * B + 1000000) * (M * 768398400) < 2 ^ 4400 := Nat.lt_of_lt_of_le a.fit0 (Nat.pow_le_pow_right (by decide) (by decide))
theorem AmOk.big (a : AmOk M B qs) {N : Nat} {q : Rat} (h : Dv N q) (d : N ∣ M * 768398400) (lo : 0 ≤ q) (hi : q ≤ ((6 * B + 1000000 : Nat) : Int)) : Big q :=
  (h.up d).szN (Nat.mul_pos a.hM (by decide)) lo hi (by omega) a.fit
theorem AmOk.up {a : AmOk M B qs} {q : Rat} (h : q ≤ ((B : Int) : Rat)) : q ≤ ((6 * B + 1000000 : Nat) : Int) := Rat.le_trans h (Rat.intCast_le_intCast.mpr (by omega))
theorem AmOk.one (a : AmOk M B qs) {q : Rat} (h : q ∈ qs) : Big q := a.big (a.dv q h) (Nat.dvd_mul_right _ _) (a.lo q h) (AmOk.up (a := a) (a.hi q h))
theorem mul_part {q r : Rat} {b : Rat} (q0 : 0 ≤ q) (qb : q ≤ b) (r0 : 0 ≤ r) (r1 : r ≤ 1) : 0 ≤ q * r ∧ q * r ≤ b := by
  have k1 := Rat.mul_nonneg q0 r0
  have k2 := Rat.mul_nonneg q0 (show 0 ≤ 1 - r by grind)
  have e : q * (1 - r) = q - q * r := by grind
  rw [e] at k2
  exact ⟨k1, by grind⟩
theorem AmOk.drips (a : AmOk M B qs) {q r : Rat} (h : q ∈ qs) (p : Part r) : Dv (M * 27720) (q * r) ∧ 0 ≤ q * r ∧ q * r ≤ ((B : Int) : Rat) :=
  ⟨(a.dv q h).mul p.dv, mul_part (a.lo q h) (a.hi q h) p.lo p.hi⟩
theorem AmOk.drips_big (a : AmOk M B qs) {q r : Rat} (h : q ∈ qs) (p : Part r) : Big (q * r) := by
  obtain ⟨d, l, u⟩ := a.drips h p
  exact a.big d ⟨27720, by rw [Nat.mul_assoc]⟩ l (AmOk.up (a := a) u)
theorem AmOk.comes (a : AmOk M B qs) {q r g : Rat} (h : q ∈ qs) (p : Part r) (pg : Part g) : Dv (M * 768398400) (q * r * g) ∧ 0 ≤ q * r * g ∧ q * r * g ≤ ((B : Int) : Rat) := by
  obtain ⟨d, l, u⟩ := a.drips h p
  have k := d.mul pg.dv
  rw [Nat.mul_assoc] at k
  exact ⟨k, mul_part l u pg.lo pg.hi⟩
theorem AmOk.comes_big (a : AmOk M B qs) {q r g : Rat} (h : q ∈ qs) (p : Part r) (pg : Part g) : Big (q * r * g) := by
  obtain ⟨d, l, u⟩ := a.comes h p pg
  exact a.big d (Nat.dvd_refl _) l (AmOk.up (a := a) u)
theorem AmOk.all (a : AmOk M B qs) {ks : List Kq} (hk : ∀ k ∈ ks, KqOk k) (p : Nat) (r : Rat) (h : r ∈ KR.comes ks qs p) : Dv (M * 768398400) r ∧ 0 ≤ r ∧ r ≤ ((B : Int) : Rat) := by
  obtain ⟨q, hq, k, hkm, rfl⟩ := comes_mem h
  exact a.comes hq (hk k hkm).pd ((hk k hkm).at_ p)
theorem AmOk.sum_le (a : AmOk M B qs) {ks : List Kq} (hk : ∀ k ∈ ks, KqOk k) (l6 : ks.length ≤ 6) (lq : qs.length = ks.length) (p : Nat) : zsum (KR.comes ks qs p) ≤ ((6 * B : Nat) : Int) := by
  have k := zsum_le (B := ((B : Int) : Rat)) fun r h => (a.all hk p r h).2.2
  rw [comes_len lq, ← Rat.intCast_mul] at k
  refine Rat.le_trans k (Rat.intCast_le_intCast.mpr ?_)
  have : ks.length * B ≤ 6 * B := Nat.mul_le_mul_right _ l6
  exact_mod_cast this
theorem AmOk.add (a : AmOk M B qs) {ks : List Kq} (hk : ∀ k ∈ ks, KqOk k) (l6 : ks.length ≤ 6) (lq : qs.length = ks.length) (p : Nat) : AddOk (KR.comes ks qs p) :=
  sum_big (M := M * 768398400) (B := 6 * B) (fun r h => (a.all hk p r h).1) (fun r h => (a.all hk p r h).2.1) (a.sum_le hk l6 lq p) (Nat.mul_pos a.hM (by decide)) (by have := a.hB; omega)
    (Nat.lt_of_le_of_lt (Nat.mul_le_mul_right _ (by omega)) a.fit)
theorem AmOk.sum_big (a : AmOk M B qs) {ks : List Kq} (hk : ∀ k ∈ ks, KqOk k) (l6 : ks.length ≤ 6) (lq : qs.length = ks.length) (p : Nat) : Big (zsum (KR.comes ks qs p)) :=
  a.big (Dv.all fun r h => (a.all hk p r h).1) (Nat.dvd_refl _) (zsum_nn fun r h => (a.all hk p r h).2.1) (Rat.le_trans (a.sum_le hk l6 lq p) (Rat.intCast_le_intCast.mpr (by omega)))
end
theorem fresh_big {z : Int} (h0 : 0 ≤ z) (h1 : z ≤ 1000000) : Big (z : Rat) := Sz.up (n := 20) (Sz.int (by omega) (by decide)) (by decide)
theorem getD_fresh {ks : List Kn} {i : Nat} {k : Kn} (h : ks[i]? = some k) : ((ks.map Kn.q).map (·.fresh)).getD i 0 = k.fresh := by
  rw [List.getD_eq_getElem?_getD, List.getElem?_map, List.getElem?_map, h] <;> rfl
theorem getD_goes {k : Kn} {i : Nat} {z : Fz} (h : k.goes[i]? = some z) : k.q.goes.getD i 0 = z.2 := by
  show (k.goes.map (·.2)).getD i 0 = z.2
  rw [List.getD_eq_getElem?_getD, rz_q h] <;> rfl
theorem kq_mem {K : PySem.W.Frag} {H : Hp} {n : Nat} {ks : List Kn} (L : KnL K H n ks) : ∀ k ∈ ks.map Kn.q, KqOk k := fun k h => by
  obtain ⟨y, hy, rfl⟩ := List.mem_map.mp h
  exact (L y hy).q
/-- what drips of each -/
def dripsQ (ks : List Kq) (qs : List Rat) : List Rat := List.zipWith (fun q k => q * k.drip) qs ks
theorem drips_get {ks : List Kq} {qs : List Rat} {j : Nat} {q : Rat} {k : Kq} (h1 : qs[j]? = some q) (h2 : ks[j]? = some k) : (dripsQ ks qs)[j]? = some (q * k.drip) := by
  unfold dripsQ
  rw [List.getElem?_zipWith, h1, h2]
theorem drips_len {ks : List Kq} {qs : List Rat} (h : qs.length = ks.length) : (dripsQ ks qs).length = ks.length := by
  unfold dripsQ
  rw [List.length_zipWith, h, Nat.min_self]
/-- what stays of each in the round -/
def keptQ (ks : List Kq) (qs : List Rat) : List Rat := List.zipWith (fun q k => q * k.drip * zsum k.goes) qs ks
theorem kept_get {ks : List Kq} {qs : List Rat} {j : Nat} {q : Rat} {k : Kq} (h1 : qs[j]? = some q) (h2 : ks[j]? = some k) : (keptQ ks qs)[j]? = some (q * k.drip * zsum k.goes) := by
  unfold keptQ
  rw [List.getElem?_zipWith, h1, h2]
theorem kept_len {ks : List Kq} {qs : List Rat} (h : qs.length = ks.length) : (keptQ ks qs).length = ks.length := by
  unfold keptQ
  rw [List.length_zipWith, h, Nat.min_self]
theorem kept_mem {ks : List Kq} {qs : List Rat} {r : Rat} (h : r ∈ keptQ ks qs) : ∃ q ∈ qs, ∃ k ∈ ks, r = q * k.drip * zsum k.goes := by
  obtain ⟨j, hj, e⟩ := List.getElem_of_mem h
  have hj' : j < (List.zipWith (fun q (k : Kq) => q * k.drip * zsum k.goes) qs ks).length := hj
  rw [List.length_zipWith] at hj'
  have g := kept_get (List.getElem?_eq_getElem (show j < qs.length by omega)) (List.getElem?_eq_getElem (show j < ks.length by omega))
  rw [List.getElem?_eq_getElem hj, e] at g
  exact ⟨_, List.getElem_mem _, _, List.getElem_mem _, Option.some.inj g⟩
theorem zsum_add {α : Type} (f g : α → Rat) (l : List α) : zsum (l.map fun x => f x + g x) = zsum (l.map f) + zsum (l.map g) := by
  induction l with
  | nil => exact (Rat.add_zero 0).symm
  | cons x r ih =>
    show f x + g x + zsum (r.map fun x => f x + g x) = f x + zsum (r.map f) + (g x + zsum (r.map g))
    rw [ih]
    grind
theorem zsum_mul {α : Type} (c : Rat) (f : α → Rat) (l : List α) : zsum (l.map fun x => c * f x) = c * zsum (l.map f) := by
  induction l with
  | nil => exact (Rat.mul_zero c).symm
  | cons x r ih =>
    show c * f x + zsum (r.map fun x => c * f x) = c * (f x + zsum (r.map f))
    rw [ih]
    grind
theorem zsum_nil {α : Type} (l : List α) : zsum (l.map fun _ => (0 : Rat)) = 0 := by
  induction l with
  | nil => rfl
  | cons x r ih =>
    show 0 + zsum (r.map fun _ => (0 : Rat)) = 0
    rw [ih, Rat.add_zero]
theorem range_getD (l : List Rat) : (List.range l.length).map (fun p => l.getD p 0) = l := by
  refine List.ext_getElem (by rw [List.length_map, List.length_range]) fun i h1 h2 => ?_
  rw [List.getElem_map, List.getElem_range, List.getD_eq_getElem?_getD, List.getElem?_eq_getElem h2] <;> rfl
theorem comes_sum (n : Nat) : ∀ (ks : List Kq) (qs : List Rat), (∀ k ∈ ks, k.goes.length = n) → zsum ((List.range n).map fun p => zsum (comes ks qs p)) = zsum (keptQ ks qs)
  | [], qs, _ => by
    have e : ∀ p, comes [] qs p = [] := fun p => by
      unfold comes
      cases qs <;> rfl
    have e2 : keptQ [] qs = [] := by
      unfold keptQ
      cases qs <;> rfl
    rw [e2]
    simp only [e]
    exact zsum_nil _
  | k :: ks, [], _ => by
    have e : ∀ p, comes (k :: ks) [] p = [] := fun p => rfl
    simp only [e]
    exact zsum_nil _
  | k :: ks, q :: qs, h => by
    have ih := comes_sum n ks qs fun y hy => h y (List.mem_cons_of_mem _ hy)
    have e : ∀ p, zsum (comes (k :: ks) (q :: qs) p) = q * k.drip * k.goes.getD p 0 + zsum (comes ks qs p) := fun p => rfl
    simp only [e]
    rw [zsum_add, ih, zsum_mul]
    have hk := h k List.mem_cons_self
    have eg := range_getD k.goes
    rw [hk] at eg
    rw [eg] <;> rfl
theorem isum_cast (l : List Int) : zsum (l.map fun z : Int => (z : Rat)) = ((l.sum : Int) : Rat) := by
  induction l with
  | nil => rfl
  | cons z r ih =>
    show (z : Rat) + zsum (r.map fun z : Int => (z : Rat)) = _
    rw [ih, List.sum_cons, Rat.intCast_add]
theorem once_sum {ks : List Kq} {qs : List Rat} (hg : ∀ k ∈ ks, k.goes.length = ks.length) : zsum (onceQ ks qs) = zsum (keptQ ks qs) + (((ks.map (·.fresh)).sum : Int) : Rat) := by
  unfold onceQ onceAt
  rw [zsum_add, comes_sum _ ks qs hg, Rat.add_comm]
  congr 1
  rw [← isum_cast]
  congr 1
  refine List.ext_getElem (by rw [List.length_map, List.length_range, List.length_map, List.length_map]) fun i h1 h2 => ?_
  have hi : i < ks.length := by
    rw [List.length_map, List.length_range] at h1
    exact h1
  rw [List.getElem_map, List.getElem_range, List.getElem_map, List.getD_eq_getElem?_getD, List.getElem?_eq_getElem (by rw [List.length_map]; exact hi)] <;> rfl
section
variable {M B : Nat} {qs : List Rat}
theorem AmOk.kept (a : AmOk M B qs) {q r : Rat} {g : List Rat} (h : q ∈ qs) (p : Part r) (pg : ∀ x ∈ g, Part x) (g1 : zsum g ≤ 1) : Dv (M * 768398400) (q * r * zsum g) ∧ 0 ≤ q * r * zsum g ∧ q * r * zsum g ≤ ((B : Int) : Rat) := by
  obtain ⟨d, l, u⟩ := a.drips h p
  have k := d.mul (Dv.all fun x hx => (pg x hx).dv)
  rw [Nat.mul_assoc] at k
  exact ⟨k, mul_part l u (zsum_nn fun x hx => (pg x hx).lo) g1⟩
theorem AmOk.once (a : AmOk M B qs) {ks : List Kq} (hk : ∀ k ∈ ks, KqOk k) (l6 : ks.length ≤ 6) (lq : qs.length = ks.length) (r : Rat) (h : r ∈ onceQ ks qs) : Dv (M * 768398400) r ∧ 0 ≤ r ∧ r ≤ ((6 * B + 1000000 : Nat) : Int) := by
  unfold onceQ at h
  obtain ⟨p, hp, rfl⟩ := List.mem_map.mp h
  have fr : 0 ≤ (ks.map (·.fresh)).getD p 0 ∧ (ks.map (·.fresh)).getD p 0 ≤ 1000000 := by
    rw [List.getD_eq_getElem?_getD, List.getElem?_map]
    cases e : ks[p]? with
    | none => exact ⟨by decide, by decide⟩
    | some k =>
      have m := List.mem_of_getElem? e
      exact ⟨(hk k m).f0, (hk k m).f1⟩
  have c1 := Dv.all fun r h => (a.all hk p r h).1
  have c2 := zsum_nn fun r h => (a.all hk p r h).2.1
  have c3 := a.sum_le hk l6 lq p
  have f0 := cast_nn fr.1
  have f1 : (((ks.map (·.fresh)).getD p 0 : Int) : Rat) ≤ ((1000000 : Int) : Rat) := Rat.intCast_le_intCast.mpr fr.2
  refine ⟨(Dv.int _).add c1, ?_, ?_⟩
  · unfold onceAt
    grind
  · have e : ((6 * B + 1000000 : Nat) : Int) = ((6 * B : Nat) : Int) + (1000000 : Int) := by omega
    unfold onceAt
    rw [e, Rat.intCast_add]
    grind
theorem AmOk.once_big (a : AmOk M B qs) {ks : List Kq} (hk : ∀ k ∈ ks, KqOk k) (l6 : ks.length ≤ 6) (lq : qs.length = ks.length) (r : Rat) (h : r ∈ onceQ ks qs) : Big r := by
  obtain ⟨d, l, u⟩ := a.once hk l6 lq r h
  exact a.big d (Nat.dvd_refl _) l u
/-- several of them together -/
theorem AmOk.many (a : AmOk M B qs) {l : List Rat} (h : ∀ r ∈ l, Dv (M * 768398400) r ∧ 0 ≤ r ∧ r ≤ ((6 * B + 1000000 : Nat) : Int)) (len : l.length ≤ 20) : AddOk l ∧ Dv (M * 768398400) (zsum l) ∧ 0 ≤ zsum l ∧ Big (zsum l) := by
  have s : zsum l ≤ ((20 * (6 * B + 1000000) : Nat) : Int) := by
    have k := zsum_le fun r hr => (h r hr).2.2
    rw [← Rat.intCast_mul] at k
    refine Rat.le_trans k (Rat.intCast_le_intCast.mpr ?_)
    have : l.length * (6 * B + 1000000) ≤ 20 * (6 * B + 1000000) := Nat.mul_le_mul_right _ len
    exact_mod_cast this
  have fit : 20 * (6 * B + 1000000) * (M * 768398400) < 2 ^ 4400 := by
    have k := a.fit0
    rw [Nat.mul_assoc]
    have e : (2 : Nat) ^ 4400 = 2 ^ 100 * 2 ^ 4300 := by rw [← Nat.pow_add]
    rw [e]
    exact Nat.lt_of_lt_of_le (Nat.mul_lt_mul_of_pos_left k (by decide)) (Nat.mul_le_mul_right _ (by decide))
  have pos := Nat.mul_pos a.hM (show 0 < 768398400 by decide)
  have d := Dv.all fun r hr => (h r hr).1
  have nn := zsum_nn fun r hr => (h r hr).2.1
  exact ⟨KR.sum_big (fun r hr => (h r hr).1) (fun r hr => (h r hr).2.1) s pos (by omega) fit, d, nn, d.szN pos nn s (by omega) fit⟩
end
/-- all bottoms together -/
def prodD : List Rat → Nat
  | [] => 1
  | q :: r => q.den * prodD r
theorem prodD_pos : ∀ l : List Rat, 0 < prodD l
  | [] => Nat.one_pos
  | q :: r => Nat.mul_pos q.den_pos (prodD_pos r)
theorem prodD_dvd : ∀ {l : List Rat} {q : Rat}, q ∈ l → q.den ∣ prodD l
  | x :: r, q, h => by
    rcases List.mem_cons.mp h with e | e
    · rw [e]
      exact Nat.dvd_mul_right _ _
    · exact Nat.dvd_trans (prodD_dvd e) (Nat.dvd_mul_left _ _)
theorem prodD_lt : ∀ {l : List Rat}, (∀ q ∈ l, q.den ≤ 10 ^ 40) → prodD l ≤ (10 ^ 40) ^ l.length
  | [], _ => Nat.le_refl _
  | q :: r, h => by
    have ih := prodD_lt (l := r) fun y hy => h y (List.mem_cons_of_mem _ hy)
    rw [List.length_cons, Nat.pow_succ, Nat.mul_comm ((10 ^ 40) ^ r.length)]
    exact Nat.mul_le_mul (h q List.mem_cons_self) ih
theorem am_ok {qs : List Rat} (h : ∀ q ∈ qs, AmQ q) (len : qs.length ≤ 6) : AmOk (prodD qs) (10 ^ 40) qs where
  dv := fun q hq => (Dv.den q).up (prodD_dvd hq)
  lo := fun q hq => (h q hq).lo
  hi := fun q hq => (h q hq).hi
  hM := prodD_pos qs
  hB := by decide
  fit0 := by
    have k := prodD_lt fun q hq => (h q hq).bt
    have k2 : prodD qs ≤ (10 ^ 40) ^ 6 := Nat.le_trans k (Nat.pow_le_pow_right (by decide) len)
    refine Nat.lt_of_le_of_lt (Nat.mul_le_mul_left _ (Nat.mul_le_mul_right _ k2)) (Nat.lt_of_lt_of_le (by decide : (6 * 10 ^ 40 + 1000000) * ((10 ^ 40) ^ 6 * 768398400) < 2 ^ 1000) (Nat.pow_le_pow_right (by decide) (by decide)))
/-! data -/
def dkn (k : Kn) : PyData := .tuple [.int k.fresh, dq k.drip, .tuple (k.goes.map fun z => dq z.2)]
theorem FL.dps {K : PySem.W.Frag} {H : Hp} : ∀ {l : List Fz}, FL K H l → DpAll K H (rz l) (l.map fun z => dq z.2)
  | [], _ => .nil
  | z :: r, h => .cons (h z List.mem_cons_self).dp (FL.dps fun y hy => h y (List.mem_cons_of_mem _ hy))
theorem KnOk.dp {K : PySem.W.Frag} {H : Hp} {n : Nat} {k : Kn} (h : KnOk K H n k) : Dp K H (.ref k.a) (dkn k) := .tup h.at_ (.cons (.int _) (.cons h.dr.dp (.cons (.tup h.gs h.go.fl.dps) .nil)))
theorem KnL.dps {K : PySem.W.Frag} {H : Hp} {n : Nat} : ∀ {ks : List Kn}, KnL K H n ks → DpAll K H (rk ks) (ks.map dkn)
  | [], _ => .nil
  | z :: r, h => .cons (h z List.mem_cons_self).dp (KnL.dps fun y hy => h y (List.mem_cons_of_mem _ hy))
/-- data that can be compared -/
def Flat (m : Nat) (d : PyData) : Prop := PyData.canLay0 d = true ∧ PyData.depth d ≤ m
theorem flat_all {m : Nat} : ∀ {ds : List PyData}, (∀ d ∈ ds, Flat m d) → PyData.canLayAll0 ds = true ∧ PyData.depthAll ds ≤ m
  | [], _ => ⟨rfl, Nat.zero_le _⟩
  | d :: r, h => by
    obtain ⟨h1, h2⟩ := h d List.mem_cons_self
    obtain ⟨i1, i2⟩ := flat_all (ds := r) fun y hy => h y (List.mem_cons_of_mem _ hy)
    refine ⟨?_, Nat.max_le.mpr ⟨h2, i2⟩⟩
    show (PyData.canLay0 d && PyData.canLayAll0 r) = true
    rw [h1, i1] <;> rfl
theorem flat_list {m : Nat} {ds : List PyData} (h : ∀ d ∈ ds, Flat m d) : Flat (m + 1) (.list ds) := ⟨(flat_all h).1, Nat.succ_le_succ (flat_all h).2⟩
theorem flat_tup {m : Nat} {ds : List PyData} (h : ∀ d ∈ ds, Flat m d) : Flat (m + 1) (.tuple ds) := ⟨(flat_all h).1, Nat.succ_le_succ (flat_all h).2⟩
theorem flat_shaped {m : Nat} {d : PyData} (h : Flat m d) (le : m ≤ 64) : SeqAt.shaped d = true := by
  show (PyData.canLay0 d && decide (PyData.depth d ≤ 64)) = true
  rw [h.1, decide_eq_true (Nat.le_trans h.2 le)] <;> rfl
theorem flat_q (q : Rat) : Flat 1 (dq q) := ⟨rfl, Nat.le_refl _⟩
theorem flat_up {m n : Nat} {d : PyData} (h : Flat m d) (le : m ≤ n) : Flat n d := ⟨h.1, Nat.le_trans h.2 le⟩
theorem flat_qs (l : List Fz) : ∀ d ∈ (l.map fun z => dq z.2), Flat 1 d := fun d hd => by
  obtain ⟨z, _, rfl⟩ := List.mem_map.mp hd
  exact flat_q z.2
theorem flat_kn (k : Kn) : Flat 3 (dkn k) := flat_tup fun d hd => by
  simp only [List.mem_cons, List.not_mem_nil, or_false] at hd
  rcases hd with rfl | rfl | rfl
  · exact ⟨rfl, by show 0 ≤ 2; decide⟩
  · exact flat_up (flat_q _) (by decide)
  · exact flat_tup (flat_qs _)
theorem flat_kns (ks : List Kn) : ∀ d ∈ ks.map dkn, Flat 3 d := fun d hd => by
  obtain ⟨k, _, rfl⟩ := List.mem_map.mp hd
  exact flat_kn k
/-- kinds and amounts beside one another -/
def dka (ks : List Kn) (am : List Fz) : PyData := .list [.list (ks.map dkn), .list (am.map fun z => dq z.2)]
theorem dka_shaped (ks : List Kn) (am : List Fz) : SeqAt.shaped (dka ks am) = true := flat_shaped (m := 5) (flat_list fun d hd => by
  simp only [List.mem_cons, List.not_mem_nil, or_false] at hd
  rcases hd with rfl | rfl
  · exact flat_list (flat_kns ks)
  · exact flat_up (flat_list (flat_qs am)) (by decide)) (by decide)
/-- what doesn't drip of each; what is sold of each -/
def loavesQ (ks : List Kq) (qs : List Rat) : List Rat := List.zipWith (fun q k => q - q * k.drip) qs ks
def soldQ (ks : List Kq) (qs : List Rat) : List Rat := List.zipWith (fun q k => q * k.drip * (1 - zsum k.goes)) qs ks
theorem zw_get {f : Rat → Kq → Rat} {ks : List Kq} {qs : List Rat} {j : Nat} {q : Rat} {k : Kq} (h1 : qs[j]? = some q) (h2 : ks[j]? = some k) : (List.zipWith f qs ks)[j]? = some (f q k) := by
  rw [List.getElem?_zipWith, h1, h2]
theorem zw_len {f : Rat → Kq → Rat} {ks : List Kq} {qs : List Rat} (h : qs.length = ks.length) : (List.zipWith f qs ks).length = ks.length := by
  rw [List.length_zipWith, h, Nat.min_self]
theorem zw_mem {f : Rat → Kq → Rat} {ks : List Kq} {qs : List Rat} {r : Rat} (h : r ∈ List.zipWith f qs ks) : ∃ q ∈ qs, ∃ k ∈ ks, r = f q k := by
  obtain ⟨j, hj, e⟩ := List.getElem_of_mem h
  have hj' := hj
  rw [List.length_zipWith] at hj'
  have g := zw_get (f := f) (List.getElem?_eq_getElem (show j < qs.length by omega)) (List.getElem?_eq_getElem (show j < ks.length by omega))
  rw [List.getElem?_eq_getElem hj, e] at g
  exact ⟨_, List.getElem_mem _, _, List.getElem_mem _, Option.some.inj g⟩
theorem all_parts : ∀ (ks : List Kq) (qs : List Rat), qs.length = ks.length → zsum (keptQ ks qs) + zsum (loavesQ ks qs ++ soldQ ks qs) = zsum qs
  | [], [], _ => by
    show (0 : Rat) + 0 = 0
    exact Rat.add_zero 0
  | k :: ks, q :: qs, h => by
    have ih := all_parts ks qs (Nat.succ.inj h)
    have e1 : zsum (keptQ (k :: ks) (q :: qs)) = q * k.drip * zsum k.goes + zsum (keptQ ks qs) := rfl
    have e2 : zsum (loavesQ (k :: ks) (q :: qs)) = q - q * k.drip + zsum (loavesQ ks qs) := rfl
    have e3 : zsum (soldQ (k :: ks) (q :: qs)) = q * k.drip * (1 - zsum k.goes) + zsum (soldQ ks qs) := rfl
    have e4 : zsum (q :: qs) = q + zsum qs := rfl
    rw [zsum_app] at ih ⊢
    rw [e1, e2, e3, e4, ← ih]
    grind
  | [], _ :: _, h => by simp at h
  | _ :: _, [], h => by simp at h
section
variable {M B : Nat} {qs : List Rat}
theorem AmOk.loaf (a : AmOk M B qs) {q r : Rat} (h : q ∈ qs) (p : Part r) : Dv (M * 768398400) (q - q * r) ∧ 0 ≤ q - q * r ∧ q - q * r ≤ ((B : Int) : Rat) := by
  obtain ⟨d, l, u⟩ := a.drips h p
  have d1 := a.dv q h
  have k := mul_part (a.lo q h) Rat.le_refl p.lo p.hi
  have hi := a.hi q h
  exact ⟨(d1.up (Nat.dvd_mul_right _ _)).sub (d.up ⟨27720, by rw [Nat.mul_assoc]⟩), by grind, by grind⟩
theorem AmOk.sold (a : AmOk M B qs) {q r : Rat} {g : List Rat} (h : q ∈ qs) (p : Part r) (pg : ∀ x ∈ g, Part x) (g1 : zsum g ≤ 1) : Dv (M * 768398400) (q * r * (1 - zsum g)) ∧ 0 ≤ q * r * (1 - zsum g) ∧ q * r * (1 - zsum g) ≤ ((B : Int) : Rat) := by
  obtain ⟨d, l, u⟩ := a.drips h p
  have g0 := zsum_nn fun x hx => (pg x hx).lo
  have k := d.mul ((Dv.int (M := 27720) 1).sub (Dv.all fun x hx => (pg x hx).dv))
  rw [Nat.mul_assoc] at k
  exact ⟨k, mul_part l u (show (0 : Rat) ≤ 1 - zsum g by grind) (show 1 - zsum g ≤ 1 by grind)⟩
end
/-- the rest of a part -/
theorem rest_frac (d : Rat) : (1 - d).num = (d.den : Int) - d.num ∧ ((1 - d).den : Int) = (d.den : Int) := by
  have hb := den_ne' d
  have lo := rat_low d
  have low2 : IsLow ((d.den : Int) - d.num) (d.den : Int) := ⟨lo.pos, by
    have c := lo.cop
    rw [Int.natAbs_natCast] at c ⊢
    have h1 : ((Nat.gcd ((d.den : Int) - d.num).natAbs d.den : Nat) : Int) ∣ (d.den : Int) - d.num := Int.ofNat_dvd_left.mpr (Nat.gcd_dvd_left _ _)
    have h2 : ((Nat.gcd ((d.den : Int) - d.num).natAbs d.den : Nat) : Int) ∣ (d.den : Int) := Int.ofNat_dvd_left.mpr (by rw [Int.natAbs_natCast]; exact Nat.gcd_dvd_right _ _)
    have h3 := Int.dvd_sub h2 h1
    rw [show (d.den : Int) - ((d.den : Int) - d.num) = d.num by omega] at h3
    have h4 := Nat.dvd_gcd (Int.ofNat_dvd_left.mp h3) (Nat.gcd_dvd_right ((d.den : Int) - d.num).natAbs d.den)
    rw [c] at h4
    exact Nat.dvd_one.mp h4⟩
  have er : rq ((d.den : Int) - d.num) (d.den : Int) = 1 - d := by
    have k := rat_nd d
    have h1 := den_ne d
    unfold rq
    rw [Rat.intCast_sub]
    generalize ((d.den : Int) : Rat) = y at *
    generalize (d.num : Rat) = x at *
    rw [← k]
    grind
  have l1 := rq_low (t := (d.den : Int) - d.num) hb
  have l2 := low_eq hb low2 rfl
  rw [l1, er] at l2
  exact ⟨congrArg Prod.fst l2, congrArg Prod.snd l2⟩
theorem rq_rest (d : Rat) : rq ((d.den : Int) - d.num) (d.den : Int) = 1 - d := by
  have k := rat_nd d
  have h1 := den_ne d
  unfold rq
  rw [Rat.intCast_sub]
  generalize ((d.den : Int) : Rat) = y at *
  generalize (d.num : Rat) = x at *
  rw [← k]
  grind
theorem rest_at {K : PySem.W.Frag} {H : Hp} {t : Addr} {d : Rat} (h : H t = some (.tup [.int ((d.den : Int) - d.num), .int (d.den : Int)])) : FrQ K H t (1 - d) := by
  obtain ⟨e1, e2⟩ := rest_frac d
  exact .of (by rw [e1, e2]; exact h)
theorem rest_part {d : Rat} (h : Part d) : Part (1 - d) := by
  refine ⟨?_, ?_, ?_⟩
  · have := h.hi
    grind
  · have := h.lo
    grind
  · have k := (rest_frac d).2
    have b := h.bt
    omega
theorem same_none {H H' : Hp} {a : Addr} (s : Same H H') (n : H' a = none) : H a = none := by
  cases e : H a with
  | none => rfl
  | some o =>
    have k := s _ _ e
    rw [n] at k
    cases k
theorem fresh_sum {K : PySem.W.Frag} {H : Hp} {n : Nat} {ks : List Kn} (L : KnL K H n ks) : 0 ≤ (ks.map (·.fresh)).sum ∧ (ks.map (·.fresh)).sum ≤ 1000000 * (ks.length : Int) := by
  have all : ∀ l : List Kn, (∀ k ∈ l, 0 ≤ k.fresh ∧ k.fresh ≤ 1000000) → 0 ≤ (l.map (·.fresh)).sum ∧ (l.map (·.fresh)).sum ≤ 1000000 * (l.length : Int) := fun l => by
    induction l with
    | nil => exact fun _ => ⟨Int.le_refl _, Int.le_refl _⟩
    | cons k r ih =>
      intro h
      have h1 := h k List.mem_cons_self
      have h2 := ih fun y hy => h y (List.mem_cons_of_mem _ hy)
      rw [List.map_cons, List.sum_cons, List.length_cons]
      omega
  exact all ks fun k hk => ⟨(L k hk).f0, (L k hk).f1⟩
theorem sum_parts_big {l : List Fz} (pa : ∀ z ∈ l, Part z.2) (gl : l.length ≤ 7) : Big (zsum (l.map (·.2))) := by
  have k := parts_add (mem_q pa) (by rw [List.length_map]; exact gl) (l.map (·.2)).length (Nat.le_refl _)
  rw [List.take_length] at k
  exact k
theorem rest_sum_big {l : List Fz} (pa : ∀ z ∈ l, Part z.2) (one : zsum (l.map (·.2)) ≤ 1) : Big (1 - zsum (l.map (·.2))) := by
  have d := (Dv.int (M := 27720) 1).sub (Dv.all fun x hx => (mem_q pa x hx).dv)
  have g0 := zsum_nn fun x hx => (mem_q pa x hx).lo
  exact Dv.szN (B := 1) d (by decide) (show (0 : Rat) ≤ 1 - _ by grind) (show (1 : Rat) - _ ≤ ((1 : Int) : Rat) by have : ((1 : Int) : Rat) = 1 := rfl; grind) (by decide) (Nat.lt_of_lt_of_le (by decide : 1 * 27720 < 2 ^ 20) (Nat.pow_le_pow_right (by decide) (by decide)))
/-- round after round -/
def roundsQ (ks : List Kq) : Nat → List Rat → List Rat
  | 0, qs => qs
  | r + 1, qs => onceQ ks (roundsQ ks r qs)
theorem rounds_len {ks : List Kq} {qs : List Rat} (h : qs.length = ks.length) : ∀ r, (roundsQ ks r qs).length = ks.length
  | 0 => h
  | r + 1 => once_len _ _
theorem rounds_add (ks : List Kq) (qs : List Rat) (b : Nat) : ∀ a, roundsQ ks a (roundsQ ks b qs) = roundsQ ks (a + b) qs
  | 0 => by rw [Nat.zero_add] <;> rfl
  | a + 1 => by
    rw [Nat.add_right_comm]
    show onceQ ks (roundsQ ks a (roundsQ ks b qs)) = onceQ ks (roundsQ ks (a + b) qs)
    rw [rounds_add ks qs b a]
def bR (B : Nat) : Nat → Nat
  | 0 => B
  | r + 1 => 6 * bR B r + 1000000
theorem bR_mono (B : Nat) : ∀ {a b : Nat}, a ≤ b → bR B a ≤ bR B b
  | a, 0, h => by rw [Nat.le_zero.mp h]; exact Nat.le_refl _
  | a, b + 1, h => by
    rcases Nat.lt_or_ge a (b + 1) with l | l
    · have k := bR_mono B (show a ≤ b by omega)
      show _ ≤ 6 * bR B b + 1000000
      omega
    · rw [show a = b + 1 by omega]
      exact Nat.le_refl _
theorem bR_pos {B : Nat} (h : 1 ≤ B) (r : Nat) : 1 ≤ bR B r := Nat.le_trans h (bR_mono B (Nat.zero_le r))
/-- amounts that may be walked on so many rounds -/
theorem rounds_ok {M B N : Nat} {ks : List Kq} {qs : List Rat} (hk : ∀ k ∈ ks, KqOk k) (l6 : ks.length ≤ 6) (lq : qs.length = ks.length) (dv : ∀ q ∈ qs, Dv M q) (lo : ∀ q ∈ qs, 0 ≤ q) (hi : ∀ q ∈ qs, q ≤ ((B : Int) : Rat)) (hM : 0 < M) (hB : 1 ≤ B)
    (fit : (6 * bR B N + 1000000) * (M * 768398400 ^ (N + 1)) < 2 ^ 4300) : ∀ r, r ≤ N → AmOk (M * 768398400 ^ r) (bR B r) (roundsQ ks r qs) := by
  have fitr : ∀ r, r ≤ N → (6 * bR B r + 1000000) * (M * 768398400 ^ r * 768398400) < 2 ^ 4300 := fun r hr => by
    refine Nat.lt_of_le_of_lt (Nat.mul_le_mul ?_ ?_) fit
    · have := bR_mono B hr
      omega
    · rw [Nat.mul_assoc, ← Nat.pow_succ]
      exact Nat.mul_le_mul_left _ (Nat.pow_le_pow_right (by decide) (by omega))
  intro r
  induction r with
  | zero =>
    intro h
    exact ⟨fun q hq => by rw [Nat.pow_zero, Nat.mul_one]; exact dv q hq, lo, hi, Nat.mul_pos hM (Nat.pow_pos (by decide)), hB, fitr 0 h⟩
  | succ r ih =>
    intro h
    have a := ih (by omega)
    have k := a.once hk l6 (rounds_len lq r)
    refine ⟨fun q hq => ?_, fun q hq => (k q hq).2.1, fun q hq => (k q hq).2.2, Nat.mul_pos hM (Nat.pow_pos (by decide)), bR_pos hB _, fitr _ h⟩
    have e := (k q hq).1
    rw [Nat.mul_assoc, ← Nat.pow_succ] at e
    exact e
structure AmS (q : Rat) : Prop where
  lo : 0 ≤ q
  hi : q ≤ ((1000 : Int) : Rat)
  bt : q.den ≤ 60
theorem AmS.rq {t b : Int} (t0 : 0 ≤ t) (t1 : t ≤ 1000) (b1 : 1 ≤ b) (b2 : b ≤ 60) : AmS (KR.rq t b) := by
  refine ⟨rq_nn t0 (by omega), Rat.le_trans (rq_le t0 b1) (Rat.intCast_le_intCast.mpr (by omega)), ?_⟩
  have k := den_le (t := t) (show 0 < b by omega)
  omega
theorem prodD_60 : ∀ {l : List Rat}, (∀ q ∈ l, q.den ≤ 60) → prodD l ≤ 60 ^ l.length
  | [], _ => Nat.le_refl _
  | q :: r, h => by
    have ih := prodD_60 (l := r) fun y hy => h y (List.mem_cons_of_mem _ hy)
    rw [List.length_cons, Nat.pow_succ, Nat.mul_comm (60 ^ r.length)]
    exact Nat.mul_le_mul (h q List.mem_cons_self) ih
theorem am_rounds {ks : List Kq} {qs : List Rat} (hk : ∀ k ∈ ks, KqOk k) (l6 : ks.length ≤ 6) (lq : qs.length = ks.length) (h : ∀ q ∈ qs, AmS q) (r : Nat) (hr : r ≤ 40) : ∃ M B, AmOk M B (roundsQ ks r qs) := by
  have k := prodD_60 fun q hq => (h q hq).bt
  have k2 : prodD qs ≤ 60 ^ 6 := Nat.le_trans k (Nat.pow_le_pow_right (by decide) (by omega))
  exact ⟨_, _, rounds_ok (M := prodD qs) (B := 1000) (N := 40) hk l6 lq (fun q hq => (Dv.den q).up (prodD_dvd hq)) (fun q hq => (h q hq).lo) (fun q hq => (h q hq).hi) (prodD_pos qs) (by decide)
    (Nat.lt_of_le_of_lt (Nat.mul_le_mul_left _ (Nat.mul_le_mul_right _ k2)) (Nat.lt_of_lt_of_le (by decide +kernel : (6 * bR 1000 40 + 1000000) * (60 ^ 6 * 768398400 ^ (40 + 1)) < 2 ^ 2000) (Nat.pow_le_pow_right (by decide) (by decide)))) r hr⟩
theorem and_tail {b : Bool} {A : VK → Prop} {Q : VK} {H : Hp} (hA : ∀ Q : VK, (∀ g, Q (.bl g) H) → A Q) (h : ∀ g, Q (.bl g) H) : if b = true then A Q else Q (.bl false) H := by
  cases b with
  | true => exact hA Q h
  | false => exact h false
end KR
namespace KR
open PySem PySem.Spec PyProof.Rows L2
def top (i : Nat) : Stmt := PySem.Challenge.pw_kettlerow_k53_many_rounds.main.body.getD i (.Pass ⟨0, 0, 0, 0⟩)
abbrev s_p_frac_of : Stmt := top 3
theorem sc_p_frac_of : FnScope ["top", "bottom", "common"] ["top", "bottom"] (defScope s_p_frac_of) := ⟨rfl, rfl, rfl, by decide +kernel, rfl, by decide +kernel, by decide +kernel⟩
abbrev s_p_sum_of : Stmt := top 4
theorem sc_p_sum_of : FnScope ["one", "other"] ["one", "other"] (defScope s_p_sum_of) := ⟨rfl, rfl, rfl, by decide +kernel, rfl, by decide +kernel, by decide +kernel⟩
abbrev s_p_sum_of_all : Stmt := top 5
theorem sc_p_sum_of_all : FnScope ["ones", "whole", "one"] ["ones"] (defScope s_p_sum_of_all) := ⟨rfl, rfl, rfl, by decide +kernel, rfl, by decide +kernel, by decide +kernel⟩
abbrev s_p_product : Stmt := top 6
theorem sc_p_product : FnScope ["one", "other"] ["one", "other"] (defScope s_p_product) := ⟨rfl, rfl, rfl, by decide +kernel, rfl, by decide +kernel, by decide +kernel⟩
abbrev s_p_walked_once : Stmt := top 8
theorem sc_p_walked_once : FnScope ["kinds", "amounts", "dripped", "later", "place", "fresh", "_", "come", "drips", "goes"] ["kinds", "amounts"] (defScope s_p_walked_once) := ⟨rfl, rfl, rfl, by decide +kernel, rfl, by decide +kernel, by decide +kernel⟩
abbrev s_p_walked_on : Stmt := top 9
theorem sc_p_walked_on : FnScope ["kinds", "amounts", "many", "later", "_"] ["kinds", "amounts", "many"] (defScope s_p_walked_on) := ⟨rfl, rfl, rfl, by decide +kernel, rfl, by decide +kernel, by decide +kernel⟩
abbrev s_p__dripped_of : Stmt := top 10
theorem sc_p__dripped_of : FnScope ["kinds", "amounts", "amount", "_", "drip"] ["kinds", "amounts"] (defScope s_p__dripped_of) := ⟨rfl, rfl, rfl, by decide +kernel, rfl, by decide +kernel, by decide +kernel⟩
abbrev s_l_cell_at : Stmt := top 12
theorem sc_l_cell_at : FnScope ["_law_script", "_law_k"] ["_law_script", "_law_k"] (defScope s_l_cell_at) := ⟨rfl, rfl, rfl, by decide +kernel, rfl, by decide +kernel, by decide +kernel⟩
abbrev s_l_box : Stmt := top 13
theorem sc_l_box : FnScope ["_law_script", "_law_k", "_law_cell"] ["_law_script", "_law_k"] (defScope s_l_box) := ⟨rfl, rfl, rfl, by decide +kernel, rfl, by decide +kernel, by decide +kernel⟩
abbrev s_l_take : Stmt := top 14
theorem sc_l_take : FnScope ["_law_box_here", "_law_many", "_law_found", "_law_once_here", "_law_twice"] ["_law_box_here", "_law_many"] (defScope s_l_take) := ⟨rfl, rfl, rfl, by decide +kernel, rfl, by decide +kernel, by decide +kernel⟩
abbrev s_l_low : Stmt := top 15
theorem sc_l_low : FnScope ["_law_top", "_law_bottom", "_law_one", "_law_other"] ["_law_top", "_law_bottom"] (defScope s_l_low) := ⟨rfl, rfl, rfl, by decide +kernel, rfl, by decide +kernel, by decide +kernel⟩
abbrev s_l_plus : Stmt := top 16
theorem sc_l_plus : FnScope ["_law_one", "_law_other"] ["_law_one", "_law_other"] (defScope s_l_plus) := ⟨rfl, rfl, rfl, by decide +kernel, rfl, by decide +kernel, by decide +kernel⟩
abbrev s_l_by : Stmt := top 17
theorem sc_l_by : FnScope ["_law_one", "_law_other"] ["_law_one", "_law_other"] (defScope s_l_by) := ⟨rfl, rfl, rfl, by decide +kernel, rfl, by decide +kernel, by decide +kernel⟩
abbrev s_l_all : Stmt := top 18
theorem sc_l_all : FnScope ["_law_fracs", "_law_found", "_law_one"] ["_law_fracs"] (defScope s_l_all) := ⟨rfl, rfl, rfl, by decide +kernel, rfl, by decide +kernel, by decide +kernel⟩
abbrev s_l_is_fracs : Stmt := top 19
theorem sc_l_is_fracs : FnScope ["_law_found", "_law_due", "_law_one", "_law_other"] ["_law_found", "_law_due"] (defScope s_l_is_fracs) := ⟨rfl, rfl, rfl, by decide +kernel, rfl, by decide +kernel, by decide +kernel⟩
abbrev s_l_is_frac_told : Stmt := top 20
theorem sc_l_is_frac_told : FnScope ["_law_found", "_law_due", "_law_part"] ["_law_found", "_law_due"] (defScope s_l_is_frac_told) := ⟨rfl, rfl, rfl, by decide +kernel, rfl, by decide +kernel, by decide +kernel⟩
abbrev s_l_goes : Stmt := top 21
theorem sc_l_goes : FnScope ["_law_box_here", "_law_many", "_law_bottom", "_law_way", "_law_left", "_law_found", "_law_turn", "_law_at", "_law_own", "_law_some", "_law_whole", "_law_top"] ["_law_box_here", "_law_many"] (defScope s_l_goes) := ⟨rfl, rfl, rfl, by decide +kernel, rfl, by decide +kernel, by decide +kernel⟩
abbrev s_l_kinds : Stmt := top 22
theorem sc_l_kinds : FnScope ["_law_box_here", "_law_many", "_law_found", "_law_turn", "_law_fresh", "_law_bottom", "_law_drip"] ["_law_box_here", "_law_many"] (defScope s_l_kinds) := ⟨rfl, rfl, rfl, by decide +kernel, rfl, by decide +kernel, by decide +kernel⟩
abbrev s_l_amounts : Stmt := top 23
theorem sc_l_amounts : FnScope ["_law_box_here", "_law_many", "_law_sorts", "_law_found", "_law_turn", "_law_top"] ["_law_box_here", "_law_many", "_law_sorts"] (defScope s_l_amounts) := ⟨rfl, rfl, rfl, by decide +kernel, rfl, by decide +kernel, by decide +kernel⟩
abbrev s_l_once : Stmt := top 24
theorem sc_l_once : FnScope ["_law_kinds_here", "_law_amounts_here", "_law_found", "_law_place", "_law_kind", "_law_some", "_law_one", "_law_other"] ["_law_kinds_here", "_law_amounts_here"] (defScope s_l_once) := ⟨rfl, rfl, rfl, by decide +kernel, rfl, by decide +kernel, by decide +kernel⟩
abbrev s_l_right : Stmt := top 25
theorem sc_l_right : FnScope ["_law_box_here", "_law_k", "_law_great", "_law_many", "_law_kinds_here", "_law_amounts_here", "_law_rounds", "_law_more", "_law_due", "_law_turn", "_law_handed", "_law_found", "_law_both"] ["_law_box_here", "_law_k"] (defScope s_l_right) := ⟨rfl, rfl, rfl, by decide +kernel, rfl, by decide +kernel, by decide +kernel⟩
abbrev s_p_law : Stmt := top 26
theorem sc_p_law : FnScope ["_law_script", "_law_k"] ["_law_script"] (defScope s_p_law) := ⟨rfl, rfl, rfl, by decide +kernel, rfl, by decide +kernel, by decide +kernel⟩
structure All (K : PySem.W.Frag) (mg : Str → Option Value) where
  f_p_frac_of : Addr
  fd_p_frac_of : FuncData
  d_p_frac_of : Def K mg "frac_of" s_p_frac_of f_p_frac_of fd_p_frac_of ["top", "bottom"]
  f_p_sum_of : Addr
  fd_p_sum_of : FuncData
  d_p_sum_of : Def K mg "sum_of" s_p_sum_of f_p_sum_of fd_p_sum_of ["one", "other"]
  f_p_sum_of_all : Addr
  fd_p_sum_of_all : FuncData
  d_p_sum_of_all : Def K mg "sum_of_all" s_p_sum_of_all f_p_sum_of_all fd_p_sum_of_all ["ones"]
  f_p_product : Addr
  fd_p_product : FuncData
  d_p_product : Def K mg "product" s_p_product f_p_product fd_p_product ["one", "other"]
  f_p_walked_once : Addr
  fd_p_walked_once : FuncData
  d_p_walked_once : Def K mg "walked_once" s_p_walked_once f_p_walked_once fd_p_walked_once ["kinds", "amounts"]
  f_p_walked_on : Addr
  fd_p_walked_on : FuncData
  d_p_walked_on : Def K mg "walked_on" s_p_walked_on f_p_walked_on fd_p_walked_on ["kinds", "amounts", "many"]
  f_p__dripped_of : Addr
  fd_p__dripped_of : FuncData
  d_p__dripped_of : Def K mg "_dripped_of" s_p__dripped_of f_p__dripped_of fd_p__dripped_of ["kinds", "amounts"]
  f_l_cell_at : Addr
  fd_l_cell_at : FuncData
  d_l_cell_at : Def K mg "_law_cell_at" s_l_cell_at f_l_cell_at fd_l_cell_at ["_law_script", "_law_k"]
  f_l_box : Addr
  fd_l_box : FuncData
  d_l_box : Def K mg "_law_box" s_l_box f_l_box fd_l_box ["_law_script", "_law_k"]
  f_l_take : Addr
  fd_l_take : FuncData
  d_l_take : Def K mg "_law_take" s_l_take f_l_take fd_l_take ["_law_box_here", "_law_many"]
  f_l_low : Addr
  fd_l_low : FuncData
  d_l_low : Def K mg "_law_low" s_l_low f_l_low fd_l_low ["_law_top", "_law_bottom"]
  f_l_plus : Addr
  fd_l_plus : FuncData
  d_l_plus : Def K mg "_law_plus" s_l_plus f_l_plus fd_l_plus ["_law_one", "_law_other"]
  f_l_by : Addr
  fd_l_by : FuncData
  d_l_by : Def K mg "_law_by" s_l_by f_l_by fd_l_by ["_law_one", "_law_other"]
  f_l_all : Addr
  fd_l_all : FuncData
  d_l_all : Def K mg "_law_all" s_l_all f_l_all fd_l_all ["_law_fracs"]
  f_l_is_fracs : Addr
  fd_l_is_fracs : FuncData
  d_l_is_fracs : Def K mg "_law_is_fracs" s_l_is_fracs f_l_is_fracs fd_l_is_fracs ["_law_found", "_law_due"]
  f_l_is_frac_told : Addr
  fd_l_is_frac_told : FuncData
  d_l_is_frac_told : Def K mg "_law_is_frac_told" s_l_is_frac_told f_l_is_frac_told fd_l_is_frac_told ["_law_found", "_law_due"]
  f_l_goes : Addr
  fd_l_goes : FuncData
  d_l_goes : Def K mg "_law_goes" s_l_goes f_l_goes fd_l_goes ["_law_box_here", "_law_many"]
  f_l_kinds : Addr
  fd_l_kinds : FuncData
  d_l_kinds : Def K mg "_law_kinds" s_l_kinds f_l_kinds fd_l_kinds ["_law_box_here", "_law_many"]
  f_l_amounts : Addr
  fd_l_amounts : FuncData
  d_l_amounts : Def K mg "_law_amounts" s_l_amounts f_l_amounts fd_l_amounts ["_law_box_here", "_law_many", "_law_sorts"]
  f_l_once : Addr
  fd_l_once : FuncData
  d_l_once : Def K mg "_law_once" s_l_once f_l_once fd_l_once ["_law_kinds_here", "_law_amounts_here"]
  f_l_right : Addr
  fd_l_right : FuncData
  d_l_right : Def K mg "_law_right" s_l_right f_l_right fd_l_right ["_law_box_here", "_law_k"]
  f_p_law : Addr
  fd_p_law : FuncData
  d_p_law : Def K mg "law" s_p_law f_p_law fd_p_law ["_law_script"]
  b_abs : mg "abs" = none
  b_all : mg "all" = none
  b_bool : mg "bool" = none
  b_enumerate : mg "enumerate" = none
  b_int : mg "int" = none
  b_isinstance : mg "isinstance" = none
  b_len : mg "len" = none
  b_list : mg "list" = none
  b_min : mg "min" = none
  b_range : mg "range" = none
  b_tuple : mg "tuple" = none
  b_zip : mg "zip" = none
  m_gcd : mg "gcd" = some (.builtin "math.gcd")
  C_NOUGHT : Addr
  g_NOUGHT : mg "NOUGHT" = some (.ref C_NOUGHT)
  q_NOUGHT : ∀ H, SqT K H C_NOUGHT [.int 0, .int 1]
end KR
namespace KR
open PySem PySem.Spec PyProof.Rows L2
section
variable {P : Program} {w : World} {K : PySem.W.Frag} {mg : Str → Option Value} {base : Heap}
def sp_l_cell_at (K : PySem.W.Frag) : Sp := fun vs H Q _ => ∃ (a : Addr) (ns : List Int) (k : Int), vs = [.ref a, .int k] ∧ SqL K H a (ns.map V.int) ∧ 0 ≤ k ∧ ∀ z : Int, Q (.int z) H
theorem ok_l_cell_at (T : All K mg) : FnOk P w K mg base CX0 1 T.f_l_cell_at T.fd_l_cell_at ["_law_script", "_law_k"] (sp_l_cell_at K) := by
  refine T.d_l_cell_at.fn.ok sc_l_cell_at (fun vs H Q E h => ?_) (fun cdv A outer s H vs Q E hr h => ?_)
  · obtain ⟨a, ns, k, rfl, _⟩ := h
    rfl
  · obtain ⟨a, ns, k, rfl, hS, h0, q⟩ := h
    refine ⟨_, (pss_cons (ps_if (pt_cmpR op_lt (pv 1) (pe_callB (lenQ (K := K) rfl) (by rfl) T.b_len PySem.boot_len (pa_cons (pv 0) pa_nil)) (nomark _)) (pss_one (ps_ret (pe_ix (ixL (K := K) rfl) (pv 0) (pv 1) (fun _ _ => rfl)))) pss_nil)
      (pss_one (ps_ret pe_int))), ?_⟩
    refine ⟨_, rfl, _, rfl, a, _, rfl, .inl hS, _, _, rfl, rfl, _, rfl, ite2 (fun c => ?_) (fun c => ?_)⟩
    · have c1 : k < ((ns.map V.int).length : Int) := of_decide_eq_true c
      rw [List.length_map] at c1
      refine ⟨_, rfl, _, rfl, a, _, k, _, rfl, rfl, hS, at_of (j := k.toNat) (by omega) (by rw [List.getElem?_map, List.getElem?_eq_getElem (show k.toNat < ns.length by omega)]; rfl), ?_⟩
      exact q _
    · exact q _

end
end KR
namespace KR
open PySem PySem.Spec PyProof.Rows L2
section
variable {P : Program} {w : World} {K : PySem.W.Frag} {mg : Str → Option Value} {base : Heap}
def sp_l_box (K : PySem.W.Frag) : Sp := fun vs H Q _ => ∃ (a : Addr) (ns : List Int) (k : Int), vs = [.ref a, .int k] ∧ SqL K H a (ns.map V.int) ∧ 0 ≤ k ∧ k ≤ 63 ∧ ∀ p H', Same H H' → H p = none → BoxAt H' p 0 → Q (.ref p) H'
theorem ok_l_box (T : All K mg) : FnOk P w K mg base CX0 2 T.f_l_box T.fd_l_box ["_law_script", "_law_k"] (sp_l_box K) := by
  refine T.d_l_box.fn.ok sc_l_box (fun vs H Q E h => ?_) (fun cdv A outer s H vs Q E hr h => ?_)
  · obtain ⟨a, ns, k, rfl, _⟩ := h
    rfl
  · obtain ⟨a, ns, k, rfl, hS, h0, h1, q⟩ := h
    refine ⟨_, (pss_cons (ps_set (i := 2) sc_l_box.nd rfl (by first | exact Or.inl rfl | exact Or.inr rfl) (pe_call (ok_l_cell_at T) hr (by rfl) T.d_l_cell_at.mg T.d_l_cell_at.fn.kp T.d_l_cell_at.b .nil pass0 (pa_cons (pv 0) (pa_cons (pv 1) pa_nil))))
      (pss_one (ps_ret (pe_lstI (pa_cons (pe_op op_mulX (pe_callB call_abs (by rfl) T.b_abs (by decide +kernel) (pa_cons (pv 2) pa_nil)) (pe_callTy call_int1 (by rfl) T.b_int (by decide +kernel) (pa_cons (pe_cmpR op_ge (pe_callB call_abs (by rfl) T.b_abs (by decide +kernel) (pa_cons (pv 2) pa_nil)) (pe_op op_pow pe_int pe_int) (nomark _)) pa_nil))) (pa_cons (pe_op op_add (pe_op op_add (pe_op op_mod (pv 2) pe_int) (pe_op op_mulX pe_int (pv 1))) pe_int) (pa_cons pe_int pa_nil))))))), ?_⟩
    refine ⟨_, rfl, _, rfl, a, ns, k, rfl, hS, h0, fun z => ?_⟩
    refine ⟨_, rfl, _, rfl, _, rfl, _, rfl, _, _, rfl, rfl, ⟨by decide, by decide, by decide⟩, _, _, rfl, rfl, .inr ⟨_, rfl, ?_⟩⟩
    refine ⟨_, _, rfl, rfl, mulR bit_lt, ?_⟩
    refine ⟨_, rfl, _, _, rfl, rfl, (by show (0 : Int) < 2305843009213693951; decide), _, rfl, _, _, rfl, rfl, mulL (by decide), _, _, rfl, rfl, _, _, rfl, rfl, rfl, fun p H1 s1 hp h1 => ?_⟩
    refine q p _ s1 hp ⟨_, _, _, h1, ?_, ?_, ?_, by decide, by decide⟩
    · refine Int.mul_nonneg (by split <;> omega) bit_nn
    · omega
    · omega

end
end KR
namespace KR
open PySem PySem.Spec PyProof.Rows L2
section
variable {P : Program} {w : World} {K : PySem.W.Frag} {mg : Str → Option Value} {base : Heap}
def sp_l_take : Sp := fun vs H Q _ => ∃ (p : Addr) (m : Int) (n : Nat), vs = [.ref p, .int m] ∧ BoxAt H p n ∧ n ≤ 1000000000 ∧ 0 < m ∧ m.natAbs < 2 ^ 200 ∧ ∀ (z : Int) (H' : Hp), 0 ≤ z → z < m → BoxAt H' p (n + 1) → Fr p H H' → Q (.int z) H'
theorem ok_l_take (T : All K mg) : FnOk P w K mg base CX0 1 T.f_l_take T.fd_l_take ["_law_box_here", "_law_many"] sp_l_take := by
  refine T.d_l_take.fn.ok sc_l_take (fun vs H Q E h => ?_) (fun cdv A outer s H vs Q E hr h => ?_)
  · obtain ⟨p, m, n, rfl, _⟩ := h
    rfl
  · obtain ⟨p, m, n, rfl, hB, hn, h0, hm, q⟩ := h
    obtain ⟨a, b, c, hp, ha, hb, hb2, hc, hcn⟩ := hB
    refine ⟨_, (pss_cons (ps_if (pt_cmpR op_gt (pe_ix (ixL (K := K) rfl) (pv 0) pe_int (fun _ _ => rfl)) pe_int (nomark _)) (pss_cons (ps_set (i := 2) sc_l_take.nd rfl (by first | exact Or.inl rfl | exact Or.inr rfl) (pe_op op_mod (pe_ix (ixL (K := K) rfl) (pv 0) pe_int (fun _ _ => rfl)) (pv 1)))
      (pss_cons (ps_asg (pe_op op_fdivW (pe_ix (ixL (K := K) rfl) (pv 0) pe_int (fun _ _ => rfl)) (pv 1)) (pg_sub (pv 0) pe_int set_list))
      (pss_one (ps_ret (pv 2))))) pss_nil)
      (pss_cons (ps_asg (pe_op op_add (pe_ix (ixL (K := K) rfl) (pv 0) pe_int (fun _ _ => rfl)) pe_int) (pg_sub (pv 0) pe_int set_list))
      (pss_cons (ps_set (i := 3) sc_l_take.nd rfl (by first | exact Or.inl rfl | exact Or.inr rfl) (pe_op op_mod (pe_op op_mulX (pe_op op_add (pe_ix (ixL (K := K) rfl) (pv 0) pe_int (fun _ _ => rfl)) (pe_op op_mulX pe_int (pe_ix (ixL (K := K) rfl) (pv 0) pe_int (fun _ _ => rfl)))) (pe_op op_add pe_int (pe_ix (ixL (K := K) rfl) (pv 0) pe_int (fun _ _ => rfl)))) pe_int))
      (pss_cons (ps_set (i := 4) sc_l_take.nd rfl (by first | exact Or.inl rfl | exact Or.inr rfl) (pe_op op_mod (pe_op op_mulX (pe_op op_add (pv 3) (pe_ix (ixL (K := K) rfl) (pv 0) pe_int (fun _ _ => rfl))) (pe_op op_add (pe_op op_mod (pv 3) pe_int) pe_int)) pe_int))
      (pss_one (ps_ret (pe_op op_mod (pe_op op_fdivW (pe_op op_mod (pe_op op_add (pe_op op_mulX (pv 4) pe_int) (pv 3)) pe_int) pe_int) (pv 1)))))))), ?_⟩
    refine ⟨_, rfl, p, _, 0, _, rfl, rfl, SqL.of hp, at0, _, _, rfl, rfl, _, rfl, ite2 (fun c1 => ?_) (fun c1 => ?_)⟩
    · refine ⟨_, rfl, p, _, 0, _, rfl, rfl, SqL.of hp, at0, _, rfl, _, _, rfl, rfl, h0, ?_⟩
      refine ⟨_, rfl, p, _, 0, _, rfl, rfl, SqL.of hp, at0, _, rfl, _, _, rfl, rfl, wide_div h0 hm (by decide) (by decide), ?_⟩
      refine ⟨_, rfl, p, _, 0, 0, rfl, rfl, hp, rfl, ?_⟩
      refine ⟨_, rfl, ?_⟩
      refine q _ _ (Int.emod_nonneg _ (by omega)) (Int.emod_lt_of_pos _ h0) ⟨_, _, _, upd_same, ?_, hb, hb2, hc, by omega⟩ (Fr.put Fr.refl)
      exact Int.ediv_nonneg ha (by omega)
    · refine ⟨_, rfl, p, _, 2, _, rfl, rfl, SqL.of hp, at2, _, _, rfl, rfl, _, rfl, p, _, 2, 2, rfl, rfl, hp, rfl, ?_⟩
      have hp2 : (upd H p (.lst [.int a, .int b, .int (c + 1)])) p = some (.lst [.int a, .int b, .int (c + 1)]) := upd_same
      refine ⟨_, rfl, p, _, 1, _, rfl, rfl, SqL.of hp2, at1, _, rfl, p, _, 2, _, rfl, rfl, SqL.of hp2, at2, _, _, rfl, rfl, mulL (by decide), _, _, rfl, rfl, ?_⟩
      refine ⟨_, rfl, p, _, 2, _, rfl, rfl, SqL.of hp2, at2, _, _, rfl, rfl, _, _, rfl, rfl, mulL (by omega), _, _, rfl, rfl, (by show (0 : Int) < 2147483647; decide), ?_⟩
      generalize e1 : (b + 48271 * (c + 1)) * (39373 + (c + 1)) % 2147483647 = o
      have o1 : 0 ≤ o ∧ o < 2147483647 := by omega
      refine ⟨_, rfl, _, rfl, p, _, 2, _, rfl, rfl, SqL.of hp2, at2, _, _, rfl, rfl, _, rfl, _, _, rfl, rfl, (by show (0 : Int) < 40009; decide), _, _, rfl, rfl, _, _, rfl, rfl, mulL (by omega), _, _, rfl, rfl, (by show (0 : Int) < 2147483629; decide), ?_⟩
      generalize e2 : (o + (c + 1)) * (o % 40009 + 7) % 2147483629 = t
      have t1 : 0 ≤ t ∧ t < 2147483629 := by omega
      refine ⟨_, rfl, _, _, rfl, rfl, mulL (by omega), _, rfl, _, _, rfl, rfl, _, _, rfl, rfl, (by show (0 : Int) < 2147483587; decide), _, _, rfl, rfl, wide_div (b := 10) (by decide) (by decide) (by decide) (by decide), _, rfl, _, _, rfl, rfl, h0, ?_⟩
      exact q _ _ (Int.emod_nonneg _ (by omega)) (Int.emod_lt_of_pos _ h0) ⟨_, _, _, upd_same, ha, hb, hb2, by omega, by omega⟩ (Fr.put Fr.refl)

end
end KR
namespace KR
open PySem PySem.Spec PyProof.Rows L2
section
variable {P : Program} {w : World} {K : PySem.W.Frag} {mg : Str → Option Value} {base : Heap}
theorem ok0_l_low (T : All K mg) : FnOk P w K mg base CX0 1 T.f_l_low T.fd_l_low ["_law_top", "_law_bottom"] sp_lowV := by
  refine T.d_l_low.fn.ok sc_l_low (fun vs H Q E h => ?_) (fun cdv A outer s H vs Q E hr h => ?_)
  · obtain ⟨t, b, rfl, _⟩ := h
    rfl
  · obtain ⟨t, b, rfl, hb, ht, hb2, q⟩ := h
    refine ⟨_, (pss_cons (ps_par (i := 2) (j := 3) (by rfl) sc_l_low.nd rfl rfl (by decide) rfl rfl (pa_cons (pe_callB call_abs (by rfl) T.b_abs (by decide +kernel) (pa_cons (pv 0) pa_nil)) (pa_cons (pe_callB call_abs (by rfl) T.b_abs (by decide +kernel) (pa_cons (pv 1) pa_nil)) pa_nil)) (by rfl))
      (pss_cons (ps_while PassesOwn.never (pt_cmpR op_gt (pv 3) pe_int (nomark _)) (pss_one (ps_par (i := 2) (j := 3) (by rfl) sc_l_low.nd rfl rfl (by decide) rfl rfl (pa_cons (pv 3) (pa_cons (pe_op op_mod (pv 2) (pv 3)) pa_nil)) (by rfl))))
      (pss_one (ps_ret (pe_tupI (pa_cons (pe_op op_mulX (pe_op op_fdivW (pv 0) (pv 2)) (pe_op op_sub pe_int (pe_op op_mulX pe_int (pe_callTy call_int1 (by rfl) T.b_int (by decide +kernel) (pa_cons (pe_cmpR op_lt (pv 1) pe_int (nomark _)) pa_nil))))) (pa_cons (pe_op op_fdivW (pe_callB call_abs (by rfl) T.b_abs (by decide +kernel) (pa_cons (pv 1) pa_nil)) (pv 2)) pa_nil))))))), ?_⟩
    have abs_ : ∀ z : Int, (if z < 0 then -z else z) = (z.natAbs : Int) := fun z => by split <;> omega
    refine ⟨_, rfl, _, rfl, _, rfl, _, rfl, _, _, rfl, ?_⟩
    rw [abs_, abs_]
    refine ⟨fun m σ H' => ∃ x y : Nat, σ = [some (.int t), some (.int b), some (.int x), some (.int y)] ∧ H' = H ∧ Nat.gcd x y = Nat.gcd t.natAbs b.natAbs ∧ m = y, ⟨_, _, _, rfl, rfl, rfl, rfl⟩, ?_⟩
    rintro m σ H' ⟨x, y, rfl, rfl, hg, rfl⟩
    refine ⟨_, rfl, _, _, rfl, rfl, _, rfl, ite2 (fun c => ?_) (fun c => ?_)⟩
    · have c1 : (0 : Int) < m := of_decide_eq_true c
      refine ⟨fun σ' H1 => ∃ x' y' : Nat, σ' = [some (.int t), some (.int b), some (.int x'), some (.int y')] ∧ H1 = H' ∧ Nat.gcd x' y' = Nat.gcd t.natAbs b.natAbs ∧ y' < m, fun σ' H1 ⟨x', y', e1, e2, e3, e4⟩ => ⟨y', e4, x', y', e1, e2, e3, rfl⟩, ?_⟩
      refine ⟨_, rfl, _, rfl, _, rfl, _, _, rfl, rfl, c1, _, _, rfl, ?_⟩
      refine ⟨m, x % m, by rw [Int.natCast_emod]; rfl, rfl, ?_, Nat.mod_lt _ (by omega)⟩
      rw [← hg, Nat.gcd_comm x m, Nat.gcd_rec m x, Nat.gcd_comm]
    · have c1 : ¬ (0 : Int) < m := of_decide_eq_false (Bool.eq_false_iff.mpr c)
      have m0 : m = 0 := by omega
      subst m0
      rw [Nat.gcd_zero_right] at hg
      have x0 : 0 < x := by
        rw [hg]
        exact Nat.gcd_pos_of_pos_right _ (by omega)
      have x1 : (x : Int).natAbs < 2 ^ 8900 := by
        rw [Int.natAbs_natCast, hg]
        exact Nat.lt_of_le_of_lt (Nat.le_of_dvd (by omega) (Nat.gcd_dvd_right _ _)) hb2
      refine ⟨_, rfl, _, rfl, _, _, rfl, rfl, wide_div (b := 8900) (by omega) x1 (by decide) (by decide), _, rfl, _, _, rfl, rfl, .inr ⟨_, rfl, ?_⟩⟩
      refine ⟨_, _, rfl, rfl, mulL (by decide), _, _, rfl, rfl, _, _, rfl, rfl, mulR (by rcases bit_or (c := decide (b < 0) = true) with z | z <;> rw [z] <;> decide), ?_⟩
      refine ⟨_, rfl, _, rfl, _, rfl, _, _, rfl, rfl, wide_div (b := 8900) (by omega) x1 (by decide) (by decide), rfl, fun p H1 s1 hp h1 => ?_⟩
      have e1 : t / (x : Int) * (1 - 2 * (if decide (b < 0) = true then 1 else 0)) = (low t b).1 := by
        unfold low
        rw [hg]
        by_cases z : b < 0
        · rw [if_pos (decide_eq_true z), if_pos z] <;> rfl
        · rw [if_neg (by rw [decide_eq_false z]; exact Bool.false_ne_true), if_neg z] <;> rfl
      have e2 : (if b < 0 then -b else b) / (x : Int) = (low t b).2 := by
        rw [abs_]
        unfold low
        rw [hg]
      refine q p H1 s1 hp ?_
      rw [← e1, ← e2]
      exact h1
theorem ok_l_low (T : All K mg) : FnOk P w K mg base CX0 1 T.f_l_low T.fd_l_low ["_law_top", "_law_bottom"] (sp_lowW K) := (ok0_l_low T).imp fun _ _ _ _ h => lowW h

end
end KR
namespace KR
open PySem PySem.Spec PyProof.Rows L2
section
variable {P : Program} {w : World} {K : PySem.W.Frag} {mg : Str → Option Value} {base : Heap}
theorem ok_l_plus (T : All K mg) : FnOk P w K mg base CX0 2 T.f_l_plus T.fd_l_plus ["_law_one", "_law_other"] (sp_w2 K (fun p q => p + q) (fun _ q => True)) := by
  refine T.d_l_plus.fn.ok sc_l_plus (fun vs H Q E h => ?_) (fun cdv A outer s H vs Q E hr h => ?_)
  · obtain ⟨x, y, p, q, rfl, _⟩ := h
    rfl
  · obtain ⟨x, y, p, q, rfl, hx, hy, zp, zq, hok, k⟩ := h
    have hx' : SqT K H x [.int p.num, .int (p.den : Int)] := hx
    have hy' : SqT K H y [.int q.num, .int (q.den : Int)] := hy
    refine ⟨_, (pss_one (ps_ret (pe_call (ok_l_low T) hr (by rfl) T.d_l_low.mg T.d_l_low.fn.kp T.d_l_low.b .nil pass0 (pa_cons (pe_op op_add (pe_op op_mulX (pe_ix (ixT (K := K) rfl) (pv 0) pe_int (fun _ _ => rfl)) (pe_ix (ixT (K := K) rfl) (pv 1) pe_int (fun _ _ => rfl))) (pe_op op_mulX (pe_ix (ixT (K := K) rfl) (pv 1) pe_int (fun _ _ => rfl)) (pe_ix (ixT (K := K) rfl) (pv 0) pe_int (fun _ _ => rfl)))) (pa_cons (pe_op op_mulX (pe_ix (ixT (K := K) rfl) (pv 0) pe_int (fun _ _ => rfl)) (pe_ix (ixT (K := K) rfl) (pv 1) pe_int (fun _ _ => rfl))) pa_nil))))), ?_⟩
    obtain ⟨a1, a2⟩ := zp
    obtain ⟨b1, b2⟩ := zq
    have hp := den_ne' p
    have hq := den_ne' q
    refine ⟨_, rfl, x, _, 0, _, rfl, rfl, hx', at0, _, rfl, y, _, 1, _, rfl, rfl, hy', at1, _, _, rfl, rfl, mulZ a1 b2 (by omega), _, rfl, y, _, 0, _, rfl, rfl, hy', at0, _, rfl, x, _, 1, _, rfl, rfl, hx', at1, _, _, rfl, rfl, mulZ b1 a2 (by omega), _, _, rfl, rfl, ?_⟩
    refine ⟨_, rfl, x, _, 1, _, rfl, rfl, hx', at1, _, rfl, y, _, 1, _, rfl, rfl, hy', at1, _, _, rfl, rfl, mulZ a2 b2 (by omega), ?_⟩
    refine ⟨_, _, rfl, Int.mul_ne_zero hp hq, lt_up (add_lt (wide_lt a1 b2) (wide_lt b1 a2)) (by omega), lt_up (wide_lt a2 b2) (by omega), ?_⟩
    intro z H' s1 n1 h1
    rw [rq_add] at h1
    exact k z H' s1 n1 h1

end
end KR
namespace KR
open PySem PySem.Spec PyProof.Rows L2
section
variable {P : Program} {w : World} {K : PySem.W.Frag} {mg : Str → Option Value} {base : Heap}
theorem ok_l_by (T : All K mg) : FnOk P w K mg base CX0 2 T.f_l_by T.fd_l_by ["_law_one", "_law_other"] (sp_w2 K (fun p q => p * q) (fun _ q => True)) := by
  refine T.d_l_by.fn.ok sc_l_by (fun vs H Q E h => ?_) (fun cdv A outer s H vs Q E hr h => ?_)
  · obtain ⟨x, y, p, q, rfl, _⟩ := h
    rfl
  · obtain ⟨x, y, p, q, rfl, hx, hy, zp, zq, hok, k⟩ := h
    have hx' : SqT K H x [.int p.num, .int (p.den : Int)] := hx
    have hy' : SqT K H y [.int q.num, .int (q.den : Int)] := hy
    refine ⟨_, (pss_one (ps_ret (pe_call (ok_l_low T) hr (by rfl) T.d_l_low.mg T.d_l_low.fn.kp T.d_l_low.b .nil pass0 (pa_cons (pe_op op_mulX (pe_ix (ixT (K := K) rfl) (pv 0) pe_int (fun _ _ => rfl)) (pe_ix (ixT (K := K) rfl) (pv 1) pe_int (fun _ _ => rfl))) (pa_cons (pe_op op_mulX (pe_ix (ixT (K := K) rfl) (pv 0) pe_int (fun _ _ => rfl)) (pe_ix (ixT (K := K) rfl) (pv 1) pe_int (fun _ _ => rfl))) pa_nil))))), ?_⟩
    obtain ⟨a1, a2⟩ := zp
    obtain ⟨b1, b2⟩ := zq
    have hp := den_ne' p
    have hq := den_ne' q
    refine ⟨_, rfl, x, _, 0, _, rfl, rfl, hx', at0, _, rfl, y, _, 0, _, rfl, rfl, hy', at0, _, _, rfl, rfl, mulZ a1 b1 (by omega), ?_⟩
    refine ⟨_, rfl, x, _, 1, _, rfl, rfl, hx', at1, _, rfl, y, _, 1, _, rfl, rfl, hy', at1, _, _, rfl, rfl, mulZ a2 b2 (by omega), ?_⟩
    refine ⟨_, _, rfl, Int.mul_ne_zero hp hq, lt_up (wide_lt a1 b1) (by omega), lt_up (wide_lt a2 b2) (by omega), ?_⟩
    intro z H' s1 n1 h1
    rw [rq_mul] at h1
    exact k z H' s1 n1 h1

end
end KR
namespace KR
open PySem PySem.Spec PyProof.Rows L2
section
variable {P : Program} {w : World} {K : PySem.W.Frag} {mg : Str → Option Value} {base : Heap}
def sp_l_all (K : PySem.W.Frag) : Sp := fun vs H Q _ => ∃ (a : Addr) (l : List Fz) (p : Bool), vs = [.ref a] ∧ SqB K H a (rz l) p ∧ FL K H l ∧ (∀ z ∈ l, Big z.2) ∧ AddOk (l.map (·.2)) ∧ ∀ z H', Same H H' → FrQ K H' z (zsum (l.map (·.2))) → Q (.ref z) H'
theorem ok_l_all (T : All K mg) : FnOk P w K mg base CX0 3 T.f_l_all T.fd_l_all ["_law_fracs"] (sp_l_all K) := by
  refine T.d_l_all.fn.ok sc_l_all (fun vs H Q E h => ?_) (fun cdv A outer s H vs Q E hr h => ?_)
  · obtain ⟨a, l, p, rfl, _⟩ := h
    rfl
  · obtain ⟨a, l, p, rfl, ha, hf, big, add, q⟩ := h
    refine ⟨_, (pss_cons (ps_set (i := 1) sc_l_all.nd rfl (by first | exact Or.inl rfl | exact Or.inr rfl) (pe_tupI (pa_cons pe_int (pa_cons pe_int pa_nil))))
      (pss_cons (ps_for PassesOwn.never rfl (pi_seqB (K := K) rfl (pv 0)) (pg_name (i := 2) sc_l_all.nd rfl (by first | exact Or.inl rfl | exact Or.inr rfl)) (pss_one (ps_set (i := 1) sc_l_all.nd rfl (by first | exact Or.inl rfl | exact Or.inr rfl) (pe_call (ok_l_plus T) hr (by rfl) T.d_l_plus.mg T.d_l_plus.fn.kp T.d_l_plus.b .nil pass0 (pa_cons (pv 1) (pa_cons (pv 2) pa_nil))))))
      (pss_one (ps_ret (pv 1))))), ?_⟩
    refine ⟨rfl, fun z0 H1 s1 n1 h1 => ?_⟩
    have h1 : FrQ K H1 z0 0 := .of h1
    cases p with
    | true => exact ⟨_, rfl, a, rfl, .inl ⟨⟨_, s1.seq ha⟩, all_loop walk_list (fun H' s => s.seq ha) s1 h1 hf big add fun z v H' s hz => ⟨_, rfl, q z H' s hz⟩⟩⟩
    | false => exact ⟨_, rfl, a, rfl, .inr ⟨⟨_, Same.tup s1 ha⟩, all_loop walk_tup (fun H' s => Same.tup s ha) s1 h1 hf big add fun z v H' s hz => ⟨_, rfl, q z H' s hz⟩⟩⟩

end
end KR
namespace KR
open PySem PySem.Spec PyProof.Rows L2
section
variable {P : Program} {w : World} {K : PySem.W.Frag} {mg : Str → Option Value} {base : Heap}
def sp_l_is_frac_told (K : PySem.W.Frag) : Sp := fun vs H Q _ => ∃ (x y : Addr) (q : Rat), vs = [.ref x, .ref y] ∧ FrQ K H x q ∧ FrQ K H y q ∧ ∀ H', Same H H' → Q (.bl true) H'
theorem ok_l_is_frac_told (T : All K mg) : FnOk P w K mg base CX0 1 T.f_l_is_frac_told T.fd_l_is_frac_told ["_law_found", "_law_due"] (sp_l_is_frac_told K) := by
  refine T.d_l_is_frac_told.fn.ok sc_l_is_frac_told (fun vs H Q E h => ?_) (fun cdv A outer s H vs Q E hr h => ?_)
  · obtain ⟨x, y, q, rfl, _⟩ := h
    rfl
  · obtain ⟨x, y, q, rfl, hx, hy, k⟩ := h
    refine ⟨_, (pss_cons (ps_if (PW.pt (pw_or (pt_not (pt_val (pe_callB (isiK (K := K) rfl) (by rfl) T.b_isinstance (by decide +kernel) (pa_cons (pv 0) (pa_cons (pe_bltn (v := .ty "tuple") (by rfl) T.b_tuple (by decide +kernel) rfl) pa_nil))))) (pw_or1 (pt_cmpR (neDK (K := K) rfl hr.units) (pv 0) (pv 1) (nomark _))))) (pss_one (ps_ret pe_bl)) pss_nil)
      (pss_one (ps_ret (pe_callB (allK (K := K) rfl rfl) (by rfl) T.b_all (by decide +kernel) (pa_cons (pe_lc (own := [("_law_part", 2)]) (g := gName 2) (tt := tYes) (by rfl) sc_l_is_frac_told.nd (pi_tupK (K := K) rfl (pv 0)) (blkOk_by (own := [("_law_part", 2)]) (N := ["_law_found", "_law_due", "_law_part"]) (sc := defScope s_l_is_frac_told) (by decide +kernel)) (fun _ _ _ _ _ => (pg_name (i := 2) sc_l_is_frac_told.nd rfl (by first | exact Or.inl rfl | exact Or.inr rfl))) (fun _ _ _ _ _ => pts_nil) (fun _ _ _ _ _ => (pe_and (pe_callB (isiK (K := K) rfl) (by rfl) T.b_isinstance (by decide +kernel) (pa_cons (pv 2) (pa_cons (pe_bltn (v := .ty "int") (by rfl) T.b_int (by decide +kernel) rfl) pa_nil))) (pe_one (pe_not (pe_callB (isiK (K := K) rfl) (by rfl) T.b_isinstance (by decide +kernel) (pa_cons (pv 2) (pa_cons (pe_bltn (v := .ty "bool") (by rfl) T.b_bool (by decide +kernel) rfl) pa_nil)))))))) pa_nil))))), ?_⟩
    have hx' : SqT K H x [.int q.num, .int (q.den : Int)] := hx
    refine ⟨_, rfl, _, _, _, _, _, rfl, .ty _, sqT_ty hx', kit_ty (show kitB "tuple" "tuple" = some true by decide +kernel), _, rfl, iteF ?_⟩
    refine ⟨_, rfl, _, rfl, dq q, dq q, hx.dp, hy.dp, rfl, rfl, _, rfl, ?_⟩
    rw [SeqAt.eqv_refl _ rfl]
    refine iteF ?_
    refine ⟨_, rfl, x, rfl, ⟨_, hx'⟩, fun D hD => ?_⟩
    refine lc_it (walk_tup (K := K) (a := x) (xs := [.int q.num, .int (q.den : Int)])) (fun i H' => Same H H' ∧ H' D = some (.lst (List.replicate i (.bl true)))) ⟨same_new hD, upd_same⟩ (fun i H' _ z => Same.tup z.1 hx') ?_ ?_
    · rintro i v H2 H3 hi ⟨sm, hd⟩ ⟨rfl, hv⟩
      obtain ⟨z, rfl⟩ : ∃ z : Int, v = .int z := by
        match i, hv with
        | 0, hv => cases hv; exact ⟨_, rfl⟩
        | 1, hv => cases hv; exact ⟨_, rfl⟩
        | i + 2, hv => simp at hv
      refine ⟨rfl, yesT ?_⟩
      refine ⟨_, rfl, _, _, _, _, _, rfl, .ty _, .base (.int z), kit_ty (show kitB "int" "int" = some true by decide +kernel), true, rfl, ite_bT rfl ?_⟩
      refine ⟨_, rfl, _, _, _, _, _, rfl, .ty _, .base (.int z), kit_ty (show kitB "int" "bool" = some false by decide +kernel), ?_⟩
      have i2 : i < 2 := hi
      refine ⟨_, rfl, _, hd, by rw [List.length_replicate]; exact small' (by omega), Same.put sm hD, ?_⟩
      rw [upd_same, List.replicate_succ'] <;> rfl
    · rintro H2 ⟨sm, hd⟩
      obtain ⟨t1, t2⟩ := all_true 2
      refine ⟨D, List.replicate 2 true, rfl, SqL.of (by rw [t1]; exact hd), ?_⟩
      rw [t2]
      exact k H2 sm

end
end KR
namespace KR
open PySem PySem.Spec PyProof.Rows L2
section
variable {P : Program} {w : World} {K : PySem.W.Frag} {mg : Str → Option Value} {base : Heap}
def sp_l_is_fracs (K : PySem.W.Frag) : Sp := fun vs H Q _ => ∃ (a b : Addr) (l m : List Fz), vs = [.ref a, .ref b] ∧ H a = some (.lst (rz l)) ∧ SqL K H b (rz m) ∧ FL K H l ∧ FL K H m ∧ l.map (·.2) = m.map (·.2) ∧ l.length ≤ 1000 ∧ ∀ H', Same H H' → Q (.bl true) H'
theorem ok_l_is_fracs (T : All K mg) : FnOk P w K mg base CX0 2 T.f_l_is_fracs T.fd_l_is_fracs ["_law_found", "_law_due"] (sp_l_is_fracs K) := by
  refine T.d_l_is_fracs.fn.ok sc_l_is_fracs (fun vs H Q E h => ?_) (fun cdv A outer s H vs Q E hr h => ?_)
  · obtain ⟨a, b, l, m, rfl, _⟩ := h
    rfl
  · obtain ⟨a, b, l, m, rfl, ha, hb, fl, fm, em, l9, k⟩ := h
    refine ⟨_, (pss_cons (ps_if (PW.pt (pw_or (pt_not (pt_val (pe_callB (isiK (K := K) rfl) (by rfl) T.b_isinstance (by decide +kernel) (pa_cons (pv 0) (pa_cons (pe_bltn (v := .ty "list") (by rfl) T.b_list (by decide +kernel) rfl) pa_nil))))) (pw_or1 (pt_cmpR op_ne (pe_callB (lenQ (K := K) rfl) (by rfl) T.b_len PySem.boot_len (pa_cons (pv 0) pa_nil)) (pe_callB (lenQ (K := K) rfl) (by rfl) T.b_len PySem.boot_len (pa_cons (pv 1) pa_nil)) (nomark _))))) (pss_one (ps_ret pe_bl)) pss_nil)
      (pss_one (ps_ret (pe_callB (allK (K := K) rfl rfl) (by rfl) T.b_all (by decide +kernel) (pa_cons (pe_lc (own := [("_law_one", 2), ("_law_other", 3)]) (g := gTup K 2 (gCons (gName 2) (gCons (gName 3) gNil))) (tt := tYes) (by rfl) sc_l_is_fracs.nd (pi_zipB (K := K) rfl (by rfl) T.b_zip (pa_cons (pv 0) (pa_cons (pv 1) pa_nil))) (blkOk_by (own := [("_law_one", 2), ("_law_other", 3)]) (N := ["_law_found", "_law_due", "_law_one", "_law_other"]) (sc := defScope s_l_is_fracs) (by decide +kernel)) (fun _ _ _ _ _ => (pg_tupK (K := K) rfl rfl (pgs_cons (pg_name (i := 2) sc_l_is_fracs.nd rfl (by first | exact Or.inl rfl | exact Or.inr rfl)) (pgs_cons (pg_name (i := 3) sc_l_is_fracs.nd rfl (by first | exact Or.inl rfl | exact Or.inr rfl)) pgs_nil)))) (fun _ _ _ _ _ => pts_nil) (fun _ _ _ _ _ => (pe_call (ok_l_is_frac_told T) hr (by rfl) T.d_l_is_frac_told.mg T.d_l_is_frac_told.fn.kp T.d_l_is_frac_told.b .nil pass0 (pa_cons (pv 2) (pa_cons (pv 3) pa_nil))))) pa_nil))))), ?_⟩
    have ll : l.length = m.length := by
      have e := congrArg List.length em
      rw [List.length_map, List.length_map] at e
      exact e
    refine ⟨_, rfl, _, _, _, _, _, rfl, .ty _, .base (.lst ha), kit_ty (show kitB "list" "list" = some true by decide +kernel), _, rfl, iteF ?_⟩
    refine ⟨_, rfl, a, _, rfl, .inl (SqL.of ha), _, rfl, b, _, rfl, .inl hb, ?_⟩
    rw [rz_len, rz_len]
    refine ⟨rfl, _, rfl, ite_nF (by omega) ?_⟩
    refine ⟨_, rfl, _, rfl, a, b, rz l, rz m, true, true, rfl, SqL.of ha, hb, fun D hD => ?_⟩
    refine lc_it (walk_zipB (K := K) (a := a) (b := b) (xs := rz l) (ys := rz m) (p := true) (q := true) (n := l.length) (rz_len l) ((rz_len m).trans ll.symm)) (fun i H' => Same H H' ∧ H' D = some (.lst (List.replicate i (.bl true)))) ⟨same_new hD, upd_same⟩ (fun i H' _ z => ⟨SqL.of (z.1 _ _ ha), z.1.seq hb⟩) ?_ ?_
    · rintro i v H2 H3 hi ⟨sm, hd⟩ ⟨T0, x, y, rfl, hT, rfl, gx, gy⟩
      obtain ⟨zx, ex, rfl⟩ := rz_get gx
      obtain ⟨zy, ey, rfl⟩ := rz_get gy
      have sT : Same H2 (upd H2 T0 (.tup [.ref zx.1, .ref zy.1])) := same_new hT
      refine ⟨T0, _, rfl, SqT.of upd_same, rfl, _, _, rfl, _, _, rfl, rfl, rfl, yesT ?_⟩
      have e2 : zx.2 = zy.2 := by
        have k1 := rz_q ex
        rw [em, rz_q ey] at k1
        exact (Option.some.inj k1).symm
      have f1 := (fl zx (List.mem_of_getElem? ex)).same (sm.trans sT)
      have f2 := (fm zy (List.mem_of_getElem? ey)).same (sm.trans sT)
      rw [← e2] at f2
      refine ⟨_, rfl, _, rfl, zx.1, zy.1, zx.2, rfl, f1, f2, fun H4 s4 => ?_⟩
      have hd4 := s4 _ _ (sT _ _ hd)
      refine ⟨_, hd4, by rw [List.length_replicate]; exact small' (by omega), Same.put ((sm.trans sT).trans s4) hD, ?_⟩
      rw [upd_same, List.replicate_succ'] <;> rfl
    · rintro H2 ⟨sm, hd⟩
      obtain ⟨t1, t2⟩ := all_true l.length
      refine ⟨D, List.replicate l.length true, rfl, SqL.of (by rw [t1]; exact hd), ?_⟩
      rw [t2]
      exact k H2 sm

end
end KR
namespace KR
open PySem PySem.Spec PyProof.Rows L2
section
variable {P : Program} {w : World} {K : PySem.W.Frag} {mg : Str → Option Value} {base : Heap}
def sp_l_goes (K : PySem.W.Frag) : Sp := fun vs H Q _ => ∃ (p : Addr) (k n : Nat), vs = [.ref p, .int (k : Int)] ∧ BoxAt H p n ∧ n ≤ 999998000 ∧ 1 ≤ k ∧ k ≤ 6 ∧ ∀ (g : Addr) (l : List Fz) (H' : Hp), H' g = some (.tup (rz l)) → FL K H' l → l.length = k → (∀ z ∈ l, Part z.2) → zsum (l.map (·.2)) ≤ 1 → BoxAt H' p (n + 40) → Fr p H H' → Q (.ref g) H'
theorem ok_l_goes (T : All K mg) : FnOk P w K mg base CX0 4 T.f_l_goes T.fd_l_goes ["_law_box_here", "_law_many"] (sp_l_goes K) := by
  refine T.d_l_goes.fn.ok sc_l_goes (fun vs H Q E h => ?_) (fun cdv A outer s H vs Q E hr h => ?_)
  · obtain ⟨p, k, n, rfl, _⟩ := h
    rfl
  · obtain ⟨p, k, n, rfl, hB, hn, k1, k6, q⟩ := h
    refine ⟨_, (pss_cons (ps_par (i := 2) (j := 3) (by rfl) sc_l_goes.nd rfl rfl (by decide) rfl rfl (pa_cons (pe_op op_add pe_int (pe_call (ok_l_take T) (hr.mono (by decide)) (by rfl) T.d_l_take.mg T.d_l_take.fn.kp T.d_l_take.b .nil pass0 (pa_cons (pv 0) (pa_cons pe_int pa_nil)))) (pa_cons (pe_call (ok_l_take T) (hr.mono (by decide)) (by rfl) T.d_l_take.mg T.d_l_take.fn.kp T.d_l_take.b .nil pass0 (pa_cons (pv 0) (pa_cons pe_int pa_nil))) pa_nil)) (by rfl))
      (pss_cons (ps_par (i := 4) (j := 5) (by rfl) sc_l_goes.nd rfl rfl (by decide) rfl rfl (pa_cons (pv 2) (pa_cons (pe_op op_rep (pe_lstI (pa_cons (pe_tupI (pa_cons pe_int (pa_cons pe_int pa_nil))) pa_nil)) (pv 1)) pa_nil)) (by rfl))
      (pss_cons (ps_for PassesOwn.never rfl (pi_range1 (by rfl) T.b_range (pa_cons (pv 1) pa_nil)) (pg_name (i := 6) sc_l_goes.nd rfl (by first | exact Or.inl rfl | exact Or.inr rfl)) (pss_cons (ps_set (i := 7) sc_l_goes.nd rfl (by first | exact Or.inl rfl | exact Or.inr rfl) (pe_call (ok_l_take T) (hr.mono (by decide)) (by rfl) T.d_l_take.mg T.d_l_take.fn.kp T.d_l_take.b .nil pass0 (pa_cons (pv 0) (pa_cons (pv 1) pa_nil))))
      (pss_one (ps_if (pt_cmpR op_eq (pv 3) pe_int (nomark _)) (pss_cons (ps_set (i := 8) sc_l_goes.nd rfl (by first | exact Or.inl rfl | exact Or.inr rfl) (pe_op op_add pe_int (pe_call (ok_l_take T) (hr.mono (by decide)) (by rfl) T.d_l_take.mg T.d_l_take.fn.kp T.d_l_take.b .nil pass0 (pa_cons (pv 0) (pa_cons pe_int pa_nil)))))
      (pss_cons (ps_set (i := 9) sc_l_goes.nd rfl (by first | exact Or.inl rfl | exact Or.inr rfl) (pe_op op_catI (pe_op op_catI (pe_slice (slL (K := K) rfl) (pv 5) po_none (po_some (pv 7))) (pe_lstI (pa_cons (pe_call (ok_l_low T) (hr.mono (by decide)) (by rfl) T.d_l_low.mg T.d_l_low.fn.kp T.d_l_low.b .nil pass0 (pa_cons (pe_call (ok_l_take T) (hr.mono (by decide)) (by rfl) T.d_l_take.mg T.d_l_take.fn.kp T.d_l_take.b .nil pass0 (pa_cons (pv 0) (pa_cons (pe_op op_add (pv 8) pe_int) pa_nil))) (pa_cons (pv 8) pa_nil))) pa_nil))) (pe_slice (slL (K := K) rfl) (pv 5) (po_some (pe_op op_add (pv 7) pe_int)) po_none)))
      (pss_cons (ps_set (i := 10) sc_l_goes.nd rfl (by first | exact Or.inl rfl | exact Or.inr rfl) (pe_call (ok_l_all T) hr (by rfl) T.d_l_all.mg T.d_l_all.fn.kp T.d_l_all.b .nil pass0 (pa_cons (pv 9) pa_nil)))
      (pss_one (ps_set (i := 5) sc_l_goes.nd rfl (by first | exact Or.inl rfl | exact Or.inr rfl) (pe_ifExp (pt_cmpR op_le (pe_ix (ixT (K := K) rfl) (pv 10) pe_int (fun _ _ => rfl)) (pe_ix (ixT (K := K) rfl) (pv 10) pe_int (fun _ _ => rfl)) (nomark _)) (pv 9) (pv 5))))))) (pss_one (ps_if (pt_cmpR (eqDK (K := K) rfl hr.units) (pe_ix (ixL (K := K) rfl) (pv 5) (pv 7) (fun _ _ => rfl)) (pe_tupI (pa_cons pe_int (pa_cons pe_int pa_nil))) (nomark _)) (pss_cons (ps_set (i := 11) sc_l_goes.nd rfl (by first | exact Or.inl rfl | exact Or.inr rfl) (pe_ifExp (PW.pt (pw_and (pt_cmpR op_eq (pv 3) pe_int (nomark _)) (pw_and1 (pt_cmpR op_gt (pv 6) (pe_op op_fdivW (pv 1) pe_int) (nomark _))))) (pv 4) (pe_call (ok_l_take T) (hr.mono (by decide)) (by rfl) T.d_l_take.mg T.d_l_take.fn.kp T.d_l_take.b .nil pass0 (pa_cons (pv 0) (pa_cons (pe_op op_add (pv 4) pe_int) pa_nil)))))
      (pss_one (ps_asg (pe_tupI (pa_cons (pe_op op_sub (pv 4) (pv 11)) (pa_cons (pe_call (ok_l_low T) (hr.mono (by decide)) (by rfl) T.d_l_low.mg T.d_l_low.fn.kp T.d_l_low.b .nil pass0 (pa_cons (pv 11) (pa_cons (pv 2) pa_nil))) pa_nil))) (pg_tupK (K := K) rfl rfl (pgs_cons (pg_name (i := 4) sc_l_goes.nd rfl (by first | exact Or.inl rfl | exact Or.inr rfl)) (pgs_cons (pg_sub (pv 5) (pv 7) set_list) pgs_nil)))))) pss_nil))))))
      (pss_one (ps_ret (pe_callTy call_tuple_of (by rfl) T.b_tuple (by decide +kernel) (pa_cons (pv 5) pa_nil))))))), ?_⟩
    refine ⟨_, rfl, p, 12, n, rfl, hB, by omega, by decide, by decide, fun b H1 b0 b1 B1 F1 => ?_⟩
    refine ⟨_, _, rfl, rfl, _, rfl, p, 4, n + 1, rfl, B1, by omega, by decide, by decide, fun w H2 w0 w1 B2 F2 => ?_⟩
    refine ⟨_, _, rfl, ?_⟩
    refine ⟨_, rfl, rfl, fun t0 H3 s3 n3 h3 => ⟨rfl, fun l0 H4 s4 n4 h4 => ⟨_, rfl, ?_⟩⟩⟩
    refine ⟨l0, (k : Int), _, rfl, rfl, h4, by omega, by omega, by show 1 * _ ≤ _; rw [sizeLine_eq]; omega, fun fl nfl => ?_⟩
    rw [rep_rz k (t0, 0)]
    have s5 : Same H4 (upd H4 fl (.lst (rz (List.replicate k (t0, 0))))) := same_new nfl
    have h5 : (upd H4 fl (.lst (rz (List.replicate k (t0, 0))))) fl = some (.lst (rz (List.replicate k (t0, 0)))) := upd_same
    generalize upd H4 fl (.lst (rz (List.replicate k (t0, 0)))) = H5 at s5 h5
    have s35 := s4.trans s5
    have B5 := (B2.same s3).same s35
    have flp : fl ≠ p := ((B2.same s3).same s4).new nfl
    have F5 : Fr p H H5 := ((F1.trans F2).trans (.of s3)).trans (.of s35)
    have nflH : H fl = none := by
      cases e : H fl with
      | none => rfl
      | some o =>
        have k := (((F1.trans F2).trans (.of s3)).trans (.of s4)) _ _ flp e
        rw [nfl] at k
        cases k
    refine ⟨_, _, rfl, ?_⟩
    have f0 : FrQ K H5 t0 0 := .of (s35 _ _ h3)
    have z0 : GoOk K H5 k (List.replicate k (t0, 0)) := ⟨fun z hz => by rw [List.eq_of_mem_replicate hz]; exact f0, List.length_replicate, fun z hz => by rw [List.eq_of_mem_replicate hz]; exact Part.zero, by rw [List.map_replicate, zsum_rep]; decide⟩
    refine ⟨_, rfl, k, rfl, by omega, by omega, for_range (lo := 0) (n := k) (fun i σ H' => ∃ (lf : Int) (f : Addr) (l : List Fz) (v6 v7 v8 v9 v10 v11 : Option V), σ = [some (.ref p), some (.int (k : Int)), some (.int (1 + b)), some (.int w), some (.int lf), some (.ref f), v6, v7, v8, v9, v10, v11] ∧ H' f = some (.lst (rz l)) ∧ H f = none ∧ f ≠ p ∧ GoOk K H' k l ∧
      0 ≤ lf ∧ lf ≤ 1 + b ∧ (w ≠ 3 → zsum (l.map (·.2)) * ((1 + b : Int) : Rat) = ((1 + b - lf : Int) : Rat)) ∧ BoxAt H' p (n + 2 + 6 * i) ∧ Fr p H H') ⟨1 + b, fl, _, none, none, none, none, none, none, rfl, h5, nflH, flp, z0, by omega, by omega, fun _ => ?_, B5, F5⟩ ?_ ?_⟩
    · rw [List.map_replicate, zsum_rep, show (1 + b - (1 + b) : Int) = 0 by omega, Rat.zero_mul] <;> rfl
    · rintro i σ H0 hi ⟨lf, f, l, v6, v7, v8, v9, v10, v11, rfl, hf, nf, fp, G, lf0, lf1, inv, B, F⟩
      refine ⟨_, rfl, _, rfl, p, (k : Int), n + 2 + 6 * i, rfl, B, by omega, by omega, by omega, fun at_ H6 a0 a1 B6 F6 => ?_⟩
      have hf6 := F6 _ _ fp hf
      have G6 := G.fr B F6
      have F06 := F.trans F6
      obtain ⟨an, rfl⟩ : ∃ an : Nat, at_ = (an : Int) := ⟨at_.toNat, by omega⟩
      have al : an < l.length := by rw [G.len]; omega
      have ga : l[an]? = some l[an] := List.getElem?_eq_getElem al
      generalize l[an] = y at ga
      have my := List.mem_of_getElem? ga
      refine ⟨_, rfl, rfl, _, rfl, ite2 (fun c3 => ?_) (fun c3 => ?_)⟩
      · refine ⟨_, rfl, p, 12, n + 2 + 6 * i + 1, rfl, B6, by omega, by decide, by decide, fun o H7 o0 o1 B7 F7 => ?_⟩
        refine ⟨_, _, rfl, rfl, ?_⟩
        have hf7 := F7 _ _ fp hf6
        refine ⟨_, rfl, _, rfl, _, rfl, f, _, rfl, SqL.of hf7, fun c1 H8 s8 n8 h8 => ?_⟩
        rw [cut_to (by rw [rz_len]; omega), rz_take] at h8
        have B8 := B7.same s8
        have c1p : c1 ≠ p := B7.new n8
        refine ⟨_, rfl, _, rfl, _, _, rfl, rfl, p, 1 + o + 1, n + 2 + 6 * i + 2, rfl, B8, by omega, by omega, by omega, fun t H9 t0 t1 B9 F9 => ?_⟩
        refine ⟨_, rfl, t, 1 + o, rfl, by omega, ?_, ?_, fun d H10 s10 n10 h10 => ?_⟩
        · exact lt_up (a := 8) (by omega) (by decide)
        · exact lt_up (a := 8) (by omega) (by decide)
        refine ⟨rfl, fun c2 H11 s11 n11 h11 => ?_⟩
        have h9 := F9 _ _ c1p h8
        have f9 := F9 _ _ fp (s8 _ _ hf7)
        refine ⟨c1, c2, _, _, rfl, rfl, s11 _ _ (s10 _ _ h9), h11, by simp only [rz_len, List.length_take, List.length_singleton]; exact small' (by have := G.len; omega), fun c3' H12 s12 n12 h12 => ?_⟩
        refine ⟨_, rfl, _, rfl, _, _, rfl, rfl, _, rfl, f, _, rfl, SqL.of (s12 _ _ (s11 _ _ (s10 _ _ f9))), fun c4 H13 s13 n13 h13 => ?_⟩
        rw [show ((an : Int) + 1) = ((an + 1 : Nat) : Int) by omega, cut_from (by rw [rz_len]; omega), rz_drop] at h13
        have lens : (rz (l.take an) ++ [V.ref d]).length + (rz (l.drop (an + 1))).length ≤ sizeLine := by
          have := G.len
          rw [List.length_append, rz_len, rz_len, List.length_take, List.length_drop, sizeLine_eq]
          show min an l.length + 1 + _ ≤ _
          omega
        refine ⟨c3', c4, _, _, rfl, rfl, s13 _ _ h12, h13, lens, fun c5 H14 s14 n14 h14 => ?_⟩
        have es : rz (l.take an) ++ [V.ref d] ++ rz (l.drop (an + 1)) = rz (l.set an (d, rq t (1 + o))) := by
          rw [List.set_eq_take_append_cons_drop, if_pos al, rz_app]
          show rz (l.take an) ++ [V.ref d] ++ rz (l.drop (an + 1)) = rz (l.take an) ++ (V.ref d :: rz (l.drop (an + 1)))
          rw [List.append_assoc] <;> rfl
        rw [es] at h14
        have s1014 : Same H10 H14 := s11.trans (s12.trans (s13.trans s14))
        have F79 : Fr p H7 H14 := (Fr.of s8).trans (F9.trans (.of (s10.trans s1014)))
        have G7 := (G6.fr B6 F7).fr B7 F79
        have F014 : Fr p H H14 := (F06.trans F7).trans F79
        have B14 := (B9.same s10).same s1014
        have c5p : c5 ≠ p := (((((B9.same s10).same s11).same s12).same s13)).new n14
        have fd14 : FrQ K H14 d (rq t (1 + o)) := FrQ.same h10 s1014
        have pd : Part (rq t (1 + o)) := Part.rq t0 (by omega) (by omega) (by omega)
        have ps : ∀ z ∈ l.set an (d, rq t (1 + o)), Part z.2 := fun z hz => by
          rcases mem_set hz with h | h
          · exact G.pa z h
          · rw [h]
            exact pd
        have fs : FL K H14 (l.set an (d, rq t (1 + o))) := fun z hz => by
          rcases mem_set hz with h | h
          · exact G7.fl z h
          · rw [h]
            exact fd14
        refine ⟨_, rfl, c5, _, true, rfl, SqL.of h14, fs, fun z hz => part_big (ps z hz), parts_add (mem_q ps) (by rw [List.length_map, List.length_set, G.len]; omega), fun wq H15 s15 hw => ?_⟩
        have hw' : SqT K H15 wq [.int (zsum ((l.set an (d, rq t (1 + o))).map (·.2))).num, .int ((zsum ((l.set an (d, rq t (1 + o))).map (·.2))).den : Int)] := hw
        have f15 := s15 _ _ (s14 _ _ (s13 _ _ (s12 _ _ (s11 _ _ (s10 _ _ f9)))))
        have B15 := (B14.same s15).mono (show n + 2 + 6 * i + 2 + 1 ≤ n + 2 + 6 * (i + 1) by omega)
        have F15 := F014.trans (.of s15)
        refine ⟨_, rfl, wq, _, 0, _, rfl, rfl, hw', at0, _, rfl, wq, _, 1, _, rfl, rfl, hw', at1, _, _, rfl, rfl, _, rfl, ite2 (fun cw => ?_) (fun cw => ?_)⟩
        · have w3 : w = 3 := V.int.inj (of_decide_eq_true c3)
          have le1 := (le_one_iff _).mp (of_decide_eq_true cw)
          refine ⟨_, rfl, lf, c5, l.set an (d, rq t (1 + o)), _, _, _, _, _, _, rfl, s15 _ _ h14, ?_, ?_, ⟨fs.same s15, by rw [List.length_set, G.len], ps, le1⟩, lf0, lf1, fun z => absurd w3 z, B15, F15⟩
          · exact fr_new ((F06.trans F7).trans ((Fr.of s8).trans (F9.trans (.of (s10.trans (s11.trans (s12.trans s13))))))) n14 c5p
          · exact c5p
        · exact ⟨_, rfl, lf, f, l, _, _, _, _, _, _, rfl, f15, nf, fp, G7.same s15, lf0, lf1, inv, B15, F15⟩
      · have f6 := G6.fl y my
        have hf6' : SqL K H6 f (rz l) := SqL.of hf6
        have gx : (rz l)[an]? = some (.ref y.1) := by
          unfold rz
          rw [List.getElem?_map, ga] <;> rfl
        have w3 : w ≠ 3 := fun e => c3 (by rw [e]; exact decide_eq_true rfl)
        refine ⟨_, rfl, _, rfl, f, _, (an : Int), _, rfl, rfl, hf6', at_of rfl gx, rfl, fun z1 H7 s7 n7 h7 => ?_⟩
        have q0 : FrQ K H7 z1 0 := .of h7
        refine ⟨dq y.2, dq 0, (f6.same s7).dp, q0.dp, rfl, rfl, _, rfl, ?_⟩
        rw [eqv_dq]
        have B7 := B6.same s7
        have hf7 := s7 _ _ hf6
        have G7 := G6.same s7
        have F07 := F06.trans (.of s7)
        refine ite2 (fun cz => ?_) (fun cz => ?_)
        · have y0 : y.2 = 0 := of_decide_eq_true cz
          refine ⟨_, rfl, rfl, _, rfl, ite2 (fun cw => ?_) (fun cw => ?_)⟩
          · refine ⟨_, rfl, _, rfl, _, _, rfl, rfl, wide_div (b := 3) (by decide) (by decide) (by decide) (by decide), _, _, rfl, rfl, _, rfl, ite2 (fun ct => ?_) (fun ct => ?_)⟩
            · refine ⟨_, rfl, ?_⟩
              refine ⟨_, rfl, _, rfl, _, _, rfl, rfl, _, rfl, _, rfl, lf, 1 + b, rfl, by omega, lt_up (a := 8) (by omega) (by decide), lt_up (a := 8) (by omega) (by decide), fun d H9 s9 n9 h9 => ?_⟩
              refine ⟨rfl, fun u H10 s10 n10 h10 => ?_⟩
              have s810 := s9.trans s10
              have hf10 := s810 _ _ hf7
              refine ⟨u, _, rfl, SqT.of h10, rfl, _, _, rfl, _, _, rfl, _, rfl, _, rfl, f, _, (an : Int), an, rfl, rfl, hf10, by rw [rz_len]; unfold ixN; rw [if_pos (by omega), if_pos (by omega), Int.toNat_natCast], rfl, ?_⟩
              rw [rz_set l an (d, rq lf (1 + b))]
              have pd : Part (rq lf (1 + b)) := Part.rq lf0 (by omega) (by omega) (by omega)
              have G10 := G7.same s810
              have fd : FrQ K H10 d (rq lf (1 + b)) := h9.same s10
              have ps : ∀ z ∈ l.set an (d, rq lf (1 + b)), Part z.2 := fun z hz => by
                rcases mem_set hz with h | h
                · exact G.pa z h
                · rw [h]
                  exact pd
              have fs : FL K H10 (l.set an (d, rq lf (1 + b))) := fun z hz => by
                rcases mem_set hz with h | h
                · exact G10.fl z h
                · rw [h]
                  exact fd
              have eq := goes_sum (d := d) ga y0 (inv w3) lf0 (Int.le_refl lf) lf1 (by omega)
              refine ⟨lf - lf, f, l.set an (d, rq lf (1 + b)), _, _, _, _, _, _, rfl, upd_same, nf, fp, ⟨fs.put hf10, by rw [List.length_set, G.len], ps, eq.2⟩, by omega, by omega, fun _ => eq.1, ((B7.same s810).upd fp).mono (by omega), (F07.trans (.of s810)).put' nf⟩
            · refine ⟨_, rfl, _, rfl, _, _, rfl, rfl, p, lf + 1, n + 2 + 6 * i + 1, rfl, B7, by omega, by omega, by omega, fun tp H8 tp0 tp1 B8 F8 => ?_⟩
              have F08 := F07.trans F8
              have hf8 := F8 _ _ fp hf7
              have G8 := G7.fr B7 F8
              have tpl : tp ≤ lf := by omega
              refine ⟨_, rfl, _, rfl, _, _, rfl, rfl, _, rfl, _, rfl, tp, 1 + b, rfl, by omega, lt_up (a := 8) (by omega) (by decide), lt_up (a := 8) (by omega) (by decide), fun d H9 s9 n9 h9 => ?_⟩
              refine ⟨rfl, fun u H10 s10 n10 h10 => ?_⟩
              have s810 := s9.trans s10
              have hf10 := s810 _ _ hf8
              refine ⟨u, _, rfl, SqT.of h10, rfl, _, _, rfl, _, _, rfl, _, rfl, _, rfl, f, _, (an : Int), an, rfl, rfl, hf10, by rw [rz_len]; unfold ixN; rw [if_pos (by omega), if_pos (by omega), Int.toNat_natCast], rfl, ?_⟩
              rw [rz_set l an (d, rq tp (1 + b))]
              have pd : Part (rq tp (1 + b)) := Part.rq tp0 (by omega) (by omega) (by omega)
              have G10 := G8.same s810
              have fd : FrQ K H10 d (rq tp (1 + b)) := h9.same s10
              have ps : ∀ z ∈ l.set an (d, rq tp (1 + b)), Part z.2 := fun z hz => by
                rcases mem_set hz with h | h
                · exact G.pa z h
                · rw [h]
                  exact pd
              have fs : FL K H10 (l.set an (d, rq tp (1 + b))) := fun z hz => by
                rcases mem_set hz with h | h
                · exact G10.fl z h
                · rw [h]
                  exact fd
              have eq := goes_sum (d := d) ga y0 (inv w3) tp0 tpl lf1 (by omega)
              refine ⟨lf - tp, f, l.set an (d, rq tp (1 + b)), _, _, _, _, _, _, rfl, upd_same, nf, fp, ⟨fs.put hf10, by rw [List.length_set, G.len], ps, eq.2⟩, by omega, by omega, fun _ => eq.1, ((B8.same s810).upd fp).mono (by omega), (F08.trans (.of s810)).put' nf⟩
          · refine ⟨_, rfl, _, rfl, _, _, rfl, rfl, p, lf + 1, n + 2 + 6 * i + 1, rfl, B7, by omega, by omega, by omega, fun tp H8 tp0 tp1 B8 F8 => ?_⟩
            have F08 := F07.trans F8
            have hf8 := F8 _ _ fp hf7
            have G8 := G7.fr B7 F8
            have tpl : tp ≤ lf := by omega
            refine ⟨_, rfl, _, rfl, _, _, rfl, rfl, _, rfl, _, rfl, tp, 1 + b, rfl, by omega, lt_up (a := 8) (by omega) (by decide), lt_up (a := 8) (by omega) (by decide), fun d H9 s9 n9 h9 => ?_⟩
            refine ⟨rfl, fun u H10 s10 n10 h10 => ?_⟩
            have s810 := s9.trans s10
            have hf10 := s810 _ _ hf8
            refine ⟨u, _, rfl, SqT.of h10, rfl, _, _, rfl, _, _, rfl, _, rfl, _, rfl, f, _, (an : Int), an, rfl, rfl, hf10, by rw [rz_len]; unfold ixN; rw [if_pos (by omega), if_pos (by omega), Int.toNat_natCast], rfl, ?_⟩
            rw [rz_set l an (d, rq tp (1 + b))]
            have pd : Part (rq tp (1 + b)) := Part.rq tp0 (by omega) (by omega) (by omega)
            have G10 := G8.same s810
            have fd : FrQ K H10 d (rq tp (1 + b)) := h9.same s10
            have ps : ∀ z ∈ l.set an (d, rq tp (1 + b)), Part z.2 := fun z hz => by
              rcases mem_set hz with h | h
              · exact G.pa z h
              · rw [h]
                exact pd
            have fs : FL K H10 (l.set an (d, rq tp (1 + b))) := fun z hz => by
              rcases mem_set hz with h | h
              · exact G10.fl z h
              · rw [h]
                exact fd
            have eq := goes_sum (d := d) ga y0 (inv w3) tp0 tpl lf1 (by omega)
            refine ⟨lf - tp, f, l.set an (d, rq tp (1 + b)), _, _, _, _, _, _, rfl, upd_same, nf, fp, ⟨fs.put hf10, by rw [List.length_set, G.len], ps, eq.2⟩, by omega, by omega, fun _ => eq.1, ((B8.same s810).upd fp).mono (by omega), (F08.trans (.of s810)).put' nf⟩
        · exact ⟨lf, f, l, _, _, _, _, _, _, rfl, hf7, nf, fp, G7, lf0, lf1, inv, B7.mono (by omega), F07⟩
    · rintro σ H0 ⟨lf, f, l, v6, v7, v8, v9, v10, v11, rfl, hf, nf, fp, G, lf0, lf1, inv, B, F⟩
      refine ⟨_, rfl, f, _, rfl, .inl ⟨SqL.of hf, fun g ng => ?_⟩⟩
      have sg : Same H0 (upd H0 g (.tup (rz l))) := same_new ng
      have Gg := G.same sg
      exact q g l _ upd_same Gg.fl G.len G.pa G.one ((B.same sg).mono (by omega)) (F.trans (.of sg))

end
end KR
namespace KR
open PySem PySem.Spec PyProof.Rows L2
section
variable {P : Program} {w : World} {K : PySem.W.Frag} {mg : Str → Option Value} {base : Heap}
def sp_l_kinds (K : PySem.W.Frag) : Sp := fun vs H Q _ => ∃ (p : Addr) (k n : Nat), vs = [.ref p, .int (k : Int)] ∧ BoxAt H p n ∧ n ≤ 999990000 ∧ 1 ≤ k ∧ k ≤ 6 ∧ ∀ (f : Addr) (ks : List Kn) (H' : Hp), H' f = some (.lst (rk ks)) → KnL K H' k ks → ks.length = k → BoxAt H' p (n + 300) → Fr p H H' → f ≠ p → H f = none → Q (.ref f) H'
theorem ok_l_kinds (T : All K mg) : FnOk P w K mg base CX0 5 T.f_l_kinds T.fd_l_kinds ["_law_box_here", "_law_many"] (sp_l_kinds K) := by
  refine T.d_l_kinds.fn.ok sc_l_kinds (fun vs H Q E h => ?_) (fun cdv A outer s H vs Q E hr h => ?_)
  · obtain ⟨p, k, n, rfl, _⟩ := h
    rfl
  · obtain ⟨p, k, n, rfl, hB, hn, k1, k6, q⟩ := h
    refine ⟨_, (pss_cons (ps_set (i := 2) sc_l_kinds.nd rfl (by first | exact Or.inl rfl | exact Or.inr rfl) (pe_lstI pa_nil))
      (pss_cons (ps_for PassesOwn.never rfl (pi_range1 (by rfl) T.b_range (pa_cons (pv 1) pa_nil)) (pg_name (i := 3) sc_l_kinds.nd rfl (by first | exact Or.inl rfl | exact Or.inr rfl)) (pss_cons (ps_par (i := 4) (j := 5) (by rfl) sc_l_kinds.nd rfl rfl (by decide) rfl rfl (pa_cons (pe_call (ok_l_take T) (hr.mono (by decide)) (by rfl) T.d_l_take.mg T.d_l_take.fn.kp T.d_l_take.b .nil pass0 (pa_cons (pv 0) (pa_cons (pe_ix (ixL (K := K) rfl) (pe_lstI (pa_cons pe_int (pa_cons pe_int (pa_cons (pe_op op_add (pe_op op_pow pe_int pe_int) pe_int) pa_nil)))) (pe_call (ok_l_take T) (hr.mono (by decide)) (by rfl) T.d_l_take.mg T.d_l_take.fn.kp T.d_l_take.b .nil pass0 (pa_cons (pv 0) (pa_cons pe_int pa_nil))) (fun _ _ => rfl)) pa_nil))) (pa_cons (pe_op op_add pe_int (pe_call (ok_l_take T) (hr.mono (by decide)) (by rfl) T.d_l_take.mg T.d_l_take.fn.kp T.d_l_take.b .nil pass0 (pa_cons (pv 0) (pa_cons pe_int pa_nil)))) pa_nil)) (by rfl))
      (pss_cons (ps_set (i := 6) sc_l_kinds.nd rfl (by first | exact Or.inl rfl | exact Or.inr rfl) (pe_ix (ixL (K := K) rfl) (pe_lstI (pa_cons (pe_tupI (pa_cons pe_int (pa_cons pe_int pa_nil))) (pa_cons (pe_tupI (pa_cons pe_int (pa_cons pe_int pa_nil))) (pa_cons (pe_call (ok_l_low T) (hr.mono (by decide)) (by rfl) T.d_l_low.mg T.d_l_low.fn.kp T.d_l_low.b .nil pass0 (pa_cons (pe_call (ok_l_take T) (hr.mono (by decide)) (by rfl) T.d_l_take.mg T.d_l_take.fn.kp T.d_l_take.b .nil pass0 (pa_cons (pv 0) (pa_cons (pe_op op_add (pv 5) pe_int) pa_nil))) (pa_cons (pv 5) pa_nil))) pa_nil)))) (pe_callB (call_min2 rfl) (by rfl) T.b_min (by decide +kernel) (pa_cons pe_int (pa_cons (pe_call (ok_l_take T) (hr.mono (by decide)) (by rfl) T.d_l_take.mg T.d_l_take.fn.kp T.d_l_take.b .nil pass0 (pa_cons (pv 0) (pa_cons pe_int pa_nil))) pa_nil))) (fun _ _ => rfl)))
      (pss_one (ps_expr (pe_bm PySem.F.plainAttrs_list PySem.F.slot_list_append PySem.F.type_list_append mt_append (pv 2) (pa_cons (pe_tupI (pa_cons (pv 4) (pa_cons (pv 6) (pa_cons (pe_call (ok_l_goes T) hr (by rfl) T.d_l_goes.mg T.d_l_goes.fn.kp T.d_l_goes.b .nil pass0 (pa_cons (pv 0) (pa_cons (pv 1) pa_nil))) pa_nil)))) pa_nil)))))))
      (pss_one (ps_ret (pv 2))))), ?_⟩
    refine ⟨rfl, fun f H1 s1 n1 h1 => ?_⟩
    have fp : f ≠ p := hB.new n1
    refine ⟨_, rfl, k, rfl, by omega, by omega, for_range (lo := 0) (n := k) (fun i σ H' => ∃ (ks : List Kn) (v3 v4 v5 v6 : Option V), σ = [some (.ref p), some (.int (k : Int)), some (.ref f), v3, v4, v5, v6] ∧ H' f = some (.lst (rk ks)) ∧ KnL K H' k ks ∧ ks.length = i ∧ BoxAt H' p (n + 45 * i) ∧ Fr p H H')
      ⟨[], none, none, none, none, rfl, h1, fun z hz => absurd hz List.not_mem_nil, rfl, hB.same s1, .of s1⟩ ?_ ?_⟩
    · rintro i σ H0 hi ⟨ks, v3, v4, v5, v6, rfl, hf, L, len, B, F⟩
      refine ⟨_, rfl, _, _, rfl, rfl, ⟨by decide, by decide, by decide⟩, _, _, rfl, rfl, rfl, fun l1 H2 s2 n2 h2 => ?_⟩
      have B2 := B.same s2
      have l1p : l1 ≠ p := B.new n2
      refine ⟨_, rfl, p, 3, n + 45 * i, rfl, B2, by omega, by decide, by decide, fun w H3 w0 w1 B3 F3 => ?_⟩
      obtain ⟨m, em, m0, m1⟩ : ∃ m : Int, atI ([.int 3, .int 100, .int (10 ^ (6 : Int).toNat + 1)] : List V) w = some (.int m) ∧ 0 < m ∧ m ≤ 1000001 := by
        have ws : w = 0 ∨ w = 1 ∨ w = 2 := by omega
        rcases ws with e | e | e <;> subst e
        · exact ⟨_, rfl, by decide, by decide⟩
        · exact ⟨_, rfl, by decide, by decide⟩
        · exact ⟨_, rfl, by decide, by decide⟩
      refine ⟨l1, _, w, _, rfl, rfl, SqL.of (F3 _ _ l1p h2), em, p, m, n + 45 * i + 1, rfl, B3, by omega, m0, by omega, fun fr H4 fr0 fr1 B4 F4 => ?_⟩
      refine ⟨_, rfl, p, 12, n + 45 * i + 2, rfl, B4, by omega, by decide, by decide, fun b H5 b0 b1 B5 F5 => ?_⟩
      refine ⟨_, _, rfl, rfl, _, _, rfl, ?_⟩
      have F25 : Fr p H2 H5 := F3.trans (F4.trans F5)
      refine ⟨rfl, fun t1 H6 s6 n6 h6 => ⟨rfl, fun t2 H7 s7 n7 h7 => ?_⟩⟩
      have B7 := (B5.same s6).same s7
      refine ⟨_, rfl, _, rfl, _, _, rfl, rfl, p, 1 + b + 1, n + 45 * i + 3, rfl, B7, by omega, by omega, by omega, fun t H8 t0 t4 B8 F8 => ?_⟩
      refine ⟨_, rfl, t, 1 + b, rfl, by omega, lt_up (a := 8) (by omega) (by decide), lt_up (a := 8) (by omega) (by decide), fun t3 H9 s9 n9 h9 => ⟨rfl, fun l2 H10 s10 n10 h10 => ?_⟩⟩
      have B10 := (B8.same s9).same s10
      have l2p : l2 ≠ p := (B8.same s9).new n10
      refine ⟨_, rfl, p, 6, n + 45 * i + 4, rfl, B10, by omega, by decide, by decide, fun z H11 z0 z6 B11 F11 => ?_⟩
      refine ⟨_, _, rfl, ?_⟩
      have s910 := s9.trans s10
      have F8' : Fr p H7 H11 := F8.trans ((Fr.of s910).trans F11)
      have pick : ∃ (d : Addr) (r : Rat), atI [V.ref t1, V.ref t2, V.ref t3] (if z < 2 then z else 2) = some (.ref d) ∧ FrQ K H11 d r ∧ Part r := by
        have f1 : FrQ K H11 t1 1 := FrQ.fr (.of (s7 _ _ h6)) B7 F8'
        have f2 : FrQ K H11 t2 0 := FrQ.fr (.of h7) B7 F8'
        have f3 : FrQ K H11 t3 (rq t (1 + b)) := FrQ.fr (h9.same s10) B10 F11
        have zs : z = 0 ∨ z = 1 ∨ ¬ z < 2 := by omega
        rcases zs with e | e | e
        · subst e
          exact ⟨t1, 1, rfl, f1, ⟨by decide, by decide, by decide⟩⟩
        · subst e
          exact ⟨t2, 0, rfl, f2, Part.zero⟩
        · rw [if_neg e]
          exact ⟨t3, _, rfl, f3, Part.rq t0 (by omega) (by omega) (by omega)⟩
      obtain ⟨d, r, ed, hd, pr⟩ := pick
      refine ⟨l2, _, _, _, rfl, rfl, SqL.of (F11 _ _ l2p h10), ed, ?_⟩
      have F011 : Fr p H0 H11 := (Fr.of s2).trans (F25.trans ((Fr.of (s6.trans s7)).trans F8'))
      have hf11 := F011 _ _ fp hf
      refine ⟨_, rfl, .inl ⟨rfl, _, SqL.of hf11⟩, _, rfl, _, rfl, _, rfl, _, rfl, p, k, n + 45 * i + 5, rfl, B11, by omega, k1, k6, fun g l H12 hg fl gl pa one B12 F12 => ?_⟩
      refine ⟨rfl, fun a H13 s13 n13 h13 => ?_⟩
      have F013 : Fr p H0 H13 := (F011.trans F12).trans (.of s13)
      have hf13 := F013 _ _ fp hf
      refine ⟨f, _, _, rfl, rfl, hf13, by rw [rk_len]; exact small' (by omega), ?_⟩
      have ok : KnOk K H13 k ⟨a, d, g, fr, r, l⟩ := ⟨SqT.of h13, (hd.fr B11 F12).same s13, SqT.of (s13 _ _ hg), ⟨fl.same s13, gl, pa, one⟩, pr, fr0, by show fr ≤ 1000000; omega⟩
      have nf : H f = none := n1
      refine ⟨ks ++ [⟨a, d, g, fr, r, l⟩], _, _, _, _, rfl, ?_, fun y hy => ?_, by rw [List.length_append, len] <;> rfl, ((B12.same s13).upd fp).mono (by omega), (F.trans F013).put' nf⟩
      · rw [upd_same]
        unfold rk
        rw [List.map_append] <;> rfl
      · rcases List.mem_append.mp hy with h | h
        · exact ((L y h).fr B F013).put hf13
        · rw [List.mem_singleton.mp h]
          exact ok.put hf13
    · rintro σ H0 ⟨ks, v3, v4, v5, v6, rfl, hf, L, len, B, F⟩
      exact ⟨_, rfl, q f ks H0 hf L len (B.mono (by omega)) F fp n1⟩

end
end KR
namespace KR
open PySem PySem.Spec PyProof.Rows L2
section
variable {P : Program} {w : World} {K : PySem.W.Frag} {mg : Str → Option Value} {base : Heap}
def sp_l_amounts (K : PySem.W.Frag) : Sp := fun vs H Q _ => ∃ (p : Addr) (k n : Nat) (st : Int), vs = [.ref p, .int (k : Int), .int st] ∧ BoxAt H p n ∧ n ≤ 999990000 ∧ 1 ≤ k ∧ k ≤ 6 ∧ 1 ≤ st ∧ st ≤ 2 ∧ ∀ (f : Addr) (l : List Fz) (H' : Hp), H' f = some (.lst (rz l)) → FL K H' l → l.length = k → (∀ z ∈ l, AmS z.2) → BoxAt H' p (n + 100) → Fr p H H' → f ≠ p → H f = none → Q (.ref f) H'
theorem ok_l_amounts (T : All K mg) : FnOk P w K mg base CX0 2 T.f_l_amounts T.fd_l_amounts ["_law_box_here", "_law_many", "_law_sorts"] (sp_l_amounts K) := by
  refine T.d_l_amounts.fn.ok sc_l_amounts (fun vs H Q E h => ?_) (fun cdv A outer s H vs Q E hr h => ?_)
  · obtain ⟨p, k, n, st, rfl, _⟩ := h
    rfl
  · obtain ⟨p, k, n, st, rfl, hB, hn, k1, k6, st1, st2, q⟩ := h
    refine ⟨_, (pss_cons (ps_set (i := 3) sc_l_amounts.nd rfl (by first | exact Or.inl rfl | exact Or.inr rfl) (pe_lstI pa_nil))
      (pss_cons (ps_for PassesOwn.never rfl (pi_range1 (by rfl) T.b_range (pa_cons (pv 1) pa_nil)) (pg_name (i := 4) sc_l_amounts.nd rfl (by first | exact Or.inl rfl | exact Or.inr rfl)) (pss_cons (ps_set (i := 5) sc_l_amounts.nd rfl (by first | exact Or.inl rfl | exact Or.inr rfl) (pe_call (ok_l_take T) hr (by rfl) T.d_l_take.mg T.d_l_take.fn.kp T.d_l_take.b .nil pass0 (pa_cons (pv 0) (pa_cons (pe_ix (ixL (K := K) rfl) (pe_lstI (pa_cons pe_int (pa_cons pe_int (pa_cons (pe_op op_pow pe_int pe_int) pa_nil)))) (pe_call (ok_l_take T) hr (by rfl) T.d_l_take.mg T.d_l_take.fn.kp T.d_l_take.b .nil pass0 (pa_cons (pv 0) (pa_cons (pv 2) pa_nil))) (fun _ _ => rfl)) pa_nil))))
      (pss_one (ps_expr (pe_bm PySem.F.plainAttrs_list PySem.F.slot_list_append PySem.F.type_list_append mt_append (pv 3) (pa_cons (pe_call (ok_l_low T) hr (by rfl) T.d_l_low.mg T.d_l_low.fn.kp T.d_l_low.b .nil pass0 (pa_cons (pv 5) (pa_cons (pe_op op_add pe_int (pe_call (ok_l_take T) hr (by rfl) T.d_l_take.mg T.d_l_take.fn.kp T.d_l_take.b .nil pass0 (pa_cons (pv 0) (pa_cons (pe_ix (ixL (K := K) rfl) (pe_lstI (pa_cons pe_int (pa_cons pe_int (pa_cons (pe_op op_sub (pe_op op_pow pe_int pe_int) pe_int) pa_nil)))) (pe_call (ok_l_take T) hr (by rfl) T.d_l_take.mg T.d_l_take.fn.kp T.d_l_take.b .nil pass0 (pa_cons (pv 0) (pa_cons (pv 2) pa_nil))) (fun _ _ => rfl)) pa_nil)))) pa_nil))) pa_nil))))))
      (pss_one (ps_ret (pv 3))))), ?_⟩
    refine ⟨rfl, fun f H1 s1 n1 h1 => ?_⟩
    have fp : f ≠ p := hB.new n1
    refine ⟨_, rfl, k, rfl, by omega, by omega, for_range (lo := 0) (n := k) (fun i σ H' => ∃ (l : List Fz) (v4 v5 : Option V), σ = [some (.ref p), some (.int (k : Int)), some (.int st), some (.ref f), v4, v5] ∧ H' f = some (.lst (rz l)) ∧ FL K H' l ∧ (∀ z ∈ l, AmS z.2) ∧ l.length = i ∧ BoxAt H' p (n + 16 * i) ∧ Fr p H H')
      ⟨[], none, none, rfl, h1, .nil, fun z hz => absurd hz List.not_mem_nil, rfl, hB.same s1, .of s1⟩ ?_ ?_⟩
    · rintro i σ H0 hi ⟨l, v4, v5, rfl, hf, L, am, len, B, F⟩
      refine ⟨_, rfl, _, _, rfl, rfl, ⟨by decide, by decide, by decide⟩, rfl, fun l1 H2 s2 n2 h2 => ?_⟩
      have B2 := B.same s2
      have l1p : l1 ≠ p := B.new n2
      refine ⟨_, rfl, _, rfl, p, st, n + 16 * i, rfl, B2, by omega, by omega, by omega, fun w H3 w0 w1 B3 F3 => ?_⟩
      obtain ⟨m, em, m0, m1⟩ : ∃ m : Int, atI ([.int 2, .int 1000, .int (10 ^ (40 : Int).toNat)] : List V) w = some (.int m) ∧ 0 < m ∧ m ≤ 1000 := by
        have ws : w = 0 ∨ w = 1 := by omega
        rcases ws with e | e <;> subst e
        · exact ⟨_, rfl, by decide, by decide⟩
        · exact ⟨_, rfl, by decide, by decide⟩
      refine ⟨l1, _, w, _, rfl, rfl, SqL.of (F3 _ _ l1p h2), em, p, m, n + 16 * i + 1, rfl, B3, by omega, m0, by omega, fun tp H4 tp0 tp1 B4 F4 => ?_⟩
      have F24 : Fr p H0 H4 := (Fr.of s2).trans (F3.trans F4)
      have hf4 := F24 _ _ fp hf
      refine ⟨_, rfl, .inl ⟨rfl, _, SqL.of hf4⟩, _, rfl, _, rfl, _, _, rfl, rfl, ⟨by decide, by decide, by decide⟩, _, _, rfl, rfl, rfl, fun l2 H5 s5 n5 h5 => ?_⟩
      have B5 := B4.same s5
      have l2p : l2 ≠ p := B4.new n5
      refine ⟨_, rfl, _, rfl, p, st, n + 16 * i + 2, rfl, B5, by omega, by omega, by omega, fun x H6 x0 x1 B6 F6 => ?_⟩
      obtain ⟨m', em', m0', m1'⟩ : ∃ m : Int, atI ([.int 1, .int 60, .int (10 ^ (40 : Int).toNat - 1)] : List V) x = some (.int m) ∧ 0 < m ∧ m ≤ 60 := by
        have ws : x = 0 ∨ x = 1 := by omega
        rcases ws with e | e <;> subst e
        · exact ⟨_, rfl, by decide, by decide⟩
        · exact ⟨_, rfl, by decide, by decide⟩
      refine ⟨l2, _, x, _, rfl, rfl, SqL.of (F6 _ _ l2p h5), em', p, m', n + 16 * i + 3, rfl, B6, by omega, m0', by omega, fun y H7 y0 y1 B7 F7 => ?_⟩
      refine ⟨_, _, rfl, rfl, tp, 1 + y, rfl, by omega, lt_up (b133 (by omega)) (by decide), lt_up (b133 (by omega)) (by decide), fun d H8 s8 n8 h8 => ?_⟩
      have F08 : Fr p H0 H8 := F24.trans ((Fr.of s5).trans (F6.trans (F7.trans (.of s8))))
      have hf8 := F08 _ _ fp hf
      refine ⟨f, _, _, rfl, rfl, hf8, by rw [rz_len]; exact small' (by omega), ?_⟩
      have nf : H f = none := n1
      refine ⟨l ++ [(d, rq tp (1 + y))], _, _, rfl, by rw [upd_same, rz_snoc], ?_, fun z hz => ?_, by rw [List.length_append, len] <;> rfl, ((B7.same s8).upd fp).mono (by omega), (F.trans F08).put' nf⟩
      · exact FL.put (FL.snoc (L.fr B F08) h8) hf8
      · rcases List.mem_append.mp hz with h | h
        · exact am z h
        · rw [List.mem_singleton.mp h]
          exact AmS.rq tp0 (by omega) (by omega) (by omega)
    · rintro σ H0 ⟨l, v4, v5, rfl, hf, L, am, len, B, F⟩
      exact ⟨_, rfl, q f l H0 hf L len am (B.mono (by omega)) F fp n1⟩

end
end KR
namespace KR
open PySem PySem.Spec PyProof.Rows L2
section
variable {P : Program} {w : World} {K : PySem.W.Frag} {mg : Str → Option Value} {base : Heap}
def sp_l_once (K : PySem.W.Frag) : Sp := fun vs H Q _ => ∃ (kl al : Addr) (ks : List Kn) (am : List Fz) (M B : Nat), vs = [.ref kl, .ref al] ∧ SqL K H kl (rk ks) ∧ SqL K H al (rz am) ∧ KnL K H ks.length ks ∧ FL K H am ∧ am.length = ks.length ∧ ks.length ≤ 6 ∧ AmOk M B (am.map (·.2)) ∧
  ∀ (f : Addr) (l : List Fz) (H' : Hp), Same H H' → H f = none → H' f = some (.lst (rz l)) → FL K H' l → l.map (·.2) = onceQ (ks.map Kn.q) (am.map (·.2)) → Q (.ref f) H'
theorem ok_l_once (T : All K mg) : FnOk P w K mg base CX0 4 T.f_l_once T.fd_l_once ["_law_kinds_here", "_law_amounts_here"] (sp_l_once K) := by
  refine T.d_l_once.fn.ok sc_l_once (fun vs H Q E h => ?_) (fun cdv A outer s H vs Q E hr h => ?_)
  · obtain ⟨kl, al, ks, am, M, B, rfl, _⟩ := h
    rfl
  · obtain ⟨kl, al, ks, am, M, B, rfl, hk, ha, L, fa, len, l6, ok, q⟩ := h
    refine ⟨_, (pss_cons (ps_set (i := 2) sc_l_once.nd rfl (by first | exact Or.inl rfl | exact Or.inr rfl) (pe_lstI pa_nil))
      (pss_cons (ps_for PassesOwn.never rfl (pi_enumB (K := K) rfl (by rfl) T.b_enumerate (pa_cons (pv 0) pa_nil)) (pg_tupK (K := K) rfl rfl (pgs_cons (pg_name (i := 3) sc_l_once.nd rfl (by first | exact Or.inl rfl | exact Or.inr rfl)) (pgs_cons (pg_name (i := 4) sc_l_once.nd rfl (by first | exact Or.inl rfl | exact Or.inr rfl)) pgs_nil))) (pss_cons (ps_setLc (i := 5) (own := [("_law_one", 6), ("_law_other", 7)]) (g := gTup K 2 (gCons (gName 6) (gCons (gName 7) gNil))) (tt := tYes) (by rfl) sc_l_once.nd rfl rfl (sw_true rfl rfl rfl (by decide +kernel)) (pi_zipB (K := K) rfl (by rfl) T.b_zip (pa_cons (pv 1) (pa_cons (pv 0) pa_nil))) (blkOk_by (own := [("_law_one", 6), ("_law_other", 7)]) (N := ["_law_kinds_here", "_law_amounts_here", "_law_found", "_law_place", "_law_kind", "_law_some", "_law_one", "_law_other"]) (sc := defScope s_l_once) (by decide +kernel)) (fun _ _ _ _ _ => (pg_tupK (K := K) rfl rfl (pgs_cons (pg_name (i := 6) sc_l_once.nd rfl (by first | exact Or.inl rfl | exact Or.inr rfl)) (pgs_cons (pg_name (i := 7) sc_l_once.nd rfl (by first | exact Or.inl rfl | exact Or.inr rfl)) pgs_nil)))) (fun _ _ _ _ _ => pts_nil) (fun _ _ _ _ _ => (pe_call (ok_l_by T) (hr.mono (by decide)) (by rfl) T.d_l_by.mg T.d_l_by.fn.kp T.d_l_by.b .nil pass0 (pa_cons (pe_call (ok_l_by T) (hr.mono (by decide)) (by rfl) T.d_l_by.mg T.d_l_by.fn.kp T.d_l_by.b .nil pass0 (pa_cons (pv 6) (pa_cons (pe_ix (ixT (K := K) rfl) (pv 7) pe_int (fun _ _ => rfl)) pa_nil))) (pa_cons (pe_ix (ixT (K := K) rfl) (pe_ix (ixT (K := K) rfl) (pv 7) pe_int (fun _ _ => rfl)) (pv 3) (fun _ _ => rfl)) pa_nil)))))
      (pss_one (ps_expr (pe_bm PySem.F.plainAttrs_list PySem.F.slot_list_append PySem.F.type_list_append mt_append (pv 2) (pa_cons (pe_call (ok_l_plus T) (hr.mono (by decide)) (by rfl) T.d_l_plus.mg T.d_l_plus.fn.kp T.d_l_plus.b .nil pass0 (pa_cons (pe_tupI (pa_cons (pe_ix (ixT (K := K) rfl) (pv 4) pe_int (fun _ _ => rfl)) (pa_cons pe_int pa_nil))) (pa_cons (pe_call (ok_l_all T) hr (by rfl) T.d_l_all.mg T.d_l_all.fn.kp T.d_l_all.b .nil pass0 (pa_cons (pv 5) pa_nil)) pa_nil))) pa_nil))))))
      (pss_one (ps_ret (pv 2))))), ?_⟩
    have kq := kq_mem L
    have lq : (am.map (·.2)).length = (ks.map Kn.q).length := by rw [List.length_map, List.length_map, len]
    have k6 : (ks.map Kn.q).length ≤ 6 := by rw [List.length_map]; exact l6
    refine ⟨rfl, fun f H1 s1 n1 h1 => ?_⟩
    refine ⟨_, rfl, kl, rk ks, true, rfl, s1.seq hk, for_it (walk_enumB (K := K) (a := kl) (xs := rk ks) (p := true)) (fun i σ H' => ∃ (l : List Fz) (v3 v4 v5 v6 v7 : Option V), σ = [some (.ref kl), some (.ref al), some (.ref f), v3, v4, v5, v6, v7] ∧ Same H H' ∧ H' f = some (.lst (rz l)) ∧ FL K H' l ∧ l.map (·.2) = (onceQ (ks.map Kn.q) (am.map (·.2))).take i)
      ⟨[], none, none, none, none, none, rfl, s1, h1, .nil, rfl⟩ (fun i σ H' _ ⟨_, _, _, _, _, _, _, s, _⟩ => s.seq hk) ?_ ?_⟩
    · rintro i x σ H2 H3 hi ⟨l, v3, v4, v5, v6, v7, rfl, s2, hf, fl, el⟩ ⟨T0, x0, y0, rfl, hT, rfl, e0, ex⟩
      obtain rfl := Option.some.inj e0
      obtain ⟨k, ek, rfl⟩ := rk_get ex
      have il : i < ks.length := (List.getElem?_eq_some_iff.mp ek).1
      have sT : Same H2 (upd H2 T0 (.tup [.int (i : Nat), .ref k.a])) := same_new hT
      have hT3 : (upd H2 T0 (.tup [.int (i : Nat), .ref k.a])) T0 = some (.tup [.int (i : Nat), .ref k.a]) := upd_same
      generalize upd H2 T0 (.tup [.int (i : Nat), .ref k.a]) = H3 at sT hT3
      have s3 := s2.trans sT
      refine ⟨T0, _, rfl, SqT.of hT3, rfl, _, _, rfl, _, _, rfl, rfl, ?_⟩
      -- the row of what comes
      refine ⟨_, rfl, _, rfl, al, kl, rz am, rk ks, true, true, rfl, s3.seq ha, s3.seq hk, fun D hD => ?_⟩
      refine lc_it (walk_zipB (K := K) (a := al) (b := kl) (xs := rz am) (ys := rk ks) (p := true) (q := true) (n := ks.length) ((rz_len am).trans len) (rk_len ks)) (fun j H' => ∃ m : List Fz, Same H3 H' ∧ H' D = some (.lst (rz m)) ∧ FL K H' m ∧ m.map (·.2) = (comes (ks.map Kn.q) (am.map (·.2)) i).take j)
        ⟨[], same_new hD, upd_same, .nil, rfl⟩ (fun j H' _ ⟨m, s, _⟩ => ⟨s.seq (s3.seq ha), s.seq (s3.seq hk)⟩) ?_ ?_
      · rintro j v H4 H5 hj ⟨m, s4, hD4, fm, em⟩ ⟨U, x1, y1, rfl, hU, rfl, gx, gy⟩
        obtain ⟨za, ea, rfl⟩ := rz_get gx
        obtain ⟨kj, ekj, rfl⟩ := rk_get gy
        have sU : Same H4 (upd H4 U (.tup [.ref za.1, .ref kj.a])) := same_new hU
        have hU5 : (upd H4 U (.tup [.ref za.1, .ref kj.a])) U = some (.tup [.ref za.1, .ref kj.a]) := upd_same
        generalize upd H4 U (.tup [.ref za.1, .ref kj.a]) = H5 at sU hU5
        have s5 := s3.trans (s4.trans sU)
        have mk := List.mem_of_getElem? ekj
        have ma := List.mem_of_getElem? ea
        have mq : za.2 ∈ am.map (·.2) := List.mem_map.mpr ⟨za, ma, rfl⟩
        have KO := (L kj mk).same s5
        have fz := (fa za ma).same s5
        have gi : i < kj.goes.length := by rw [(L kj mk).go.len]; exact il
        have gg : kj.goes[i]? = some kj.goes[i] := List.getElem?_eq_getElem gi
        generalize kj.goes[i] = zg at gg
        have mg' := List.mem_of_getElem? gg
        have gx2 : (rz kj.goes)[i]? = some (.ref zg.1) := by
          unfold rz
          rw [List.getElem?_map, gg] <;> rfl
        have pz := KO.go.pa zg mg'
        refine ⟨U, _, rfl, SqT.of hU5, rfl, _, _, rfl, _, _, rfl, rfl, rfl, yesT ?_⟩
        refine ⟨_, rfl, _, rfl, kj.a, _, 1, _, rfl, rfl, KO.at_, at1, za.1, kj.d, za.2, kj.drip, rfl, fz, KO.dr, ok.one mq, part_big KO.pd, trivial, fun z1 H6 s6 n6 h6 => ?_⟩
        have KO6 := KO.same s6
        refine ⟨_, rfl, kj.a, _, 2, _, rfl, rfl, KO6.at_, at2, _, rfl, kj.g, _, (i : Int), _, rfl, rfl, KO6.gs, at_of rfl gx2, z1, zg.1, _, zg.2, rfl, h6, KO6.go.fl zg mg', ok.drips_big mq KO.pd, part_big pz, trivial, fun z2 H7 s7 n7 h7 => ?_⟩
        have s47 := sU.trans (s6.trans s7)
        have hD7 := s47 _ _ hD4
        have ml : m.length ≤ 6 := by
          have e := congrArg List.length em
          rw [List.length_map, List.length_take, comes_len lq, List.length_map] at e
          omega
        refine ⟨_, hD7, by rw [rz_len]; exact small' (by omega), m ++ [(z2, za.2 * kj.drip * zg.2)], Same.put (s4.trans s47) hD, by rw [upd_same, rz_snoc], FL.put (FL.snoc (fm.same s47) h7) hD7, ?_⟩
        have cg := comes_get (ks := ks.map Kn.q) (p := i) (rz_q ea) (by rw [List.getElem?_map, ekj] <;> rfl)
        rw [getD_goes gg] at cg
        rw [List.map_append, em, take_one cg] <;> rfl
      · rintro H4 ⟨m, s4, hD4, fm, em⟩
        have em' : m.map (·.2) = comes (ks.map Kn.q) (am.map (·.2)) i := by
          rw [em, ← List.length_map (as := ks) Kn.q, ← comes_len (p := i) lq, List.take_length]
        have s4' := s3.trans s4
        have hf4 := s4 _ _ (sT _ _ hf)
        have KO := (L k (List.mem_of_getElem? ek)).same s4'
        refine ⟨_, rfl, .inl ⟨rfl, _, SqL.of hf4⟩, _, rfl, k.a, _, 0, _, rfl, rfl, KO.at_, at0, rfl, fun u H5 s5 n5 h5 => ?_⟩
        have bigm : ∀ z ∈ m, Big z.2 := fun z hz => by
          have mm : z.2 ∈ m.map (·.2) := List.mem_map.mpr ⟨z, hz, rfl⟩
          rw [em'] at mm
          obtain ⟨c1, c2, c3⟩ := ok.all kq i _ mm
          exact ok.big c1 (Nat.dvd_refl _) c2 (AmOk.up (a := ok) c3)
        refine ⟨_, rfl, D, m, true, rfl, SqL.of (s5 _ _ hD4), fm.same s5, bigm, by rw [em']; exact ok.add kq k6 lq i, fun z H6 s6 hz => ?_⟩
        rw [em'] at hz
        refine ⟨u, z, (k.fresh : Rat), _, rfl, FrQ.int (s6 _ _ h5), hz, fresh_big KO.f0 KO.f1, ok.sum_big kq k6 lq i, trivial, fun r H7 s7 n7 h7 => ?_⟩
        have s47 := s5.trans (s6.trans s7)
        have hf7 := s47 _ _ hf4
        have ll : l.length ≤ 6 := by
          have e := congrArg List.length el
          rw [List.length_map, List.length_take, once_len, List.length_map] at e
          omega
        refine ⟨f, _, _, rfl, rfl, hf7, by rw [rz_len]; exact small' (by omega), ?_⟩
        refine ⟨l ++ [(r, (k.fresh : Rat) + zsum (comes (ks.map Kn.q) (am.map (·.2)) i))], _, _, _, _, _, rfl, Same.put (s4'.trans s47) n1, by rw [upd_same, rz_snoc], FL.put (FL.snoc (fl.same (sT.trans (s4.trans s47))) h7) hf7, ?_⟩
        have og := once_get (ks := ks.map Kn.q) (qs := am.map (·.2)) (i := i) (by rw [List.length_map]; exact il)
        have eo : onceAt (ks.map Kn.q) (am.map (·.2)) i = (k.fresh : Rat) + zsum (comes (ks.map Kn.q) (am.map (·.2)) i) := by
          unfold onceAt
          rw [getD_fresh ek]
        rw [eo] at og
        rw [List.map_append, el, take_one og] <;> rfl
    · rintro σ H2 ⟨l, v3, v4, v5, v6, v7, rfl, s2, hf, fl, el⟩
      refine ⟨_, rfl, q f l H2 s2 n1 hf fl ?_⟩
      rw [el, rk_len, ← List.length_map (as := ks) Kn.q, ← once_len (ks.map Kn.q) (am.map (·.2)), List.take_length]

end
end KR
namespace KR
open PySem PySem.Spec PyProof.Rows L2
section
variable {P : Program} {w : World} {K : PySem.W.Frag} {mg : Str → Option Value} {base : Heap}
theorem fdivs {t b : Int} (hb : b ≠ 0) : (b < 0 → t.fdiv (-((Nat.gcd t.natAbs b.natAbs : Nat) : Int)) = (low t b).1 ∧ b.fdiv (-((Nat.gcd t.natAbs b.natAbs : Nat) : Int)) = (low t b).2) ∧
    (¬ b < 0 → t.fdiv ((Nat.gcd t.natAbs b.natAbs : Nat) : Int) = (low t b).1 ∧ b.fdiv ((Nat.gcd t.natAbs b.natAbs : Nat) : Int) = (low t b).2) := by
  have d1 : ((Nat.gcd t.natAbs b.natAbs : Nat) : Int) ∣ t := Int.ofNat_dvd_left.mpr (Nat.gcd_dvd_left _ _)
  have d2 : ((Nat.gcd t.natAbs b.natAbs : Nat) : Int) ∣ b := Int.ofNat_dvd_left.mpr (Nat.gcd_dvd_right _ _)
  have hg : 0 < Nat.gcd t.natAbs b.natAbs := Nat.gcd_pos_of_pos_right _ (by omega)
  unfold low
  generalize Nat.gcd t.natAbs b.natAbs = g at *
  refine ⟨fun c => ?_, fun c => ?_⟩
  · rw [fdiv_neg d1, fdiv_neg d2, if_pos c]
    refine ⟨rfl, ?_⟩
    have e : (b.natAbs : Int) = -b := by omega
    show b / (g : Int) * -1 = (b.natAbs : Int) / (g : Int)
    rw [e]
    obtain ⟨z, rfl⟩ := d2
    rw [Int.mul_ediv_cancel_left _ (by omega), ← Int.mul_neg, Int.mul_ediv_cancel_left _ (by omega)]
    omega
  · rw [if_neg c, Int.fdiv_eq_ediv_of_nonneg _ (by omega), Int.fdiv_eq_ediv_of_nonneg _ (by omega)]
    have e : (b.natAbs : Int) = b := by omega
    refine ⟨by omega, ?_⟩
    show b / (g : Int) = (b.natAbs : Int) / (g : Int)
    rw [e]
theorem ok0_p_frac_of (T : All K mg) : FnOk P w K mg base CX0 1 T.f_p_frac_of T.fd_p_frac_of ["top", "bottom"] sp_lowV := by
  refine T.d_p_frac_of.fn.ok sc_p_frac_of (fun vs H Q E h => ?_) (fun cdv A outer s H vs Q E hr h => ?_)
  · obtain ⟨t, b, rfl, _⟩ := h
    rfl
  · obtain ⟨t, b, rfl, hb, ht, hb2, q⟩ := h
    refine ⟨_, (pss_cons (ps_set (i := 2) sc_p_frac_of.nd rfl (by first | exact Or.inl rfl | exact Or.inr rfl) (pe_callBfun cr_gcd (by rfl) T.m_gcd (pa_cons (pv 0) (pa_cons (pv 1) pa_nil))))
      (pss_cons (ps_if (pt_cmpR op_lt (pv 1) pe_int (nomark _)) (pss_one (ps_set (i := 2) sc_p_frac_of.nd rfl (by first | exact Or.inl rfl | exact Or.inr rfl) (pe_un un_neg (pv 2)))) pss_nil)
      (pss_one (ps_ret (pe_tupI (pa_cons (pe_op op_fdivX (pv 0) (pv 2)) (pa_cons (pe_op op_fdivX (pv 1) (pv 2)) pa_nil))))))), ?_⟩
    have hg : 0 < Nat.gcd t.natAbs b.natAbs := Nat.gcd_pos_of_pos_right _ (by omega)
    have hg2 : Nat.gcd t.natAbs b.natAbs < 2 ^ 8900 := Nat.lt_of_le_of_lt (Nat.le_of_dvd (by omega) (Nat.gcd_dvd_right _ _)) hb2
    obtain ⟨k1, k2⟩ := fdivs (t := t) hb
    refine ⟨_, rfl, _, rfl, _, _, rfl, ?_⟩
    refine ⟨_, rfl, _, _, rfl, rfl, _, rfl, ite2 (fun c => ?_) (fun c => ?_)⟩
    · have c1 : b < 0 := of_decide_eq_true c
      have hd : ∀ z : Int, DivOk z (-((Nat.gcd t.natAbs b.natAbs : Nat) : Int)) := fun z => divOk (b := 8900) (by omega) (by rw [Int.natAbs_neg, Int.natAbs_natCast]; exact hg2) (by decide) (by decide)
      refine ⟨_, rfl, _, rfl, _, rfl, _, rfl, _, _, rfl, rfl, hd _, _, rfl, _, rfl, _, _, rfl, rfl, hd _, rfl, fun p H1 s1 hp h1 => ?_⟩
      refine q p H1 s1 hp ?_
      rw [← (k1 c1).1, ← (k1 c1).2]
      exact h1
    · have c1 : ¬ b < 0 := of_decide_eq_false (Bool.eq_false_iff.mpr c)
      have hd : ∀ z : Int, DivOk z ((Nat.gcd t.natAbs b.natAbs : Nat) : Int) := fun z => divOk (b := 8900) (by omega) (by rw [Int.natAbs_natCast]; exact hg2) (by decide) (by decide)
      refine ⟨_, rfl, _, rfl, _, _, rfl, rfl, hd _, _, rfl, _, rfl, _, _, rfl, rfl, hd _, rfl, fun p H1 s1 hp h1 => ?_⟩
      refine q p H1 s1 hp ?_
      rw [← (k2 c1).1, ← (k2 c1).2]
      exact h1
theorem ok_p_frac_of (T : All K mg) : FnOk P w K mg base CX0 1 T.f_p_frac_of T.fd_p_frac_of ["top", "bottom"] (sp_lowW K) := (ok0_p_frac_of T).imp fun _ _ _ _ h => lowW h

end
end KR
namespace KR
open PySem PySem.Spec PyProof.Rows L2
section
variable {P : Program} {w : World} {K : PySem.W.Frag} {mg : Str → Option Value} {base : Heap}
theorem ok_p_sum_of (T : All K mg) : FnOk P w K mg base CX0 2 T.f_p_sum_of T.fd_p_sum_of ["one", "other"] (sp_w2 K (fun p q => p + q) (fun _ q => True)) := by
  refine T.d_p_sum_of.fn.ok sc_p_sum_of (fun vs H Q E h => ?_) (fun cdv A outer s H vs Q E hr h => ?_)
  · obtain ⟨x, y, p, q, rfl, _⟩ := h
    rfl
  · obtain ⟨x, y, p, q, rfl, hx, hy, zp, zq, hok, k⟩ := h
    have hx' : SqT K H x [.int p.num, .int (p.den : Int)] := hx
    have hy' : SqT K H y [.int q.num, .int (q.den : Int)] := hy
    refine ⟨_, (pss_one (ps_ret (pe_call (ok_p_frac_of T) hr (by rfl) T.d_p_frac_of.mg T.d_p_frac_of.fn.kp T.d_p_frac_of.b .nil pass0 (pa_cons (pe_op op_add (pe_op op_mulX (pe_ix (ixT (K := K) rfl) (pv 0) pe_int (fun _ _ => rfl)) (pe_ix (ixT (K := K) rfl) (pv 1) pe_int (fun _ _ => rfl))) (pe_op op_mulX (pe_ix (ixT (K := K) rfl) (pv 1) pe_int (fun _ _ => rfl)) (pe_ix (ixT (K := K) rfl) (pv 0) pe_int (fun _ _ => rfl)))) (pa_cons (pe_op op_mulX (pe_ix (ixT (K := K) rfl) (pv 0) pe_int (fun _ _ => rfl)) (pe_ix (ixT (K := K) rfl) (pv 1) pe_int (fun _ _ => rfl))) pa_nil))))), ?_⟩
    obtain ⟨a1, a2⟩ := zp
    obtain ⟨b1, b2⟩ := zq
    have hp := den_ne' p
    have hq := den_ne' q
    refine ⟨_, rfl, x, _, 0, _, rfl, rfl, hx', at0, _, rfl, y, _, 1, _, rfl, rfl, hy', at1, _, _, rfl, rfl, mulZ a1 b2 (by omega), _, rfl, y, _, 0, _, rfl, rfl, hy', at0, _, rfl, x, _, 1, _, rfl, rfl, hx', at1, _, _, rfl, rfl, mulZ b1 a2 (by omega), _, _, rfl, rfl, ?_⟩
    refine ⟨_, rfl, x, _, 1, _, rfl, rfl, hx', at1, _, rfl, y, _, 1, _, rfl, rfl, hy', at1, _, _, rfl, rfl, mulZ a2 b2 (by omega), ?_⟩
    refine ⟨_, _, rfl, Int.mul_ne_zero hp hq, lt_up (add_lt (wide_lt a1 b2) (wide_lt b1 a2)) (by omega), lt_up (wide_lt a2 b2) (by omega), ?_⟩
    intro z H' s1 n1 h1
    rw [rq_add] at h1
    exact k z H' s1 n1 h1

end
end KR
namespace KR
open PySem PySem.Spec PyProof.Rows L2
section
variable {P : Program} {w : World} {K : PySem.W.Frag} {mg : Str → Option Value} {base : Heap}
def sp_p_sum_of_all (K : PySem.W.Frag) : Sp := fun vs H Q _ => ∃ (a : Addr) (l : List Fz) (p : Bool), vs = [.ref a] ∧ SqB K H a (rz l) p ∧ FL K H l ∧ (∀ z ∈ l, Big z.2) ∧ AddOk (l.map (·.2)) ∧ ∀ z H', Same H H' → FrQ K H' z (zsum (l.map (·.2))) → Q (.ref z) H'
theorem ok_p_sum_of_all (T : All K mg) : FnOk P w K mg base CX0 3 T.f_p_sum_of_all T.fd_p_sum_of_all ["ones"] (sp_p_sum_of_all K) := by
  refine T.d_p_sum_of_all.fn.ok sc_p_sum_of_all (fun vs H Q E h => ?_) (fun cdv A outer s H vs Q E hr h => ?_)
  · obtain ⟨a, l, p, rfl, _⟩ := h
    rfl
  · obtain ⟨a, l, p, rfl, ha, hf, big, add, q⟩ := h
    refine ⟨_, (pss_cons (ps_set (i := 1) sc_p_sum_of_all.nd rfl (by first | exact Or.inl rfl | exact Or.inr rfl) (pe_glob (v := .ref T.C_NOUGHT) rfl T.g_NOUGHT rfl))
      (pss_cons (ps_for PassesOwn.never rfl (pi_seqB (K := K) rfl (pv 0)) (pg_name (i := 2) sc_p_sum_of_all.nd rfl (by first | exact Or.inl rfl | exact Or.inr rfl)) (pss_one (ps_set (i := 1) sc_p_sum_of_all.nd rfl (by first | exact Or.inl rfl | exact Or.inr rfl) (pe_call (ok_p_sum_of T) hr (by rfl) T.d_p_sum_of.mg T.d_p_sum_of.fn.kp T.d_p_sum_of.b .nil pass0 (pa_cons (pv 1) (pa_cons (pv 2) pa_nil))))))
      (pss_one (ps_ret (pv 1))))), ?_⟩
    have s1 : Same H H := .refl _
    have h1 : FrQ K H T.C_NOUGHT 0 := T.q_NOUGHT H
    cases p with
    | true => exact ⟨_, rfl, a, rfl, .inl ⟨⟨_, s1.seq ha⟩, all_loop walk_list (fun H' s => s.seq ha) s1 h1 hf big add fun z v H' s hz => ⟨_, rfl, q z H' s hz⟩⟩⟩
    | false => exact ⟨_, rfl, a, rfl, .inr ⟨⟨_, Same.tup s1 ha⟩, all_loop walk_tup (fun H' s => Same.tup s ha) s1 h1 hf big add fun z v H' s hz => ⟨_, rfl, q z H' s hz⟩⟩⟩

end
end KR
namespace KR
open PySem PySem.Spec PyProof.Rows L2
section
variable {P : Program} {w : World} {K : PySem.W.Frag} {mg : Str → Option Value} {base : Heap}
theorem ok_p_product (T : All K mg) : FnOk P w K mg base CX0 2 T.f_p_product T.fd_p_product ["one", "other"] (sp_w2 K (fun p q => p * q) (fun _ q => True)) := by
  refine T.d_p_product.fn.ok sc_p_product (fun vs H Q E h => ?_) (fun cdv A outer s H vs Q E hr h => ?_)
  · obtain ⟨x, y, p, q, rfl, _⟩ := h
    rfl
  · obtain ⟨x, y, p, q, rfl, hx, hy, zp, zq, hok, k⟩ := h
    have hx' : SqT K H x [.int p.num, .int (p.den : Int)] := hx
    have hy' : SqT K H y [.int q.num, .int (q.den : Int)] := hy
    refine ⟨_, (pss_one (ps_ret (pe_call (ok_p_frac_of T) hr (by rfl) T.d_p_frac_of.mg T.d_p_frac_of.fn.kp T.d_p_frac_of.b .nil pass0 (pa_cons (pe_op op_mulX (pe_ix (ixT (K := K) rfl) (pv 0) pe_int (fun _ _ => rfl)) (pe_ix (ixT (K := K) rfl) (pv 1) pe_int (fun _ _ => rfl))) (pa_cons (pe_op op_mulX (pe_ix (ixT (K := K) rfl) (pv 0) pe_int (fun _ _ => rfl)) (pe_ix (ixT (K := K) rfl) (pv 1) pe_int (fun _ _ => rfl))) pa_nil))))), ?_⟩
    obtain ⟨a1, a2⟩ := zp
    obtain ⟨b1, b2⟩ := zq
    have hp := den_ne' p
    have hq := den_ne' q
    refine ⟨_, rfl, x, _, 0, _, rfl, rfl, hx', at0, _, rfl, y, _, 0, _, rfl, rfl, hy', at0, _, _, rfl, rfl, mulZ a1 b1 (by omega), ?_⟩
    refine ⟨_, rfl, x, _, 1, _, rfl, rfl, hx', at1, _, rfl, y, _, 1, _, rfl, rfl, hy', at1, _, _, rfl, rfl, mulZ a2 b2 (by omega), ?_⟩
    refine ⟨_, _, rfl, Int.mul_ne_zero hp hq, lt_up (wide_lt a1 b1) (by omega), lt_up (wide_lt a2 b2) (by omega), ?_⟩
    intro z H' s1 n1 h1
    rw [rq_mul] at h1
    exact k z H' s1 n1 h1

end
end KR
namespace KR
open PySem PySem.Spec PyProof.Rows L2
section
variable {P : Program} {w : World} {K : PySem.W.Frag} {mg : Str → Option Value} {base : Heap}
def sp_p__dripped_of (K : PySem.W.Frag) : Sp := fun vs H Q _ => ∃ (kl al : Addr) (ks : List Kn) (am : List Fz) (M B n : Nat) (p p2 : Bool), vs = [.ref kl, .ref al] ∧ SqB K H kl (rk ks) p ∧ SqB K H al (rz am) p2 ∧ KnL K H n ks ∧ FL K H am ∧ am.length = ks.length ∧ ks.length ≤ 6 ∧ AmOk M B (am.map (·.2)) ∧
  ∀ (f : Addr) (l : List Fz) (H' : Hp), Same H H' → H f = none → H' f = some (.lst (rz l)) → FL K H' l → l.map (·.2) = dripsQ (ks.map Kn.q) (am.map (·.2)) → Q (.ref f) H'
theorem ok_p__dripped_of (T : All K mg) : FnOk P w K mg base CX0 3 T.f_p__dripped_of T.fd_p__dripped_of ["kinds", "amounts"] (sp_p__dripped_of K) := by
  refine T.d_p__dripped_of.fn.ok sc_p__dripped_of (fun vs H Q E h => ?_) (fun cdv A outer s H vs Q E hr h => ?_)
  · obtain ⟨kl, al, ks, am, M, B, n, p, p2, rfl, _⟩ := h
    rfl
  · obtain ⟨kl, al, ks, am, M, B, n, p, p2, rfl, hk, ha, L, fa, len, l6, ok, q⟩ := h
    refine ⟨_, (pss_one (ps_ret (pe_lc (own := [("amount", 2), ("_", 3), ("drip", 4), ("_", 3)]) (g := gTup K 2 (gCons (gName 2) (gCons (gTup K 3 (gCons (gName 3) (gCons (gName 4) (gCons (gName 3) gNil)))) gNil))) (tt := tYes) (by rfl) sc_p__dripped_of.nd (pi_zipB (K := K) rfl (by rfl) T.b_zip (pa_cons (pv 1) (pa_cons (pv 0) pa_nil))) (blkOk_by (own := [("amount", 2), ("_", 3), ("drip", 4), ("_", 3)]) (N := ["kinds", "amounts", "amount", "_", "drip"]) (sc := defScope s_p__dripped_of) (by decide +kernel)) (fun _ _ _ _ _ => (pg_tupK (K := K) rfl rfl (pgs_cons (pg_name (i := 2) sc_p__dripped_of.nd rfl (by first | exact Or.inl rfl | exact Or.inr rfl)) (pgs_cons (pg_tupK (K := K) rfl rfl (pgs_cons (pg_name (i := 3) sc_p__dripped_of.nd rfl (by first | exact Or.inl rfl | exact Or.inr rfl)) (pgs_cons (pg_name (i := 4) sc_p__dripped_of.nd rfl (by first | exact Or.inl rfl | exact Or.inr rfl)) (pgs_cons (pg_name (i := 3) sc_p__dripped_of.nd rfl (by first | exact Or.inl rfl | exact Or.inr rfl)) pgs_nil)))) pgs_nil)))) (fun _ _ _ _ _ => pts_nil) (fun _ _ _ _ _ => (pe_call (ok_p_product T) hr (by rfl) T.d_p_product.mg T.d_p_product.fn.kp T.d_p_product.b .nil pass0 (pa_cons (pv 2) (pa_cons (pv 4) pa_nil))))))), ?_⟩
    have lq : (am.map (·.2)).length = (ks.map Kn.q).length := by rw [List.length_map, List.length_map, len]
    refine ⟨_, rfl, _, rfl, al, kl, rz am, rk ks, p2, p, rfl, ha, hk, fun D hD => ?_⟩
    refine lc_it (walk_zipB (K := K) (a := al) (b := kl) (xs := rz am) (ys := rk ks) (p := p2) (q := p) (n := ks.length) ((rz_len am).trans len) (rk_len ks)) (fun j H' => ∃ m : List Fz, Same H H' ∧ H' D = some (.lst (rz m)) ∧ FL K H' m ∧ m.map (·.2) = (dripsQ (ks.map Kn.q) (am.map (·.2))).take j)
      ⟨[], same_new hD, upd_same, .nil, rfl⟩ (fun j H' _ ⟨m, s, _⟩ => ⟨ha.same s, hk.same s⟩) ?_ ?_
    · rintro j v H4 H5 hj ⟨m, s4, hD4, fm, em⟩ ⟨U, x1, y1, rfl, hU, rfl, gx, gy⟩
      obtain ⟨za, ea, rfl⟩ := rz_get gx
      obtain ⟨kj, ekj, rfl⟩ := rk_get gy
      have sU : Same H4 (upd H4 U (.tup [.ref za.1, .ref kj.a])) := same_new hU
      have hU5 : (upd H4 U (.tup [.ref za.1, .ref kj.a])) U = some (.tup [.ref za.1, .ref kj.a]) := upd_same
      generalize upd H4 U (.tup [.ref za.1, .ref kj.a]) = H5 at sU hU5
      have s5 := s4.trans sU
      have mk := List.mem_of_getElem? ekj
      have ma := List.mem_of_getElem? ea
      have mq : za.2 ∈ am.map (·.2) := List.mem_map.mpr ⟨za, ma, rfl⟩
      have KO := (L kj mk).same s5
      have fz := (fa za ma).same s5
      refine ⟨U, _, rfl, SqT.of hU5, rfl, _, _, rfl, _, _, rfl, kj.a, _, rfl, KO.at_, rfl, _, _, rfl, _, _, rfl, _, _, rfl, rfl, rfl, rfl, yesT ?_⟩
      refine ⟨_, rfl, _, rfl, za.1, kj.d, za.2, kj.drip, rfl, fz, KO.dr, ok.one mq, part_big KO.pd, trivial, fun z2 H7 s7 n7 h7 => ?_⟩
      have s47 := sU.trans s7
      have hD7 := s47 _ _ hD4
      have ml : m.length ≤ 6 := by
        have e := congrArg List.length em
        rw [List.length_map, List.length_take, drips_len lq, List.length_map] at e
        omega
      refine ⟨_, hD7, by rw [rz_len]; exact small' (by omega), m ++ [(z2, za.2 * kj.drip)], Same.put (s4.trans s47) hD, by rw [upd_same, rz_snoc], FL.put (FL.snoc (fm.same s47) h7) hD7, ?_⟩
      have cg := drips_get (ks := ks.map Kn.q) (rz_q ea) (by rw [List.getElem?_map, ekj] <;> rfl)
      rw [List.map_append, em, take_one cg] <;> rfl
    · rintro H4 ⟨m, s4, hD4, fm, em⟩
      refine q D m H4 s4 hD hD4 fm ?_
      rw [em, ← List.length_map (as := ks) Kn.q, ← drips_len lq, List.take_length]

end
end KR
namespace KR
open PySem PySem.Spec PyProof.Rows L2
section
variable {P : Program} {w : World} {K : PySem.W.Frag} {mg : Str → Option Value} {base : Heap}
def sp_p_walked_once (K : PySem.W.Frag) : Sp := fun vs H Q _ => ∃ (kl al : Addr) (ks : List Kn) (am : List Fz) (M B : Nat) (p p2 : Bool), vs = [.ref kl, .ref al] ∧ SqB K H kl (rk ks) p ∧ SqB K H al (rz am) p2 ∧ KnL K H ks.length ks ∧ FL K H am ∧ am.length = ks.length ∧ ks.length ≤ 6 ∧ AmOk M B (am.map (·.2)) ∧
  ∀ (f : Addr) (l : List Fz) (H' : Hp), Same H H' → H f = none → H' f = some (.lst (rz l)) → FL K H' l → l.map (·.2) = onceQ (ks.map Kn.q) (am.map (·.2)) → Q (.ref f) H'
theorem ok_p_walked_once (T : All K mg) : FnOk P w K mg base CX0 4 T.f_p_walked_once T.fd_p_walked_once ["kinds", "amounts"] (sp_p_walked_once K) := by
  refine T.d_p_walked_once.fn.ok sc_p_walked_once (fun vs H Q E h => ?_) (fun cdv A outer s H vs Q E hr h => ?_)
  · obtain ⟨kl, al, ks, am, M, B, p, p2, rfl, _⟩ := h
    rfl
  · obtain ⟨kl, al, ks, am, M, B, p, p2, rfl, hk, ha, L, fa, len, l6, ok, q⟩ := h
    refine ⟨_, (pss_cons (ps_set (i := 2) sc_p_walked_once.nd rfl (by first | exact Or.inl rfl | exact Or.inr rfl) (pe_call (ok_p__dripped_of T) hr (by rfl) T.d_p__dripped_of.mg T.d_p__dripped_of.fn.kp T.d_p__dripped_of.b .nil pass0 (pa_cons (pv 0) (pa_cons (pv 1) pa_nil))))
      (pss_cons (ps_set (i := 3) sc_p_walked_once.nd rfl (by first | exact Or.inl rfl | exact Or.inr rfl) (pe_lstI pa_nil))
      (pss_cons (ps_for PassesOwn.never rfl (pi_enumB (K := K) rfl (by rfl) T.b_enumerate (pa_cons (pv 0) pa_nil)) (pg_tupK (K := K) rfl rfl (pgs_cons (pg_name (i := 4) sc_p_walked_once.nd rfl (by first | exact Or.inl rfl | exact Or.inr rfl)) (pgs_cons (pg_tupK (K := K) rfl rfl (pgs_cons (pg_name (i := 5) sc_p_walked_once.nd rfl (by first | exact Or.inl rfl | exact Or.inr rfl)) (pgs_cons (pg_name (i := 6) sc_p_walked_once.nd rfl (by first | exact Or.inl rfl | exact Or.inr rfl)) (pgs_cons (pg_name (i := 6) sc_p_walked_once.nd rfl (by first | exact Or.inl rfl | exact Or.inr rfl)) pgs_nil)))) pgs_nil))) (pss_cons (ps_setLc (i := 7) (own := [("drips", 8), ("_", 6), ("_", 6), ("goes", 9)]) (g := gTup K 2 (gCons (gName 8) (gCons (gTup K 3 (gCons (gName 6) (gCons (gName 6) (gCons (gName 9) gNil)))) gNil))) (tt := tYes) (by rfl) sc_p_walked_once.nd rfl rfl (sw_true rfl rfl rfl (by decide +kernel)) (pi_zipB (K := K) rfl (by rfl) T.b_zip (pa_cons (pv 2) (pa_cons (pv 0) pa_nil))) (blkOk_by (own := [("drips", 8), ("_", 6), ("_", 6), ("goes", 9)]) (N := ["kinds", "amounts", "dripped", "later", "place", "fresh", "_", "come", "drips", "goes"]) (sc := defScope s_p_walked_once) (by decide +kernel)) (fun _ _ _ _ _ => (pg_tupK (K := K) rfl rfl (pgs_cons (pg_name (i := 8) sc_p_walked_once.nd rfl (by first | exact Or.inl rfl | exact Or.inr rfl)) (pgs_cons (pg_tupK (K := K) rfl rfl (pgs_cons (pg_name (i := 6) sc_p_walked_once.nd rfl (by first | exact Or.inl rfl | exact Or.inr rfl)) (pgs_cons (pg_name (i := 6) sc_p_walked_once.nd rfl (by first | exact Or.inl rfl | exact Or.inr rfl)) (pgs_cons (pg_name (i := 9) sc_p_walked_once.nd rfl (by first | exact Or.inl rfl | exact Or.inr rfl)) pgs_nil)))) pgs_nil)))) (fun _ _ _ _ _ => pts_nil) (fun _ _ _ _ _ => (pe_call (ok_p_product T) (hr.mono (by decide)) (by rfl) T.d_p_product.mg T.d_p_product.fn.kp T.d_p_product.b .nil pass0 (pa_cons (pv 8) (pa_cons (pe_ix (ixT (K := K) rfl) (pv 9) (pv 4) (fun _ _ => rfl)) pa_nil)))))
      (pss_one (ps_expr (pe_bm PySem.F.plainAttrs_list PySem.F.slot_list_append PySem.F.type_list_append mt_append (pv 3) (pa_cons (pe_call (ok_p_sum_of T) (hr.mono (by decide)) (by rfl) T.d_p_sum_of.mg T.d_p_sum_of.fn.kp T.d_p_sum_of.b .nil pass0 (pa_cons (pe_tupI (pa_cons (pv 5) (pa_cons pe_int pa_nil))) (pa_cons (pe_call (ok_p_sum_of_all T) hr (by rfl) T.d_p_sum_of_all.mg T.d_p_sum_of_all.fn.kp T.d_p_sum_of_all.b .nil pass0 (pa_cons (pv 7) pa_nil)) pa_nil))) pa_nil))))))
      (pss_one (ps_ret (pv 3)))))), ?_⟩
    have kq := kq_mem L
    have lq : (am.map (·.2)).length = (ks.map Kn.q).length := by rw [List.length_map, List.length_map, len]
    have k6 : (ks.map Kn.q).length ≤ 6 := by rw [List.length_map]; exact l6
    refine ⟨_, rfl, _, rfl, kl, al, ks, am, M, B, ks.length, p, p2, rfl, hk, ha, L, fa, len, l6, ok, fun dl dr H0 s0 n0 h0 fd ed => ?_⟩
    have dlen : dr.length = ks.length := by
      have e := congrArg List.length ed
      rw [List.length_map, drips_len lq, List.length_map] at e
      exact e
    refine ⟨rfl, fun f H1 s1' n1' h1 => ?_⟩
    have s1 := s0.trans s1'
    have n1 : H f = none := by
      cases e : H f with
      | none => rfl
      | some o =>
        have k := s0 _ _ e
        rw [n1'] at k
        cases k
    have hd1 := s1' _ _ h0
    have fd1 := fd.same s1'
    refine ⟨_, rfl, kl, rk ks, p, rfl, hk.same s1, for_it (walk_enumB (K := K) (a := kl) (xs := rk ks) (p := p)) (fun i σ H' => ∃ (l : List Fz) (v4 v5 v6 v7 v8 v9 : Option V), σ = [some (.ref kl), some (.ref al), some (.ref dl), some (.ref f), v4, v5, v6, v7, v8, v9] ∧ Same H H' ∧ H' dl = some (.lst (rz dr)) ∧ FL K H' dr ∧ H' f = some (.lst (rz l)) ∧ FL K H' l ∧ l.map (·.2) = (onceQ (ks.map Kn.q) (am.map (·.2))).take i)
      ⟨[], none, none, none, none, none, none, rfl, s1, hd1, fd1, h1, .nil, rfl⟩ (fun i σ H' _ ⟨_, _, _, _, _, _, _, _, s, _⟩ => hk.same s) ?_ ?_⟩
    · rintro i x σ H2 H3 hi ⟨l, v4, v5, v6, v7, v8, v9, rfl, s2, hd2, fd2, hf, fl, el⟩ ⟨T0, x0, y0, rfl, hT, rfl, e0, ex⟩
      obtain rfl := Option.some.inj e0
      obtain ⟨k, ek, rfl⟩ := rk_get ex
      have il : i < ks.length := (List.getElem?_eq_some_iff.mp ek).1
      have sT : Same H2 (upd H2 T0 (.tup [.int (i : Nat), .ref k.a])) := same_new hT
      have hT3 : (upd H2 T0 (.tup [.int (i : Nat), .ref k.a])) T0 = some (.tup [.int (i : Nat), .ref k.a]) := upd_same
      generalize upd H2 T0 (.tup [.int (i : Nat), .ref k.a]) = H3 at sT hT3
      have s3 := s2.trans sT
      have KO3 := (L k (List.mem_of_getElem? ek)).same s3
      refine ⟨T0, _, rfl, SqT.of hT3, rfl, _, _, rfl, _, _, rfl, k.a, _, rfl, KO3.at_, rfl, _, _, rfl, _, _, rfl, _, _, rfl, rfl, rfl, ?_⟩
      have hd3 := sT _ _ hd2
      have fd3 := fd2.same sT
      refine ⟨_, rfl, _, rfl, dl, kl, rz dr, rk ks, true, p, rfl, SqL.of hd3, hk.same s3, fun D hD => ?_⟩
      refine lc_it (walk_zipB (K := K) (a := dl) (b := kl) (xs := rz dr) (ys := rk ks) (p := true) (q := p) (n := ks.length) ((rz_len dr).trans dlen) (rk_len ks)) (fun j H' => ∃ m : List Fz, Same H3 H' ∧ H' D = some (.lst (rz m)) ∧ FL K H' m ∧ m.map (·.2) = (comes (ks.map Kn.q) (am.map (·.2)) i).take j)
        ⟨[], same_new hD, upd_same, .nil, rfl⟩ (fun j H' _ ⟨m, s, _⟩ => ⟨SqL.of (s _ _ hd3), hk.same (s3.trans s)⟩) ?_ ?_
      · rintro j v H4 H5 hj ⟨m, s4, hD4, fm, em⟩ ⟨U, x1, y1, rfl, hU, rfl, gx, gy⟩
        obtain ⟨zd, ezd, rfl⟩ := rz_get gx
        obtain ⟨kj, ekj, rfl⟩ := rk_get gy
        have sU : Same H4 (upd H4 U (.tup [.ref zd.1, .ref kj.a])) := same_new hU
        have hU5 : (upd H4 U (.tup [.ref zd.1, .ref kj.a])) U = some (.tup [.ref zd.1, .ref kj.a]) := upd_same
        generalize upd H4 U (.tup [.ref zd.1, .ref kj.a]) = H5 at sU hU5
        have s45 := s4.trans sU
        have s5 := s3.trans s45
        have mk := List.mem_of_getElem? ekj
        have ja : j < am.length := by rw [len]; exact hj
        have ea : am[j]? = some am[j] := List.getElem?_eq_getElem ja
        generalize am[j] = za at ea
        have ma := List.mem_of_getElem? ea
        have mq : za.2 ∈ am.map (·.2) := List.mem_map.mpr ⟨za, ma, rfl⟩
        have KO := (L kj mk).same s5
        have fz := (fd3 zd (List.mem_of_getElem? ezd)).same s45
        have ezq : zd.2 = za.2 * kj.drip := by
          have k1 := rz_q ezd
          rw [ed, drips_get (ks := ks.map Kn.q) (rz_q ea) (by rw [List.getElem?_map, ekj] <;> rfl)] at k1
          exact (Option.some.inj k1).symm
        rw [ezq] at fz
        have gi : i < kj.goes.length := by rw [(L kj mk).go.len]; exact il
        have gg : kj.goes[i]? = some kj.goes[i] := List.getElem?_eq_getElem gi
        generalize kj.goes[i] = zg at gg
        have mg' := List.mem_of_getElem? gg
        have gx2 : (rz kj.goes)[i]? = some (.ref zg.1) := by
          unfold rz
          rw [List.getElem?_map, gg] <;> rfl
        have pz := KO.go.pa zg mg'
        refine ⟨U, _, rfl, SqT.of hU5, rfl, _, _, rfl, _, _, rfl, kj.a, _, rfl, KO.at_, rfl, _, _, rfl, _, _, rfl, _, _, rfl, rfl, rfl, rfl, yesT ?_⟩
        refine ⟨_, rfl, _, rfl, _, rfl, kj.g, _, (i : Int), _, rfl, rfl, KO.gs, at_of rfl gx2, zd.1, zg.1, _, zg.2, rfl, fz, KO.go.fl zg mg', ok.drips_big mq KO.pd, part_big pz, trivial, fun z2 H7 s7 n7 h7 => ?_⟩
        have s47 := sU.trans s7
        have hD7 := s47 _ _ hD4
        have ml : m.length ≤ 6 := by
          have e := congrArg List.length em
          rw [List.length_map, List.length_take, comes_len lq, List.length_map] at e
          omega
        refine ⟨_, hD7, by rw [rz_len]; exact small' (by omega), m ++ [(z2, za.2 * kj.drip * zg.2)], Same.put (s4.trans s47) hD, by rw [upd_same, rz_snoc], FL.put (FL.snoc (fm.same s47) h7) hD7, ?_⟩
        have cg := comes_get (ks := ks.map Kn.q) (p := i) (rz_q ea) (by rw [List.getElem?_map, ekj] <;> rfl)
        rw [getD_goes gg] at cg
        rw [List.map_append, em, take_one cg] <;> rfl
      · rintro H4 ⟨m, s4, hD4, fm, em⟩
        have em' : m.map (·.2) = comes (ks.map Kn.q) (am.map (·.2)) i := by
          rw [em, ← List.length_map (as := ks) Kn.q, ← comes_len (p := i) lq, List.take_length]
        have s4' := s3.trans s4
        have hf4 := s4 _ _ (sT _ _ hf)
        refine ⟨_, rfl, .inl ⟨rfl, _, SqL.of hf4⟩, _, rfl, rfl, fun u H5 s5 n5 h5 => ?_⟩
        have bigm : ∀ z ∈ m, Big z.2 := fun z hz => by
          have mm : z.2 ∈ m.map (·.2) := List.mem_map.mpr ⟨z, hz, rfl⟩
          rw [em'] at mm
          obtain ⟨c1, c2, c3⟩ := ok.all kq i _ mm
          exact ok.big c1 (Nat.dvd_refl _) c2 (AmOk.up (a := ok) c3)
        refine ⟨_, rfl, D, m, true, rfl, SqL.of (s5 _ _ hD4), fm.same s5, bigm, by rw [em']; exact ok.add kq k6 lq i, fun z H6 s6 hz => ?_⟩
        rw [em'] at hz
        refine ⟨u, z, (k.fresh : Rat), _, rfl, FrQ.int (s6 _ _ h5), hz, fresh_big KO3.f0 KO3.f1, ok.sum_big kq k6 lq i, trivial, fun r H7 s7 n7 h7 => ?_⟩
        have s47 := s5.trans (s6.trans s7)
        have sA := sT.trans (s4.trans s47)
        have hf7 := s47 _ _ hf4
        have hd7 := sA _ _ hd2
        have ll : l.length ≤ 6 := by
          have e := congrArg List.length el
          rw [List.length_map, List.length_take, once_len, List.length_map] at e
          omega
        have dne : dl ≠ f := fun z => by
          rw [z, n1'] at h0
          cases h0
        refine ⟨f, _, _, rfl, rfl, hf7, by rw [rz_len]; exact small' (by omega), ?_⟩
        refine ⟨l ++ [(r, (k.fresh : Rat) + zsum (comes (ks.map Kn.q) (am.map (·.2)) i))], _, _, _, _, _, _, rfl, Same.put (s4'.trans s47) n1, by rw [upd_ne dne]; exact hd7, FL.put (fd2.same sA) hf7, by rw [upd_same, rz_snoc], FL.put (FL.snoc (fl.same sA) h7) hf7, ?_⟩
        have og := once_get (ks := ks.map Kn.q) (qs := am.map (·.2)) (i := i) (by rw [List.length_map]; exact il)
        have eo : onceAt (ks.map Kn.q) (am.map (·.2)) i = (k.fresh : Rat) + zsum (comes (ks.map Kn.q) (am.map (·.2)) i) := by
          unfold onceAt
          rw [getD_fresh ek]
        rw [eo] at og
        rw [List.map_append, el, take_one og] <;> rfl
    · rintro σ H2 ⟨l, v4, v5, v6, v7, v8, v9, rfl, s2, _, _, hf, fl, el⟩
      refine ⟨_, rfl, q f l H2 s2 n1 hf fl ?_⟩
      rw [el, rk_len, ← List.length_map (as := ks) Kn.q, ← once_len (ks.map Kn.q) (am.map (·.2)), List.take_length]

end
end KR
namespace KR
open PySem PySem.Spec PyProof.Rows L2
section
variable {P : Program} {w : World} {K : PySem.W.Frag} {mg : Str → Option Value} {base : Heap}
def sp_p_walked_on (K : PySem.W.Frag) : Sp := fun vs H Q _ => ∃ (kl al : Addr) (ks : List Kn) (am : List Fz) (n : Nat) (p p2 : Bool), vs = [.ref kl, .ref al, .int (n : Int)] ∧ n ≤ 1000 ∧ SqB K H kl (rk ks) p ∧ SqB K H al (rz am) p2 ∧ KnL K H ks.length ks ∧ FL K H am ∧ am.length = ks.length ∧ ks.length ≤ 6 ∧
  (∀ r, r < n → ∃ M B, AmOk M B (roundsQ (ks.map Kn.q) r (am.map (·.2)))) ∧
  ∀ (f : Addr) (l : List Fz) (H' : Hp), Same H H' → H f = none → H' f = some (.lst (rz l)) → FL K H' l → l.map (·.2) = roundsQ (ks.map Kn.q) n (am.map (·.2)) → Q (.ref f) H'
theorem ok_p_walked_on (T : All K mg) : FnOk P w K mg base CX0 5 T.f_p_walked_on T.fd_p_walked_on ["kinds", "amounts", "many"] (sp_p_walked_on K) := by
  refine T.d_p_walked_on.fn.ok sc_p_walked_on (fun vs H Q E h => ?_) (fun cdv A outer s H vs Q E hr h => ?_)
  · obtain ⟨kl, al, ks, am, n, p, p2, rfl, _⟩ := h
    rfl
  · obtain ⟨kl, al, ks, am, n, p, p2, rfl, n9, hk, ha, L, fa, len, l6, ok, q⟩ := h
    refine ⟨_, (pss_cons (ps_set (i := 3) sc_p_walked_on.nd rfl (by first | exact Or.inl rfl | exact Or.inr rfl) (pe_callTy (listI (K := K) rfl) (by rfl) T.b_list (by decide +kernel) (pa_cons (pv 1) pa_nil)))
      (pss_cons (ps_for PassesOwn.never rfl (pi_range1 (by rfl) T.b_range (pa_cons (pv 2) pa_nil)) (pg_name (i := 4) sc_p_walked_on.nd rfl (by first | exact Or.inl rfl | exact Or.inr rfl)) (pss_one (ps_set (i := 3) sc_p_walked_on.nd rfl (by first | exact Or.inl rfl | exact Or.inr rfl) (pe_call (ok_p_walked_once T) hr (by rfl) T.d_p_walked_once.mg T.d_p_walked_once.fn.kp T.d_p_walked_once.b .nil pass0 (pa_cons (pv 0) (pa_cons (pv 3) pa_nil))))))
      (pss_one (ps_ret (pv 3))))), ?_⟩
    have lq : (am.map (·.2)).length = (ks.map Kn.q).length := by rw [List.length_map, List.length_map, len]
    have sq : SqL K H al (rz am) ∨ SqT K H al (rz am) := by
      cases p2 with
      | true => exact .inl ha
      | false => exact .inr ha
    refine ⟨_, rfl, al, _, rfl, sq, fun f H1 s1 n1 h1 => ?_⟩
    refine ⟨_, rfl, n, rfl, by omega, by omega, for_range (lo := 0) (n := n) (fun i σ H' => ∃ (f : Addr) (l : List Fz) (v4 : Option V), σ = [some (.ref kl), some (.ref al), some (.int (n : Int)), some (.ref f), v4] ∧ Same H H' ∧ H f = none ∧ H' f = some (.lst (rz l)) ∧ FL K H' l ∧ l.map (·.2) = roundsQ (ks.map Kn.q) i (am.map (·.2)))
      ⟨f, am, none, rfl, s1, n1, h1, fa.same s1, rfl⟩ ?_ ?_⟩
    · rintro i σ H2 hi ⟨f, l, v4, rfl, s2, nf, hf, fl, el⟩
      obtain ⟨M, B, ai⟩ := ok i hi
      have ll : l.length = ks.length := by
        have e := congrArg List.length el
        rw [List.length_map, rounds_len lq, List.length_map] at e
        exact e
      refine ⟨_, rfl, _, rfl, kl, f, ks, l, M, B, p, true, rfl, hk.same s2, SqL.of hf, L.same s2, fl, ll, l6, by rw [el]; exact ai, fun g m H3 s3 n3 h3 fm em => ?_⟩
      refine ⟨g, m, _, rfl, s2.trans s3, same_none s2 n3, h3, fm, ?_⟩
      rw [em, el] <;> rfl
    · rintro σ H2 ⟨f, l, v4, rfl, s2, nf, hf, fl, el⟩
      exact ⟨_, rfl, q f l H2 s2 nf hf fl el⟩

end
end KR
namespace KR
open PySem PySem.Spec PyProof.Rows L2
section
variable {P : Program} {w : World} {K : PySem.W.Frag} {mg : Str → Option Value} {base : Heap}
def sp_l_right (K : PySem.W.Frag) : Sp := fun vs H Q _ => ∃ (p : Addr) (kk : Int), vs = [.ref p, .int kk] ∧ BoxAt H p 0 ∧ ∀ H', Fr p H H' → Q (.bl true) H'
theorem ok_l_right (T : All K mg) : FnOk P w K mg base CX0 6 T.f_l_right T.fd_l_right ["_law_box_here", "_law_k"] (sp_l_right K) := by
  refine T.d_l_right.fn.ok sc_l_right (fun vs H Q E h => ?_) (fun cdv A outer s H vs Q E hr h => ?_)
  · obtain ⟨p, kk, rfl, _⟩ := h
    rfl
  · obtain ⟨p, kk, rfl, hB, q⟩ := h
    refine ⟨_, (pss_cons (ps_set (i := 2) sc_l_right.nd rfl (by first | exact Or.inl rfl | exact Or.inr rfl) (pe_and (pe_cmpR op_eq (pe_call (ok_l_take T) (hr.mono (by decide)) (by rfl) T.d_l_take.mg T.d_l_take.fn.kp T.d_l_take.b .nil pass0 (pa_cons (pv 0) (pa_cons pe_int pa_nil))) pe_int (nomark _)) (pe_one (pe_cmpR op_lt (pv 1) pe_int (nomark _)))))
      (pss_cons (ps_set (i := 3) sc_l_right.nd rfl (by first | exact Or.inl rfl | exact Or.inr rfl) (pe_op op_add pe_int (pe_call (ok_l_take T) (hr.mono (by decide)) (by rfl) T.d_l_take.mg T.d_l_take.fn.kp T.d_l_take.b .nil pass0 (pa_cons (pv 0) (pa_cons (pe_ix (ixL (K := K) rfl) (pe_lstI (pa_cons pe_int (pa_cons pe_int pa_nil))) (pe_callTy call_int1 (by rfl) T.b_int (by decide +kernel) (pa_cons (pv 2) pa_nil)) (fun _ _ => rfl)) pa_nil)))))
      (pss_cons (ps_par (i := 4) (j := 5) (by rfl) sc_l_right.nd rfl rfl (by decide) rfl rfl (pa_cons (pe_call (ok_l_kinds T) hr (by rfl) T.d_l_kinds.mg T.d_l_kinds.fn.kp T.d_l_kinds.b .nil pass0 (pa_cons (pv 0) (pa_cons (pv 3) pa_nil))) (pa_cons (pe_call (ok_l_amounts T) (hr.mono (by decide)) (by rfl) T.d_l_amounts.mg T.d_l_amounts.fn.kp T.d_l_amounts.b .nil pass0 (pa_cons (pv 0) (pa_cons (pv 3) (pa_cons pe_int pa_nil)))) pa_nil)) (by rfl))
      (pss_cons (ps_par (i := 6) (j := 7) (by rfl) sc_l_right.nd rfl rfl (by decide) rfl rfl (pa_cons (pe_call (ok_l_take T) (hr.mono (by decide)) (by rfl) T.d_l_take.mg T.d_l_take.fn.kp T.d_l_take.b .nil pass0 (pa_cons (pv 0) (pa_cons (pe_ix (ixL (K := K) rfl) (pe_lstI (pa_cons pe_int (pa_cons pe_int pa_nil))) (pe_callTy call_int1 (by rfl) T.b_int (by decide +kernel) (pa_cons (pv 2) pa_nil)) (fun _ _ => rfl)) pa_nil))) (pa_cons (pe_call (ok_l_take T) (hr.mono (by decide)) (by rfl) T.d_l_take.mg T.d_l_take.fn.kp T.d_l_take.b .nil pass0 (pa_cons (pv 0) (pa_cons pe_int pa_nil))) pa_nil)) (by rfl))
      (pss_cons (ps_set (i := 8) sc_l_right.nd rfl (by first | exact Or.inl rfl | exact Or.inr rfl) (pv 5))
      (pss_cons (ps_for PassesOwn.never rfl (pi_range1 (by rfl) T.b_range (pa_cons (pv 6) pa_nil)) (pg_name (i := 9) sc_l_right.nd rfl (by first | exact Or.inl rfl | exact Or.inr rfl)) (pss_one (ps_set (i := 8) sc_l_right.nd rfl (by first | exact Or.inl rfl | exact Or.inr rfl) (pe_call (ok_l_once T) (hr.mono (by decide)) (by rfl) T.d_l_once.mg T.d_l_once.fn.kp T.d_l_once.b .nil pass0 (pa_cons (pv 4) (pa_cons (pv 8) pa_nil))))))
      (pss_cons (ps_set (i := 10) sc_l_right.nd rfl (by first | exact Or.inl rfl | exact Or.inr rfl) (pe_lstI (pa_cons (pe_callTy (listI (K := K) rfl) (by rfl) T.b_list (by decide +kernel) (pa_cons (pv 4) pa_nil)) (pa_cons (pe_callTy (listI (K := K) rfl) (by rfl) T.b_list (by decide +kernel) (pa_cons (pv 5) pa_nil)) pa_nil))))
      (pss_cons (ps_if (PW.pt (pw_or (pt_not (pt_val (pe_call (ok_l_is_fracs T) (hr.mono (by decide)) (by rfl) T.d_l_is_fracs.mg T.d_l_is_fracs.fn.kp T.d_l_is_fracs.b .nil pass0 (pa_cons (pe_call (ok_p_walked_on T) hr (by rfl) T.d_p_walked_on.mg T.d_p_walked_on.fn.kp T.d_p_walked_on.b .nil pass0 (pa_cons (pe_ix (ixL (K := K) rfl) (pv 10) pe_int (fun _ _ => rfl)) (pa_cons (pe_ix (ixL (K := K) rfl) (pv 10) pe_int (fun _ _ => rfl)) (pa_cons (pv 6) pa_nil)))) (pa_cons (pv 8) pa_nil))))) (pw_or1 (pt_cmpR (neDK (K := K) rfl hr.units) (pv 10) (pe_lstI (pa_cons (pv 4) (pa_cons (pv 5) pa_nil))) (nomark _))))) (pss_one (ps_ret pe_bl)) pss_nil)
      (pss_cons (ps_set (i := 11) sc_l_right.nd rfl (by first | exact Or.inl rfl | exact Or.inr rfl) (pe_call (ok_p_walked_on T) hr (by rfl) T.d_p_walked_on.mg T.d_p_walked_on.fn.kp T.d_p_walked_on.b .nil pass0 (pa_cons (pe_ix (ixL (K := K) rfl) (pv 10) pe_int (fun _ _ => rfl)) (pa_cons (pe_ix (ixL (K := K) rfl) (pv 10) pe_int (fun _ _ => rfl)) (pa_cons pe_int pa_nil)))))
      (pss_cons (ps_if (pt_not (pt_val (pe_call (ok_l_is_fracs T) (hr.mono (by decide)) (by rfl) T.d_l_is_fracs.mg T.d_l_is_fracs.fn.kp T.d_l_is_fracs.b .nil pass0 (pa_cons (pv 11) (pa_cons (pv 5) pa_nil))))) (pss_one (ps_ret pe_bl)) pss_nil)
      (pss_cons (ps_expr (pe_bm PySem.F.plainAttrs_list PySem.F.slot_list_append PySem.F.type_list_append mt_append (pv 11) (pa_cons (pe_tupI (pa_cons pe_int (pa_cons pe_int pa_nil))) pa_nil)))
      (pss_cons (ps_if (pt_cmpR (neDK (K := K) rfl hr.units) (pv 10) (pe_lstI (pa_cons (pv 4) (pa_cons (pv 5) pa_nil))) (nomark _)) (pss_one (ps_ret pe_bl)) pss_nil)
      (pss_cons (ps_set (i := 12) sc_l_right.nd rfl (by first | exact Or.inl rfl | exact Or.inr rfl) (pe_callB (call_min2 rfl) (by rfl) T.b_min (by decide +kernel) (pa_cons pe_int (pa_cons (pe_op op_add (pv 6) (pv 7)) pa_nil))))
      (pss_cons (ps_if (pt_cmpR (neDK (K := K) rfl hr.units) (pe_call (ok_p_walked_on T) hr (by rfl) T.d_p_walked_on.mg T.d_p_walked_on.fn.kp T.d_p_walked_on.b .nil pass0 (pa_cons (pv 4) (pa_cons (pv 8) (pa_cons (pe_op op_sub (pv 12) (pv 6)) pa_nil)))) (pe_call (ok_p_walked_on T) hr (by rfl) T.d_p_walked_on.mg T.d_p_walked_on.fn.kp T.d_p_walked_on.b .nil pass0 (pa_cons (pv 4) (pa_cons (pv 5) (pa_cons (pv 12) pa_nil)))) (nomark _)) (pss_one (ps_ret pe_bl)) pss_nil)
      (pss_cons (ps_set (i := 11) sc_l_right.nd rfl (by first | exact Or.inl rfl | exact Or.inr rfl) (pv 5))
      (pss_cons (ps_for PassesOwn.never rfl (pi_range1 (by rfl) T.b_range (pa_cons (pe_callB (call_min2 rfl) (by rfl) T.b_min (by decide +kernel) (pa_cons (pv 6) (pa_cons pe_int pa_nil))) pa_nil)) (pg_name (i := 9) sc_l_right.nd rfl (by first | exact Or.inl rfl | exact Or.inr rfl)) (pss_one (ps_set (i := 11) sc_l_right.nd rfl (by first | exact Or.inl rfl | exact Or.inr rfl) (pe_call (ok_p_walked_once T) (hr.mono (by decide)) (by rfl) T.d_p_walked_once.mg T.d_p_walked_once.fn.kp T.d_p_walked_once.b .nil pass0 (pa_cons (pv 4) (pa_cons (pv 11) pa_nil))))))
      (pss_one (ps_ret (pe_cmpR (eqDK (K := K) rfl hr.units) (pe_call (ok_p_walked_on T) hr (by rfl) T.d_p_walked_on.mg T.d_p_walked_on.fn.kp T.d_p_walked_on.b .nil pass0 (pa_cons (pe_callTy call_tuple_of (by rfl) T.b_tuple (by decide +kernel) (pa_cons (pv 4) pa_nil)) (pa_cons (pe_callTy call_tuple_of (by rfl) T.b_tuple (by decide +kernel) (pa_cons (pv 5) pa_nil)) (pa_cons (pe_callB (call_min2 rfl) (by rfl) T.b_min (by decide +kernel) (pa_cons (pv 6) (pa_cons pe_int pa_nil))) pa_nil)))) (pv 11) (nomark _)))))))))))))))))))), ?_⟩
    refine ⟨_, rfl, p, 3, 0, rfl, hB, by decide, by decide, by decide, fun w H1 w0 w1 B1 F1 => ⟨rfl, _, rfl, ?_⟩⟩
    refine and_tail (A := fun Q => tOp (rI0 fun i j => V.bl (decide (i < j))) (tVar 1) (tC (.int 1)) _ H1 Q) (fun Q h => ⟨_, rfl, _, _, rfl, rfl, h _⟩) (fun g => ?_)
    refine ⟨_, rfl, rfl, fun l1 H2 s2 n2 h2 => ?_⟩
    have B2 := B1.same s2
    have pick : ∀ a b : Int, atI ([.int a, .int b] : List V) (if g = true then 1 else 0) = some (.int (if g = true then b else a)) := fun a b => by cases g <;> rfl
    refine ⟨_, rfl, .inr ⟨_, rfl, l1, _, _, _, rfl, rfl, SqL.of h2, pick 6 3, ?_⟩⟩
    have m6 : 0 < (if g = true then (3 : Int) else 6) ∧ (if g = true then (3 : Int) else 6) ≤ 6 := by cases g <;> decide
    refine ⟨p, _, 1, rfl, B2, by decide, m6.1, by omega, fun x H3 x0 x1 B3 F3 => ?_⟩
    obtain ⟨wn, rfl⟩ : ∃ wn : Nat, x = (wn : Int) := ⟨x.toNat, by omega⟩
    refine ⟨_, _, rfl, rfl, ?_⟩
    refine ⟨_, rfl, _, rfl, p, 1 + wn, 2, rfl, B3, by decide, by omega, by omega, fun kl ks H4 hk L lk B4 F4 klp nk => ?_⟩
    refine ⟨_, rfl, _, rfl, p, 1 + wn, 302, 2, rfl, B4, by decide, by omega, by omega, by decide, by decide, fun al am H5 ha5 fa5 la qa B5 F5 alp na => ?_⟩
    refine ⟨_, _, rfl, ?_⟩
    refine ⟨_, rfl, rfl, fun l2 H6 s6 n6 h6 => ?_⟩
    have B6 := B5.same s6
    refine ⟨_, rfl, .inr ⟨_, rfl, l2, _, _, _, rfl, rfl, SqL.of h6, pick 10 41, ?_⟩⟩
    have m41 : 0 < (if g = true then (41 : Int) else 10) ∧ (if g = true then (41 : Int) else 10) ≤ 41 := by cases g <;> decide
    refine ⟨p, _, 402, rfl, B6, by decide, m41.1, by omega, fun r H7 r0 r1 B7 F7 => ?_⟩
    obtain ⟨rn, rfl⟩ : ∃ rn : Nat, r = (rn : Int) := ⟨r.toNat, by omega⟩
    have r40 : rn ≤ 40 := by omega
    refine ⟨_, rfl, p, 6, 403, rfl, B7, by decide, by decide, by decide, fun mo H8 mo0 mo1 B8 F8 => ?_⟩
    obtain ⟨mn, rfl⟩ : ∃ mn : Nat, mo = (mn : Int) := ⟨mo.toNat, by omega⟩
    refine ⟨_, _, rfl, ?_⟩
    have F58 : Fr p H5 H8 := (Fr.of s6).trans (F7.trans F8)
    have F48 : Fr p H4 H8 := F5.trans F58
    have F08 : Fr p H H8 := (F1.trans ((Fr.of s2).trans (F3.trans F4))).trans F48
    have hk8 := F48 _ _ klp hk
    have L8 := L.fr B4 F48
    have ha8 := F58 _ _ alp ha5
    have fa8 := fa5.fr B5 F58
    have len : am.length = ks.length := by rw [la, lk]
    have l6 : ks.length ≤ 6 := by omega
    rw [← lk] at L8
    have kq := kq_mem L8
    have lq : (am.map (·.2)).length = (ks.map Kn.q).length := by rw [List.length_map, List.length_map, len]
    have k6 : (ks.map Kn.q).length ≤ 6 := by rw [List.length_map]; exact l6
    have ok := am_rounds kq k6 lq (mem_q qa)
    have rl : ∀ {l : List Fz} {r : Nat}, l.map (·.2) = roundsQ (ks.map Kn.q) r (am.map (·.2)) → l.length = ks.length := fun {l r} e => by
      have e := congrArg List.length e
      rw [List.length_map, rounds_len lq, List.length_map] at e
      exact e
    refine ⟨_, rfl, ?_⟩
    -- the law's own rounds
    refine ⟨_, rfl, rn, rfl, by omega, by omega, for_range (lo := 0) (n := rn) (fun i σ H' => ∃ (d : Addr) (dr : List Fz) (v9 : Option V), σ = [some (.ref p), some (.int kk), some (.bl g), some (.int (1 + (wn : Int))), some (.ref kl), some (.ref al), some (.int (rn : Int)), some (.int (mn : Int)), some (.ref d), v9, none, none, none] ∧ Same H8 H' ∧ H' d = some (.lst (rz dr)) ∧ FL K H' dr ∧ dr.map (·.2) = roundsQ (ks.map Kn.q) i (am.map (·.2)))
      ⟨al, am, none, rfl, .refl _, ha8, fa8, rfl⟩ ?_ ?_⟩
    · rintro i σ H9 hi ⟨d, dr, v9, rfl, s9, hd, fd, ed⟩
      obtain ⟨M, B, a⟩ := ok i (by omega)
      refine ⟨_, rfl, _, rfl, kl, d, ks, dr, M, B, rfl, SqL.of (s9 _ _ hk8), SqL.of hd, L8.same s9, fd, rl ed, l6, by rw [ed]; exact a, fun f l H10 s10 n10 h10 fl el => ?_⟩
      refine ⟨f, l, _, rfl, s9.trans s10, h10, fl, ?_⟩
      rw [el, ed] <;> rfl
    · rintro σ H9 ⟨d, dr, v9, rfl, s9, hd9, fd9, ed⟩
      refine ⟨_, rfl, kl, _, rfl, .inl (SqL.of (s9 _ _ hk8)), fun c1 H10 s10 n10 h10 => ?_⟩
      have s810 := s9.trans s10
      refine ⟨_, rfl, al, _, rfl, .inl (SqL.of (s810 _ _ ha8)), fun c2 H11 s11 n11 h11 => ?_⟩
      refine ⟨rfl, fun hd H12 s12 n12 h12 => ?_⟩
      have s912 := s10.trans (s11.trans s12)
      have s812 := s9.trans s912
      have hk := s812 _ _ hk8
      have ha := s812 _ _ ha8
      have L := L8.same s812
      have fa := fa8.same s812
      have hdu := s912 _ _ hd9
      have fdu := fd9.same s912
      have hc1 := s12 _ _ (s11 _ _ h10)
      have hc2 := s12 _ _ h11
      have same : ∀ {Hx : Hp}, Same H12 Hx → ∀ nl, Hx nl = some (.lst [.ref kl, .ref al]) → Dp K Hx (.ref hd) (dka ks am) ∧ Dp K Hx (.ref nl) (dka ks am) := fun {Hx} s nl hn =>
        ⟨.lst (SqL.of (s _ _ h12)) (.cons (.lst (SqL.of (s _ _ hc1)) (L.same s).dps) (.cons (.lst (SqL.of (s _ _ hc2)) (fa.same s).dps) .nil)), .lst (SqL.of hn) (.cons (.lst (SqL.of (s _ _ hk)) (L.same s).dps) (.cons (.lst (SqL.of (s _ _ ha)) (fa.same s).dps) .nil))⟩
      have sh := dka_shaped ks am
      have okr : ∀ n, n ≤ 41 → ∀ r, r < n → ∃ M B, AmOk M B (roundsQ (ks.map Kn.q) r (am.map (·.2))) := fun n hn r hr => ok r (by omega)
      refine ⟨_, rfl, hd, _, 0, _, rfl, rfl, SqL.of h12, at0, _, rfl, hd, _, 1, _, rfl, rfl, SqL.of h12, at1, _, rfl, c1, c2, ks, am, rn, true, true, rfl, by omega, SqL.of hc1, SqL.of hc2, L, fa, len, l6, okr rn (by omega), fun f1 l1 H13 s13 n13 h13 ff1 ef1 => ?_⟩
      refine ⟨_, rfl, f1, d, l1, dr, rfl, h13, SqL.of (s13 _ _ hdu), ff1, fdu.same s13, ef1.trans ed.symm, by rw [rl ef1]; omega, fun H14 s14 => ⟨true, rfl, iteF ?_⟩⟩
      refine ⟨_, rfl, _, rfl, _, rfl, rfl, fun nl H15 s15 n15 h15 => ?_⟩
      have s1215 := s13.trans (s14.trans s15)
      obtain ⟨dp1, dp2⟩ := same s1215 nl h15
      refine ⟨_, _, dp1, dp2, sh, sh, _, rfl, ?_⟩
      rw [SeqAt.eqv_refl _ (SeqAt.canLay_of_shaped sh)]
      refine iteF ?_
      have hd15 := s1215 _ _ h12
      refine ⟨_, rfl, hd, _, 0, _, rfl, rfl, SqL.of hd15, at0, _, rfl, hd, _, 1, _, rfl, rfl, SqL.of hd15, at1, c1, c2, ks, am, 0, true, true, rfl, by decide, SqL.of (s1215 _ _ hc1), SqL.of (s1215 _ _ hc2), L.same s1215, fa.same s1215, len, l6, okr 0 (by decide), fun f2 l2 H16 s16 n16 h16 ff2 ef2 => ?_⟩
      have s1216 := s1215.trans s16
      refine ⟨_, rfl, _, rfl, f2, al, l2, am, rfl, h16, SqL.of (s1216 _ _ ha), ff2, fa.same s1216, ef2, by rw [rl ef2]; omega, fun H17 s17 => ⟨true, rfl, iteF ?_⟩⟩
      have h17 := s17 _ _ h16
      refine ⟨_, rfl, .inl ⟨rfl, _, SqL.of h17⟩, rfl, fun t H18 s18 n18 h18 => ?_⟩
      refine ⟨f2, _, _, rfl, rfl, s18 _ _ h17, by rw [rz_len, rl ef2]; exact small' (by omega), ?_⟩
      have n16' : H12 f2 = none := same_none s1215 n16
      have s19 : Same H12 (upd H18 f2 (.lst (rz l2 ++ [.ref t]))) := Same.put (s1216.trans (s17.trans s18)) n16'
      generalize upd H18 f2 (.lst (rz l2 ++ [.ref t])) = H19 at s19
      refine ⟨_, rfl, _, rfl, _, rfl, rfl, fun nl2 H20 s20 n20 h20 => ?_⟩
      have s1220 := s19.trans s20
      obtain ⟨dp3, dp4⟩ := same s1220 nl2 h20
      refine ⟨_, _, dp3, dp4, sh, sh, _, rfl, ?_⟩
      rw [SeqAt.eqv_refl _ (SeqAt.canLay_of_shaped sh)]
      refine iteF ?_
      -- both
      obtain ⟨bo, ebo, bo1, bo2⟩ : ∃ bo : Nat, (if ((rn : Int) + (mn : Int)) < 40 then ((rn : Int) + (mn : Int)) else 40) = (bo : Int) ∧ rn ≤ bo ∧ bo ≤ 40 := by
        refine ⟨(if ((rn : Int) + (mn : Int)) < 40 then ((rn : Int) + (mn : Int)) else 40).toNat, ?_, ?_, ?_⟩ <;> split <;> omega
      refine ⟨_, rfl, _, rfl, _, _, rfl, rfl, _, _, rfl, ?_⟩
      rw [ebo]
      have hk20 := s1220 _ _ hk
      have ha20 := s1220 _ _ ha
      have hdu20 := s1220 _ _ hdu
      have fdu20 := fdu.same s1220
      have L20 := L.same s1220
      have fa20 := fa.same s1220
      have dif : (bo : Int) - (rn : Int) = ((bo - rn : Nat) : Int) := by omega
      refine ⟨_, rfl, _, rfl, _, rfl, _, rfl, _, _, rfl, rfl, kl, d, ks, dr, bo - rn, true, true, by show [V.ref kl, V.ref d, V.int ((bo : Int) - (rn : Int))] = _; rw [dif], by omega, SqL.of hk20, SqL.of hdu20, L20, fdu20, rl ed, l6, fun r hr => by rw [ed, rounds_add]; exact ok (r + rn) (by omega), fun f3 l3 H21 s21 n21 h21 ff3 ef3 => ?_⟩
      rw [ed, rounds_add, show bo - rn + rn = bo by omega] at ef3
      refine ⟨_, rfl, _, rfl, _, rfl, kl, al, ks, am, bo, true, true, rfl, by omega, SqL.of (s21 _ _ hk20), SqL.of (s21 _ _ ha20), L20.same s21, fa20.same s21, len, l6, okr bo (by omega), fun f4 l4 H22 s22 n22 h22 ff4 ef4 => ?_⟩
      have dats : ∀ {l : List Fz} {n : Nat}, l.map (·.2) = roundsQ (ks.map Kn.q) n (am.map (·.2)) → (l.map fun z => dq z.2) = (roundsQ (ks.map Kn.q) n (am.map (·.2))).map dq := fun {l n} e => by rw [← e, List.map_map] <;> rfl
      have flat : ∀ l : List Fz, SeqAt.shaped (.list (l.map fun z => dq z.2)) = true := fun l => flat_shaped (m := 2) (flat_list (flat_qs l)) (by decide)
      have d3 : Dp K H22 (.ref f3) (.list (l3.map fun z => dq z.2)) := .lst (SqL.of (s22 _ _ h21)) (ff3.same s22).dps
      have d4 : Dp K H22 (.ref f4) (.list (l4.map fun z => dq z.2)) := .lst (SqL.of h22) ff4.dps
      have e34 : (l4.map fun z => dq z.2) = (l3.map fun z => dq z.2) := (dats ef4).trans (dats ef3).symm
      rw [e34] at d4
      refine ⟨_, _, d3, d4, flat l3, flat l3, _, rfl, ?_⟩
      rw [SeqAt.eqv_refl _ (SeqAt.canLay_of_shaped (flat l3))]
      refine iteF ?_
      have s1222 := s1220.trans (s21.trans s22)
      refine ⟨_, rfl, ?_⟩
      obtain ⟨mi, emi, mi8⟩ : ∃ mi : Nat, (if (8 : Int) < (rn : Int) then (8 : Int) else (rn : Int)) = (mi : Int) ∧ mi ≤ 8 := by
        refine ⟨(if (8 : Int) < (rn : Int) then (8 : Int) else (rn : Int)).toNat, ?_, ?_⟩ <;> split <;> omega
      refine ⟨_, rfl, _, _, rfl, mi, by rw [emi], by omega, by omega, for_range (lo := 0) (n := mi) (fun i σ H' => ∃ (f : Addr) (l : List Fz) (v9 : Option V), σ = [some (.ref p), some (.int kk), some (.bl g), some (.int (1 + (wn : Int))), some (.ref kl), some (.ref al), some (.int (rn : Int)), some (.int (mn : Int)), some (.ref d), v9, some (.ref hd), some (.ref f), some (.int (bo : Int))] ∧ Same H12 H' ∧ H' f = some (.lst (rz l)) ∧ FL K H' l ∧ l.map (·.2) = roundsQ (ks.map Kn.q) i (am.map (·.2)))
        ⟨al, am, _, rfl, s1222, s1222 _ _ ha, fa.same s1222, rfl⟩ ?_ ?_⟩
      · rintro i σ H23 hi ⟨f, l, v9', rfl, s23, hf, fl, el⟩
        obtain ⟨M, B, a⟩ := ok i (by omega)
        refine ⟨_, rfl, _, rfl, kl, f, ks, l, M, B, true, true, rfl, SqL.of (s23 _ _ hk), SqL.of hf, L.same s23, fl, rl el, l6, by rw [el]; exact a, fun f' l' H24 s24 n24 h24 fl' el' => ?_⟩
        refine ⟨f', l', _, rfl, s23.trans s24, h24, fl', ?_⟩
        rw [el', el] <;> rfl
      · rintro σ H23 ⟨f, l, v9', rfl, s23, hf, fl, el⟩
        refine ⟨_, rfl, kl, _, rfl, .inl ⟨SqL.of (s23 _ _ hk), fun t1 nt1 => ?_⟩⟩
        have sa : Same H23 (upd H23 t1 (.tup (rk ks))) := same_new nt1
        have ht1 : (upd H23 t1 (.tup (rk ks))) t1 = some (.tup (rk ks)) := upd_same
        generalize upd H23 t1 (.tup (rk ks)) = H24 at sa ht1
        have s1224 := s23.trans sa
        refine ⟨_, rfl, al, _, rfl, .inl ⟨SqL.of (s1224 _ _ ha), fun t2 nt2 => ?_⟩⟩
        have sb : Same H24 (upd H24 t2 (.tup (rz am))) := same_new nt2
        have ht2 : (upd H24 t2 (.tup (rz am))) t2 = some (.tup (rz am)) := upd_same
        generalize upd H24 t2 (.tup (rz am)) = H25 at sb ht2
        have s1225 := s1224.trans sb
        refine ⟨_, rfl, _, _, rfl, t1, t2, ks, am, mi, false, false, by rw [emi] <;> rfl, by omega, SqT.of (sb _ _ ht1), SqT.of ht2, L.same s1225, fa.same s1225, len, l6, okr mi (by omega), fun f5 l5 H26 s26 n26 h26 ff5 ef5 => ?_⟩
        have s2326 := sa.trans (sb.trans s26)
        have d5 : Dp K H26 (.ref f5) (.list (l5.map fun z => dq z.2)) := .lst (SqL.of h26) ff5.dps
        have d6 : Dp K H26 (.ref f) (.list (l.map fun z => dq z.2)) := .lst (SqL.of (s2326 _ _ hf)) (fl.same s2326).dps
        have e56 : (l.map fun z => dq z.2) = (l5.map fun z => dq z.2) := (dats el).trans (dats ef5).symm
        rw [e56] at d6
        refine ⟨_, rfl, _, _, d5, d6, flat l5, flat l5, ?_⟩
        rw [SeqAt.eqv_refl _ (SeqAt.canLay_of_shaped (flat l5))]
        exact q H26 (F08.trans (.of (s812.trans (s23.trans s2326))))

end
end KR
namespace KR
open PySem PySem.Spec PyProof.Rows L2
section
variable {P : Program} {w : World} {K : PySem.W.Frag} {mg : Str → Option Value} {base : Heap}
def sp_p_law (K : PySem.W.Frag) : Sp := fun vs H Q _ => ∃ (a : Addr) (ns : List Int), vs = [.ref a] ∧ SqL K H a (ns.map V.int) ∧ ns.length ≤ 63 ∧ ∀ H', Q (.bl true) H'
theorem ok_p_law (T : All K mg) : FnOk P w K mg base CX0 7 T.f_p_law T.fd_p_law ["_law_script"] (sp_p_law K) := by
  refine T.d_p_law.fn.ok sc_p_law (fun vs H Q E h => ?_) (fun cdv A outer s H vs Q E hr h => ?_)
  · obtain ⟨a, ns, rfl, _⟩ := h
    rfl
  · obtain ⟨a, ns, rfl, hS, hlen, q⟩ := h
    refine ⟨_, (pss_one (ps_ret (pe_callB (allK (K := K) rfl rfl) (by rfl) T.b_all (by decide +kernel) (pa_cons (pe_lc (own := [("_law_k", 1)]) (g := gName 1) (tt := tYes) (by rfl) sc_p_law.nd (pi_range1 (by rfl) T.b_range (pa_cons (pe_op op_add pe_int (pe_callB (call_min2 rfl) (by rfl) T.b_min (by decide +kernel) (pa_cons pe_int (pa_cons (pe_callB (lenQ (K := K) rfl) (by rfl) T.b_len PySem.boot_len (pa_cons (pv 0) pa_nil)) pa_nil)))) pa_nil)) (blkOk_by (own := [("_law_k", 1)]) (N := ["_law_script", "_law_k"]) (sc := defScope s_p_law) (by decide +kernel)) (fun _ _ _ _ _ => (pg_name (i := 1) sc_p_law.nd rfl (by first | exact Or.inl rfl | exact Or.inr rfl))) (fun _ _ _ _ _ => pts_nil) (fun _ _ _ _ _ => (pe_call (ok_l_right T) hr (by rfl) T.d_l_right.mg T.d_l_right.fn.kp T.d_l_right.b .nil pass0 (pa_cons (pe_call (ok_l_box T) (hr.mono (by decide)) (by rfl) T.d_l_box.mg T.d_l_box.fn.kp T.d_l_box.b .nil pass0 (pa_cons (pv 0) (pa_cons (pv 1) pa_nil))) (pa_cons (pv 1) pa_nil))))) pa_nil)))), ?_⟩
    refine ⟨_, rfl, a, _, rfl, .inl hS, _, _, rfl, _, _, rfl, rfl, _, rfl, ?_⟩
    rw [List.length_map]
    obtain ⟨m, em, m1, m2⟩ : ∃ m : Nat, (1 + (if (ns.length : Int) < 1 then (ns.length : Int) else 1)) = (m : Int) ∧ 1 ≤ m ∧ m ≤ 64 := by
      refine ⟨(1 + (if (ns.length : Int) < 1 then (ns.length : Int) else 1)).toNat, ?_, ?_, ?_⟩ <;> split <;> omega
    dsimp only
    rw [em]
    refine ⟨by omega, by omega, fun D hD => ?_⟩
    refine lc_range (lo := 0) (n := m) (fun i H' => Same H H' ∧ H' D = some (.lst (List.replicate i (.bl true)))) ⟨same_new hD, upd_same⟩ (fun i H1 hi z => ?_) (fun H1 z => ?_)
    · obtain ⟨sm, hd⟩ := z
      refine ⟨rfl, yesT ?_⟩
      refine ⟨_, rfl, _, rfl, a, ns, _, rfl, sm.seq hS, by omega, by omega, fun p H2 s2 n2 B2 => ?_⟩
      refine ⟨_, rfl, p, _, rfl, B2, fun H3 F3 => ?_⟩
      have hd2 := s2 _ _ hd
      have dp : D ≠ p := ne_of_none hd n2
      have s3 : Same H1 H3 := fun b o e => F3 b o (ne_of_none e n2) (s2 b o e)
      have hd3 := s3 _ _ hd
      refine ⟨_, hd3, by rw [List.length_replicate]; exact small' (by omega), Same.put (sm.trans s3) hD, ?_⟩
      rw [upd_same, List.replicate_succ'] <;> rfl
    · obtain ⟨sm, hd⟩ := z
      obtain ⟨t1, t2⟩ := all_true m
      refine ⟨D, List.replicate m true, rfl, SqL.of (by rw [t1]; exact hd), ?_⟩
      rw [t2]
      exact q H1

end
end KR
namespace KR
open PySem PySem.Spec PyProof.Rows L2
theorem all_mk {l : PySem.W.OpenLaw} {w : World} {K : PySem.W.Frag} {h : Heap} {mg : Str → Option Value} {fa : Addr} (X : K.In h) (G : h.Ns mainGlobals mg) (hfa : mg "law" = some (.ref fa))
    {od0 an0 : Option Addr} {sl0 : Array (Option Value)} {oc0 kV0 dc0 pm0 cd0 ct0 : Value} {f0 : Addr}
    (a0 : PySem.W.nsIn K mainGlobals "frac_of" = some (some (.ref f0))) (l0 : K.lookup f0 = some ⟨oc0, od0, .func (PySem.W.fnOf "frac_of" "frac_of" (defArgs s_p_frac_of) (defBody s_p_frac_of) (defScope s_p_frac_of) .none kV0 dc0 pm0 an0 cd0 ct0), sl0⟩) (c0 : PySem.W.codeIn K cd0 "frac_of" = true) (k0 : PySem.W.keepIn K (.ref f0) = true)
    {od1 an1 : Option Addr} {sl1 : Array (Option Value)} {oc1 kV1 dc1 pm1 cd1 ct1 : Value} {f1 : Addr}
    (a1 : PySem.W.nsIn K mainGlobals "sum_of" = some (some (.ref f1))) (l1 : K.lookup f1 = some ⟨oc1, od1, .func (PySem.W.fnOf "sum_of" "sum_of" (defArgs s_p_sum_of) (defBody s_p_sum_of) (defScope s_p_sum_of) .none kV1 dc1 pm1 an1 cd1 ct1), sl1⟩) (c1 : PySem.W.codeIn K cd1 "sum_of" = true) (k1 : PySem.W.keepIn K (.ref f1) = true)
    {od2 an2 : Option Addr} {sl2 : Array (Option Value)} {oc2 kV2 dc2 pm2 cd2 ct2 : Value} {f2 : Addr}
    (a2 : PySem.W.nsIn K mainGlobals "sum_of_all" = some (some (.ref f2))) (l2 : K.lookup f2 = some ⟨oc2, od2, .func (PySem.W.fnOf "sum_of_all" "sum_of_all" (defArgs s_p_sum_of_all) (defBody s_p_sum_of_all) (defScope s_p_sum_of_all) .none kV2 dc2 pm2 an2 cd2 ct2), sl2⟩) (c2 : PySem.W.codeIn K cd2 "sum_of_all" = true) (k2 : PySem.W.keepIn K (.ref f2) = true)
    {od3 an3 : Option Addr} {sl3 : Array (Option Value)} {oc3 kV3 dc3 pm3 cd3 ct3 : Value} {f3 : Addr}
    (a3 : PySem.W.nsIn K mainGlobals "product" = some (some (.ref f3))) (l3 : K.lookup f3 = some ⟨oc3, od3, .func (PySem.W.fnOf "product" "product" (defArgs s_p_product) (defBody s_p_product) (defScope s_p_product) .none kV3 dc3 pm3 an3 cd3 ct3), sl3⟩) (c3 : PySem.W.codeIn K cd3 "product" = true) (k3 : PySem.W.keepIn K (.ref f3) = true)
    {od4 an4 : Option Addr} {sl4 : Array (Option Value)} {oc4 kV4 dc4 pm4 cd4 ct4 : Value} {f4 : Addr}
    (a4 : PySem.W.nsIn K mainGlobals "walked_once" = some (some (.ref f4))) (l4 : K.lookup f4 = some ⟨oc4, od4, .func (PySem.W.fnOf "walked_once" "walked_once" (defArgs s_p_walked_once) (defBody s_p_walked_once) (defScope s_p_walked_once) .none kV4 dc4 pm4 an4 cd4 ct4), sl4⟩) (c4 : PySem.W.codeIn K cd4 "walked_once" = true) (k4 : PySem.W.keepIn K (.ref f4) = true)
    {od5 an5 : Option Addr} {sl5 : Array (Option Value)} {oc5 kV5 dc5 pm5 cd5 ct5 : Value} {f5 : Addr}
    (a5 : PySem.W.nsIn K mainGlobals "walked_on" = some (some (.ref f5))) (l5 : K.lookup f5 = some ⟨oc5, od5, .func (PySem.W.fnOf "walked_on" "walked_on" (defArgs s_p_walked_on) (defBody s_p_walked_on) (defScope s_p_walked_on) .none kV5 dc5 pm5 an5 cd5 ct5), sl5⟩) (c5 : PySem.W.codeIn K cd5 "walked_on" = true) (k5 : PySem.W.keepIn K (.ref f5) = true)
    {od6 an6 : Option Addr} {sl6 : Array (Option Value)} {oc6 kV6 dc6 pm6 cd6 ct6 : Value} {f6 : Addr}
    (a6 : PySem.W.nsIn K mainGlobals "_dripped_of" = some (some (.ref f6))) (l6 : K.lookup f6 = some ⟨oc6, od6, .func (PySem.W.fnOf "_dripped_of" "_dripped_of" (defArgs s_p__dripped_of) (defBody s_p__dripped_of) (defScope s_p__dripped_of) .none kV6 dc6 pm6 an6 cd6 ct6), sl6⟩) (c6 : PySem.W.codeIn K cd6 "_dripped_of" = true) (k6 : PySem.W.keepIn K (.ref f6) = true)
    {od7 an7 : Option Addr} {sl7 : Array (Option Value)} {oc7 kV7 dc7 pm7 cd7 ct7 : Value} {f7 : Addr}
    (a7 : PySem.W.nsIn K mainGlobals "_law_cell_at" = some (some (.ref f7))) (l7 : K.lookup f7 = some ⟨oc7, od7, .func (PySem.W.fnOf "_law_cell_at" "_law_cell_at" (defArgs s_l_cell_at) (defBody s_l_cell_at) (defScope s_l_cell_at) .none kV7 dc7 pm7 an7 cd7 ct7), sl7⟩) (c7 : PySem.W.codeIn K cd7 "_law_cell_at" = true) (k7 : PySem.W.keepIn K (.ref f7) = true)
    {od8 an8 : Option Addr} {sl8 : Array (Option Value)} {oc8 kV8 dc8 pm8 cd8 ct8 : Value} {f8 : Addr}
    (a8 : PySem.W.nsIn K mainGlobals "_law_box" = some (some (.ref f8))) (l8 : K.lookup f8 = some ⟨oc8, od8, .func (PySem.W.fnOf "_law_box" "_law_box" (defArgs s_l_box) (defBody s_l_box) (defScope s_l_box) .none kV8 dc8 pm8 an8 cd8 ct8), sl8⟩) (c8 : PySem.W.codeIn K cd8 "_law_box" = true) (k8 : PySem.W.keepIn K (.ref f8) = true)
    {od9 an9 : Option Addr} {sl9 : Array (Option Value)} {oc9 kV9 dc9 pm9 cd9 ct9 : Value} {f9 : Addr}
    (a9 : PySem.W.nsIn K mainGlobals "_law_take" = some (some (.ref f9))) (l9 : K.lookup f9 = some ⟨oc9, od9, .func (PySem.W.fnOf "_law_take" "_law_take" (defArgs s_l_take) (defBody s_l_take) (defScope s_l_take) .none kV9 dc9 pm9 an9 cd9 ct9), sl9⟩) (c9 : PySem.W.codeIn K cd9 "_law_take" = true) (k9 : PySem.W.keepIn K (.ref f9) = true)
    {od10 an10 : Option Addr} {sl10 : Array (Option Value)} {oc10 kV10 dc10 pm10 cd10 ct10 : Value} {f10 : Addr}
    (a10 : PySem.W.nsIn K mainGlobals "_law_low" = some (some (.ref f10))) (l10 : K.lookup f10 = some ⟨oc10, od10, .func (PySem.W.fnOf "_law_low" "_law_low" (defArgs s_l_low) (defBody s_l_low) (defScope s_l_low) .none kV10 dc10 pm10 an10 cd10 ct10), sl10⟩) (c10 : PySem.W.codeIn K cd10 "_law_low" = true) (k10 : PySem.W.keepIn K (.ref f10) = true)
    {od11 an11 : Option Addr} {sl11 : Array (Option Value)} {oc11 kV11 dc11 pm11 cd11 ct11 : Value} {f11 : Addr}
    (a11 : PySem.W.nsIn K mainGlobals "_law_plus" = some (some (.ref f11))) (l11 : K.lookup f11 = some ⟨oc11, od11, .func (PySem.W.fnOf "_law_plus" "_law_plus" (defArgs s_l_plus) (defBody s_l_plus) (defScope s_l_plus) .none kV11 dc11 pm11 an11 cd11 ct11), sl11⟩) (c11 : PySem.W.codeIn K cd11 "_law_plus" = true) (k11 : PySem.W.keepIn K (.ref f11) = true)
    {od12 an12 : Option Addr} {sl12 : Array (Option Value)} {oc12 kV12 dc12 pm12 cd12 ct12 : Value} {f12 : Addr}
    (a12 : PySem.W.nsIn K mainGlobals "_law_by" = some (some (.ref f12))) (l12 : K.lookup f12 = some ⟨oc12, od12, .func (PySem.W.fnOf "_law_by" "_law_by" (defArgs s_l_by) (defBody s_l_by) (defScope s_l_by) .none kV12 dc12 pm12 an12 cd12 ct12), sl12⟩) (c12 : PySem.W.codeIn K cd12 "_law_by" = true) (k12 : PySem.W.keepIn K (.ref f12) = true)
    {od13 an13 : Option Addr} {sl13 : Array (Option Value)} {oc13 kV13 dc13 pm13 cd13 ct13 : Value} {f13 : Addr}
    (a13 : PySem.W.nsIn K mainGlobals "_law_all" = some (some (.ref f13))) (l13 : K.lookup f13 = some ⟨oc13, od13, .func (PySem.W.fnOf "_law_all" "_law_all" (defArgs s_l_all) (defBody s_l_all) (defScope s_l_all) .none kV13 dc13 pm13 an13 cd13 ct13), sl13⟩) (c13 : PySem.W.codeIn K cd13 "_law_all" = true) (k13 : PySem.W.keepIn K (.ref f13) = true)
    {od14 an14 : Option Addr} {sl14 : Array (Option Value)} {oc14 kV14 dc14 pm14 cd14 ct14 : Value} {f14 : Addr}
    (a14 : PySem.W.nsIn K mainGlobals "_law_is_fracs" = some (some (.ref f14))) (l14 : K.lookup f14 = some ⟨oc14, od14, .func (PySem.W.fnOf "_law_is_fracs" "_law_is_fracs" (defArgs s_l_is_fracs) (defBody s_l_is_fracs) (defScope s_l_is_fracs) .none kV14 dc14 pm14 an14 cd14 ct14), sl14⟩) (c14 : PySem.W.codeIn K cd14 "_law_is_fracs" = true) (k14 : PySem.W.keepIn K (.ref f14) = true)
    {od15 an15 : Option Addr} {sl15 : Array (Option Value)} {oc15 kV15 dc15 pm15 cd15 ct15 : Value} {f15 : Addr}
    (a15 : PySem.W.nsIn K mainGlobals "_law_is_frac_told" = some (some (.ref f15))) (l15 : K.lookup f15 = some ⟨oc15, od15, .func (PySem.W.fnOf "_law_is_frac_told" "_law_is_frac_told" (defArgs s_l_is_frac_told) (defBody s_l_is_frac_told) (defScope s_l_is_frac_told) .none kV15 dc15 pm15 an15 cd15 ct15), sl15⟩) (c15 : PySem.W.codeIn K cd15 "_law_is_frac_told" = true) (k15 : PySem.W.keepIn K (.ref f15) = true)
    {od16 an16 : Option Addr} {sl16 : Array (Option Value)} {oc16 kV16 dc16 pm16 cd16 ct16 : Value} {f16 : Addr}
    (a16 : PySem.W.nsIn K mainGlobals "_law_goes" = some (some (.ref f16))) (l16 : K.lookup f16 = some ⟨oc16, od16, .func (PySem.W.fnOf "_law_goes" "_law_goes" (defArgs s_l_goes) (defBody s_l_goes) (defScope s_l_goes) .none kV16 dc16 pm16 an16 cd16 ct16), sl16⟩) (c16 : PySem.W.codeIn K cd16 "_law_goes" = true) (k16 : PySem.W.keepIn K (.ref f16) = true)
    {od17 an17 : Option Addr} {sl17 : Array (Option Value)} {oc17 kV17 dc17 pm17 cd17 ct17 : Value} {f17 : Addr}
    (a17 : PySem.W.nsIn K mainGlobals "_law_kinds" = some (some (.ref f17))) (l17 : K.lookup f17 = some ⟨oc17, od17, .func (PySem.W.fnOf "_law_kinds" "_law_kinds" (defArgs s_l_kinds) (defBody s_l_kinds) (defScope s_l_kinds) .none kV17 dc17 pm17 an17 cd17 ct17), sl17⟩) (c17 : PySem.W.codeIn K cd17 "_law_kinds" = true) (k17 : PySem.W.keepIn K (.ref f17) = true)
    {od18 an18 : Option Addr} {sl18 : Array (Option Value)} {oc18 kV18 dc18 pm18 cd18 ct18 : Value} {f18 : Addr}
    (a18 : PySem.W.nsIn K mainGlobals "_law_amounts" = some (some (.ref f18))) (l18 : K.lookup f18 = some ⟨oc18, od18, .func (PySem.W.fnOf "_law_amounts" "_law_amounts" (defArgs s_l_amounts) (defBody s_l_amounts) (defScope s_l_amounts) .none kV18 dc18 pm18 an18 cd18 ct18), sl18⟩) (c18 : PySem.W.codeIn K cd18 "_law_amounts" = true) (k18 : PySem.W.keepIn K (.ref f18) = true)
    {od19 an19 : Option Addr} {sl19 : Array (Option Value)} {oc19 kV19 dc19 pm19 cd19 ct19 : Value} {f19 : Addr}
    (a19 : PySem.W.nsIn K mainGlobals "_law_once" = some (some (.ref f19))) (l19 : K.lookup f19 = some ⟨oc19, od19, .func (PySem.W.fnOf "_law_once" "_law_once" (defArgs s_l_once) (defBody s_l_once) (defScope s_l_once) .none kV19 dc19 pm19 an19 cd19 ct19), sl19⟩) (c19 : PySem.W.codeIn K cd19 "_law_once" = true) (k19 : PySem.W.keepIn K (.ref f19) = true)
    {od20 an20 : Option Addr} {sl20 : Array (Option Value)} {oc20 kV20 dc20 pm20 cd20 ct20 : Value} {f20 : Addr}
    (a20 : PySem.W.nsIn K mainGlobals "_law_right" = some (some (.ref f20))) (l20 : K.lookup f20 = some ⟨oc20, od20, .func (PySem.W.fnOf "_law_right" "_law_right" (defArgs s_l_right) (defBody s_l_right) (defScope s_l_right) .none kV20 dc20 pm20 an20 cd20 ct20), sl20⟩) (c20 : PySem.W.codeIn K cd20 "_law_right" = true) (k20 : PySem.W.keepIn K (.ref f20) = true)
    {od21 an21 : Option Addr} {sl21 : Array (Option Value)} {oc21 kV21 dc21 pm21 cd21 ct21 : Value} {f21 : Addr}
    (a21 : PySem.W.nsIn K mainGlobals "law" = some (some (.ref f21))) (l21 : K.lookup f21 = some ⟨oc21, od21, .func (PySem.W.fnOf "law" "law" (defArgs s_p_law) (defBody s_p_law) (defScope s_p_law) .none kV21 dc21 pm21 an21 cd21 ct21), sl21⟩) (c21 : PySem.W.codeIn K cd21 "law" = true) (k21 : PySem.W.keepIn K (.ref f21) = true)
    (z_abs : PySem.W.nsIn K mainGlobals "abs" = some none)
    (z_all : PySem.W.nsIn K mainGlobals "all" = some none)
    (z_bool : PySem.W.nsIn K mainGlobals "bool" = some none)
    (z_enumerate : PySem.W.nsIn K mainGlobals "enumerate" = some none)
    (z_int : PySem.W.nsIn K mainGlobals "int" = some none)
    (z_isinstance : PySem.W.nsIn K mainGlobals "isinstance" = some none)
    (z_len : PySem.W.nsIn K mainGlobals "len" = some none)
    (z_list : PySem.W.nsIn K mainGlobals "list" = some none)
    (z_min : PySem.W.nsIn K mainGlobals "min" = some none)
    (z_range : PySem.W.nsIn K mainGlobals "range" = some none)
    (z_tuple : PySem.W.nsIn K mainGlobals "tuple" = some none)
    (z_zip : PySem.W.nsIn K mainGlobals "zip" = some none)
    (z_gcd : PySem.W.nsIn K mainGlobals "gcd" = some (some (.builtin "math.gcd")))
    {a_NOUGHT : Addr} {od_NOUGHT : Option Addr} {n_NOUGHT : Nat} {sl_NOUGHT : Array (Option Value)} {t_NOUGHT_0 t_NOUGHT_1 : Tok} (z_NOUGHT : PySem.W.nsIn K mainGlobals "NOUGHT" = some (some (.ref a_NOUGHT))) (l_NOUGHT : K.lookup a_NOUGHT = some ⟨.type "tuple", od_NOUGHT, .seq #[.int 0 t_NOUGHT_0, .int 1 t_NOUGHT_1] n_NOUGHT, sl_NOUGHT⟩)
    : ∃ fd : FuncData, (∀ (s : Shared) (v : Value), BindsTo s fd ⟨[v], []⟩ [("_law_script", v)]) ∧ ∀ base : Heap, K.In base → base.Ns mainGlobals mg → FnOk l.prog w K mg base CX0 7 fa fd ["_law_script"] (sp_p_law K) := by
  have e := hfa.symm.trans (PySem.W.mg_of X G a21)
  cases e
  have F0 := fun_mk (st := s_p_frac_of) l0 c0 k0
  have F1 := fun_mk (st := s_p_sum_of) l1 c1 k1
  have F2 := fun_mk (st := s_p_sum_of_all) l2 c2 k2
  have F3 := fun_mk (st := s_p_product) l3 c3 k3
  have F4 := fun_mk (st := s_p_walked_once) l4 c4 k4
  have F5 := fun_mk (st := s_p_walked_on) l5 c5 k5
  have F6 := fun_mk (st := s_p__dripped_of) l6 c6 k6
  have F7 := fun_mk (st := s_l_cell_at) l7 c7 k7
  have F8 := fun_mk (st := s_l_box) l8 c8 k8
  have F9 := fun_mk (st := s_l_take) l9 c9 k9
  have F10 := fun_mk (st := s_l_low) l10 c10 k10
  have F11 := fun_mk (st := s_l_plus) l11 c11 k11
  have F12 := fun_mk (st := s_l_by) l12 c12 k12
  have F13 := fun_mk (st := s_l_all) l13 c13 k13
  have F14 := fun_mk (st := s_l_is_fracs) l14 c14 k14
  have F15 := fun_mk (st := s_l_is_frac_told) l15 c15 k15
  have F16 := fun_mk (st := s_l_goes) l16 c16 k16
  have F17 := fun_mk (st := s_l_kinds) l17 c17 k17
  have F18 := fun_mk (st := s_l_amounts) l18 c18 k18
  have F19 := fun_mk (st := s_l_once) l19 c19 k19
  have F20 := fun_mk (st := s_l_right) l20 c20 k20
  have F21 := fun_mk (st := s_p_law) l21 c21 k21
  let T : All K mg := ⟨_, _, ⟨F0, PySem.W.mg_of X G a0, F0.binds (ps := ["top", "bottom"]) fun _ _ _ _ _ _ us hl => match us, hl with | [_, _], _ => rfl⟩, _, _, ⟨F1, PySem.W.mg_of X G a1, F1.binds (ps := ["one", "other"]) fun _ _ _ _ _ _ us hl => match us, hl with | [_, _], _ => rfl⟩, _, _, ⟨F2, PySem.W.mg_of X G a2, F2.binds (ps := ["ones"]) fun _ _ _ _ _ _ us hl => match us, hl with | [_], _ => rfl⟩, _, _, ⟨F3, PySem.W.mg_of X G a3, F3.binds (ps := ["one", "other"]) fun _ _ _ _ _ _ us hl => match us, hl with | [_, _], _ => rfl⟩, _, _, ⟨F4, PySem.W.mg_of X G a4, F4.binds (ps := ["kinds", "amounts"]) fun _ _ _ _ _ _ us hl => match us, hl with | [_, _], _ => rfl⟩, _, _, ⟨F5, PySem.W.mg_of X G a5, F5.binds (ps := ["kinds", "amounts", "many"]) fun _ _ _ _ _ _ us hl => match us, hl with | [_, _, _], _ => rfl⟩, _, _, ⟨F6, PySem.W.mg_of X G a6, F6.binds (ps := ["kinds", "amounts"]) fun _ _ _ _ _ _ us hl => match us, hl with | [_, _], _ => rfl⟩, _, _, ⟨F7, PySem.W.mg_of X G a7, F7.binds (ps := ["_law_script", "_law_k"]) fun _ _ _ _ _ _ us hl => match us, hl with | [_, _], _ => rfl⟩, _, _, ⟨F8, PySem.W.mg_of X G a8, F8.binds (ps := ["_law_script", "_law_k"]) fun _ _ _ _ _ _ us hl => match us, hl with | [_, _], _ => rfl⟩, _, _, ⟨F9, PySem.W.mg_of X G a9, F9.binds (ps := ["_law_box_here", "_law_many"]) fun _ _ _ _ _ _ us hl => match us, hl with | [_, _], _ => rfl⟩, _, _, ⟨F10, PySem.W.mg_of X G a10, F10.binds (ps := ["_law_top", "_law_bottom"]) fun _ _ _ _ _ _ us hl => match us, hl with | [_, _], _ => rfl⟩, _, _, ⟨F11, PySem.W.mg_of X G a11, F11.binds (ps := ["_law_one", "_law_other"]) fun _ _ _ _ _ _ us hl => match us, hl with | [_, _], _ => rfl⟩, _, _, ⟨F12, PySem.W.mg_of X G a12, F12.binds (ps := ["_law_one", "_law_other"]) fun _ _ _ _ _ _ us hl => match us, hl with | [_, _], _ => rfl⟩, _, _, ⟨F13, PySem.W.mg_of X G a13, F13.binds (ps := ["_law_fracs"]) fun _ _ _ _ _ _ us hl => match us, hl with | [_], _ => rfl⟩, _, _, ⟨F14, PySem.W.mg_of X G a14, F14.binds (ps := ["_law_found", "_law_due"]) fun _ _ _ _ _ _ us hl => match us, hl with | [_, _], _ => rfl⟩, _, _, ⟨F15, PySem.W.mg_of X G a15, F15.binds (ps := ["_law_found", "_law_due"]) fun _ _ _ _ _ _ us hl => match us, hl with | [_, _], _ => rfl⟩, _, _, ⟨F16, PySem.W.mg_of X G a16, F16.binds (ps := ["_law_box_here", "_law_many"]) fun _ _ _ _ _ _ us hl => match us, hl with | [_, _], _ => rfl⟩, _, _, ⟨F17, PySem.W.mg_of X G a17, F17.binds (ps := ["_law_box_here", "_law_many"]) fun _ _ _ _ _ _ us hl => match us, hl with | [_, _], _ => rfl⟩, _, _, ⟨F18, PySem.W.mg_of X G a18, F18.binds (ps := ["_law_box_here", "_law_many", "_law_sorts"]) fun _ _ _ _ _ _ us hl => match us, hl with | [_, _, _], _ => rfl⟩, _, _, ⟨F19, PySem.W.mg_of X G a19, F19.binds (ps := ["_law_kinds_here", "_law_amounts_here"]) fun _ _ _ _ _ _ us hl => match us, hl with | [_, _], _ => rfl⟩, _, _, ⟨F20, PySem.W.mg_of X G a20, F20.binds (ps := ["_law_box_here", "_law_k"]) fun _ _ _ _ _ _ us hl => match us, hl with | [_, _], _ => rfl⟩, _, _, ⟨F21, PySem.W.mg_of X G a21, F21.binds (ps := ["_law_script"]) fun _ _ _ _ _ _ us hl => match us, hl with | [_], _ => rfl⟩, PySem.W.mg_none_of X G z_abs, PySem.W.mg_none_of X G z_all, PySem.W.mg_none_of X G z_bool, PySem.W.mg_none_of X G z_enumerate, PySem.W.mg_none_of X G z_int, PySem.W.mg_none_of X G z_isinstance, PySem.W.mg_none_of X G z_len, PySem.W.mg_none_of X G z_list, PySem.W.mg_none_of X G z_min, PySem.W.mg_none_of X G z_range, PySem.W.mg_none_of X G z_tuple, PySem.W.mg_none_of X G z_zip, PySem.W.mg_of X G z_gcd, _, PySem.W.mg_of X G z_NOUGHT, fun H => .inr ⟨_, _, _, l_NOUGHT, rfl, rfl, small (n := 2) (by decide), .cons ⟨_, rfl⟩ (.cons ⟨_, rfl⟩ (.nil))⟩⟩
  exact ⟨T.fd_p_law, fun s v => .of_eq rfl, fun base _ _ => ok_p_law T⟩
end KR
open PySem PySem.W PyProof.Rows
set_option maxRecDepth 100000 in
set_option maxHeartbeats 0 in
theorem PySem.Challenge.cw_kettlerow_k53_many_rounds_holds : PySem.Challenge.rw_kettlerow_k53_many_rounds.Holds := by
  w_on; o_law; k_head; (case hw => w_witness2)
  k_fill
  refine L2.walk_of (l := PySem.Challenge.rw_kettlerow_k53_many_rounds) (n := 63) (k := 7) (x := "_law_script") (CX := fun _ => L2.CX0) (sp := fun w => KR.sp_p_law _) rfl (by decide) rfl ⟨rfl, by decide, by decide⟩ (fun w h Y => PySem.W.kIn_of Y) ?F (fun _ _ a ns hl _ hS => ⟨a, ns, rfl, hS, hl, fun _ => rfl⟩) (fun _ _ _ _ _ h => h)
  case F =>
    intro w mg fa h KX G hmg
    refine' KR.all_mk KX G hmg ?a0 ?l0 ?c0 ?k0 ?a1 ?l1 ?c1 ?k1 ?a2 ?l2 ?c2 ?k2 ?a3 ?l3 ?c3 ?k3 ?a4 ?l4 ?c4 ?k4 ?a5 ?l5 ?c5 ?k5 ?a6 ?l6 ?c6 ?k6 ?a7 ?l7 ?c7 ?k7 ?a8 ?l8 ?c8 ?k8 ?a9 ?l9 ?c9 ?k9 ?a10 ?l10 ?c10 ?k10 ?a11 ?l11 ?c11 ?k11 ?a12 ?l12 ?c12 ?k12 ?a13 ?l13 ?c13 ?k13 ?a14 ?l14 ?c14 ?k14 ?a15 ?l15 ?c15 ?k15 ?a16 ?l16 ?c16 ?k16 ?a17 ?l17 ?c17 ?k17 ?a18 ?l18 ?c18 ?k18 ?a19 ?l19 ?c19 ?k19 ?a20 ?l20 ?c20 ?k20 ?a21 ?l21 ?c21 ?k21 ?z_abs ?z_all ?z_bool ?z_enumerate ?z_int ?z_isinstance ?z_len ?z_list ?z_min ?z_range ?z_tuple ?z_zip ?z_gcd ?z_NOUGHT ?l_NOUGHT
    (case a0 => k_is)
    (case l0 => k_is)
    (case c0 => k_is)
    (case k0 => k_is)
    (case a1 => k_is)
    (case l1 => k_is)
    (case c1 => k_is)
    (case k1 => k_is)
    (case a2 => k_is)
    (case l2 => k_is)
    (case c2 => k_is)
    (case k2 => k_is)
    (case a3 => k_is)
    (case l3 => k_is)
    (case c3 => k_is)
    (case k3 => k_is)
    (case a4 => k_is)
    (case l4 => k_is)
    (case c4 => k_is)
    (case k4 => k_is)
    (case a5 => k_is)
    (case l5 => k_is)
    (case c5 => k_is)
    (case k5 => k_is)
    (case a6 => k_is)
    (case l6 => k_is)
    (case c6 => k_is)
    (case k6 => k_is)
    (case a7 => k_is)
    (case l7 => k_is)
    (case c7 => k_is)
    (case k7 => k_is)
    (case a8 => k_is)
    (case l8 => k_is)
    (case c8 => k_is)
    (case k8 => k_is)
    (case a9 => k_is)
    (case l9 => k_is)
    (case c9 => k_is)
    (case k9 => k_is)
    (case a10 => k_is)
    (case l10 => k_is)
    (case c10 => k_is)
    (case k10 => k_is)
    (case a11 => k_is)
    (case l11 => k_is)
    (case c11 => k_is)
    (case k11 => k_is)
    (case a12 => k_is)
    (case l12 => k_is)
    (case c12 => k_is)
    (case k12 => k_is)
    (case a13 => k_is)
    (case l13 => k_is)
    (case c13 => k_is)
    (case k13 => k_is)
    (case a14 => k_is)
    (case l14 => k_is)
    (case c14 => k_is)
    (case k14 => k_is)
    (case a15 => k_is)
    (case l15 => k_is)
    (case c15 => k_is)
    (case k15 => k_is)
    (case a16 => k_is)
    (case l16 => k_is)
    (case c16 => k_is)
    (case k16 => k_is)
    (case a17 => k_is)
    (case l17 => k_is)
    (case c17 => k_is)
    (case k17 => k_is)
    (case a18 => k_is)
    (case l18 => k_is)
    (case c18 => k_is)
    (case k18 => k_is)
    (case a19 => k_is)
    (case l19 => k_is)
    (case c19 => k_is)
    (case k19 => k_is)
    (case a20 => k_is)
    (case l20 => k_is)
    (case c20 => k_is)
    (case k20 => k_is)
    (case a21 => k_is)
    (case l21 => k_is)
    (case c21 => k_is)
    (case k21 => k_is)
    (case z_abs => k_is)
    (case z_all => k_is)
    (case z_bool => k_is)
    (case z_enumerate => k_is)
    (case z_int => k_is)
    (case z_isinstance => k_is)
    (case z_len => k_is)
    (case z_list => k_is)
    (case z_min => k_is)
    (case z_range => k_is)
    (case z_tuple => k_is)
    (case z_zip => k_is)
    (case z_gcd => k_is)
    (case z_NOUGHT => k_is)
    (case l_NOUGHT => k_is)
#print axioms PySem.Challenge.cw_kettlerow_k53_many_rounds_holds
